import PyProof.Rows.All
import Wide.All
import OpenK.AllK
import Wide.FinOn
import PyProof.EqAt
import PyProof.EqKinds
import PyProof.TupleCall
import HandS.Base
import HandS.Call
import HandS.List
import HandS.Comp
import HandS.Ends
import HandS.Dict
import HandS.Iter
import HandS.Words
import HandS.WordsList
import HandS.Evl
import HandS.Zip
import HandS.IsInst
import HandS.Walk
import HandS.Exc
import HandS.ExcOwn
import HandS.ExcInit
import HandS.ExcValue
import KE.KExcIs
import HandS.ExcField
import PySem.Challenge.RW_toldenough_k04_samples_changed
import KE.GoesEnum
import KE.GoesMore
import HandS.OwnEq
import HandS.TupAny
import HandS.Codes
import HandS.TryOnly
import HandS.WordsExc
import HandS.Defaults
import HandS.Steps
import HandS.Conv
import HandS.TryMany
set_option Elab.async false
set_option linter.all false
set_option maxRecDepth 100000
set_option maxHeartbeats 2000000
namespace U
open PySem L2
open Evl (Ex)
/-! ### heaps with hidden cells -/
/-- H without the cells of L -/
def W (L : List Addr) (H : Hp) : Hp := fun a => if a ∈ L then none else H a
/-- the hidden cells stand in H -/
def Hid (L : List Addr) (H : Hp) : Prop := ∀ a ∈ L, H a ≠ none
section
variable {L : List Addr} {H H' H2 : Hp} {a p : Addr} {o u : HO}
theorem w_in (h : W L H a = some o) : H a = some o ∧ a ∉ L := by
  unfold W at h
  by_cases e : a ∈ L
  · rw [if_pos e] at h
    cases h
  · rw [if_neg e] at h
    exact ⟨h, e⟩
theorem w_of (n : a ∉ L) (h : H a = some o) : W L H a = some o := by
  unfold W
  rw [if_neg n]
  exact h
theorem w_sub : Ex (W L H) H := fun a o h => (w_in h).1
theorem w_ex (e : Ex H H') : Ex (W L H) (W L H') := fun a o h => w_of (w_in h).2 (e a o (w_in h).1)
theorem w_nil : W [] H = H := by
  funext a
  unfold W
  rw [if_neg (by simp)]
theorem hid_nil : Hid [] H := fun _ h => by cases h
theorem hid_ex (e : Ex H H') (h : Hid L H) : Hid L H' := fun a m z => by
  cases q : H a with
  | none => exact h a m q
  | some o =>
    have r := e a o q
    rw [z] at r
    cases r
theorem hid_not (h : Hid L H) (n : H p = none) : p ∉ L := fun m => h p m n
theorem w_new (h : Hid L H) (n : H p = none) : W L (upd H p o) p = some o := w_of (hid_not h n) upd_same
theorem w_upd_in (m : p ∈ L) : W L (upd H p o) = W L H := by
  funext a
  unfold W
  by_cases e : a ∈ L
  · rw [if_pos e, if_pos e]
  · rw [if_neg e, if_neg e, upd_ne (fun z => e (by rw [z]; exact m))]
theorem w_sub2 {L2 : List Addr} (s : ∀ a ∈ L, a ∈ L2) : Ex (W L2 H) (W L H) := fun a o h => w_of (fun m => (w_in h).2 (s a m)) (w_in h).1
theorem hid_upd (h : Hid L H) : Hid L (upd H p o) := fun a m z => by
  by_cases e : a = p
  · rw [e, upd_same] at z
    cases z
  · rw [upd_ne e] at z
    exact h a m z
end
/-! ### data that stands -/
section
variable {K : PySem.W.Frag} {H H' : Hp}
mutual
theorem dp_mono (e : Ex H H') : ∀ (d : PyData) (v : V), Dp K H v d → Dp K H' v d
  | .none, _, h => by cases h; exact .non
  | .bool _, _, h => by cases h; exact .bl _
  | .int _, _, h => by cases h; exact .int _
  | .str _, _, h => by cases h; exact .str _
  | .list ds, _, h => by
    cases h with
    | lst hs ha => exact .lst (Evl.ex_l e hs) (dpa_mono e ds _ ha)
  | .tuple ds, _, h => by
    cases h with
    | tup hs ha => exact .tup (Evl.ex_t e hs) (dpa_mono e ds _ ha)
  | .dict _, _, h => by cases h
theorem dpa_mono (e : Ex H H') : ∀ (ds : List PyData) (vs : List V), DpAll K H vs ds → DpAll K H' vs ds
  | [], _, h => by cases h; exact .nil
  | d :: ds, _, h => by
    cases h with
    | cons h1 h2 => exact .cons (dp_mono e d _ h1) (dpa_mono e ds _ h2)
end
theorem _root_.L2.Dp.up {v : V} {d : PyData} (h : Dp K H v d) (e : Ex H H') : Dp K H' v d := dp_mono e d v h
theorem _root_.L2.DpAll.up {vs : List V} {ds : List PyData} (h : DpAll K H vs ds) (e : Ex H H') : DpAll K H' vs ds := dpa_mono e ds vs h
theorem dpa_len : ∀ {vs : List V} {ds : List PyData}, DpAll K H vs ds → vs.length = ds.length
  | _, _, .nil => rfl
  | _, _, .cons _ t => congrArg Nat.succ (dpa_len t)
theorem dpa_get : ∀ {vs : List V} {ds : List PyData} {i : Nat} {v : V}, DpAll K H vs ds → vs[i]? = some v → ∃ d, ds[i]? = some d ∧ Dp K H v d
  | _, _, _, _, .nil, e => by simp at e
  | _, _, 0, _, .cons r _, e => by simp at e; subst e; exact ⟨_, rfl, r⟩
  | _, _, i + 1, x, .cons _ t, e => by
    obtain ⟨d, h1, h2⟩ := dpa_get (i := i) (v := x) t (by simpa using e)
    exact ⟨d, by simpa using h1, h2⟩
theorem dpa_get2 : ∀ {vs : List V} {ds : List PyData} {i : Nat} {d : PyData}, DpAll K H vs ds → ds[i]? = some d → ∃ v, vs[i]? = some v ∧ Dp K H v d
  | _, _, _, _, .nil, e => by simp at e
  | _, _, 0, _, .cons r _, e => by simp at e; subst e; exact ⟨_, rfl, r⟩
  | _, _, i + 1, x, .cons _ t, e => by
    obtain ⟨v, h1, h2⟩ := dpa_get2 (i := i) (d := x) t (by simpa using e)
    exact ⟨v, by simpa using h1, h2⟩
theorem dpa_app : ∀ {vs ws : List V} {ds es : List PyData}, DpAll K H vs ds → DpAll K H ws es → DpAll K H (vs ++ ws) (ds ++ es)
  | _, _, _, _, .nil, h => h
  | _, _, _, _, .cons r t, h => .cons r (dpa_app t h)
/-- the type's name -/
def tyOf : PyData → String
  | .none => "NoneType"
  | .bool _ => "bool"
  | .int _ => "int"
  | .str _ => "str"
  | .list _ => "list"
  | .tuple _ => "tuple"
  | .dict _ => "dict"
theorem dp_ty {v : V} {d : PyData} (h : Dp K H v d) : TyX K H v (.type (tyOf d)) := by
  cases h with
  | non => exact .base .non
  | bl b => exact .base (.bl b)
  | int i => exact .base (.int i)
  | str x => exact .base (.str x)
  | lst hs ha =>
    rcases hs with (h | ⟨o, h⟩) | ⟨o, its, n, h, c, _⟩
    · exact .base (.lst h)
    · exact .base (.frz h)
    · exact .kList h c
  | tup hs ha =>
    rcases hs with (h | ⟨o, h⟩) | ⟨o, its, n, h, c, _⟩
    · exact .base (.tup h)
    · exact .fTuple h
    · exact .kTuple h c
/-- isinstance of data: one class, several classes -/
def kitsB (a : String) : List String → Option Bool
  | [] => some false
  | n :: ns => match kitB a n with
    | some true => some true
    | some false => kitsB a ns
    | none => none
theorem kitsB_ok {a : String} : ∀ {ns : List String} {b : Bool}, kitsB a ns = some b → PySem.W.kitAny K (.type a) (ns.map Value.type) = some b
  | [], _, h => h
  | n :: ns, b, h => by
    unfold kitsB at h
    cases q : kitB a n with
    | none => rw [q] at h; cases h
    | some c =>
      rw [q] at h
      cases c with
      | true =>
        cases h
        exact kitAny_cons (kit_ty q) (fun z => by cases z) fun _ => rfl
      | false => exact kitAny_cons (kit_ty q) (fun _ => kitsB_ok h) fun z => by cases z
theorem tys_cls : ∀ {ns : List String}, Paired ClsV (ns.map V.ty) (ns.map Value.type)
  | [] => .nil
  | n :: _ => .cons (.ty n) tys_cls
end
/-! ### what isinstance answers -/
theorem isi_NoneType_list : kitB "NoneType" "list" = some false := by decide +kernel
theorem isi_NoneType_tuple : kitB "NoneType" "tuple" = some false := by decide +kernel
theorem isi_NoneType_bool : kitB "NoneType" "bool" = some false := by decide +kernel
theorem isi_NoneType_int : kitB "NoneType" "int" = some false := by decide +kernel
theorem isi_NoneType_str : kitB "NoneType" "str" = some false := by decide +kernel
theorem isi_NoneType_list_tuple : kitsB "NoneType" ["list", "tuple"] = some false := by decide +kernel
theorem isi_NoneType_bool_int : kitsB "NoneType" ["bool", "int"] = some false := by decide +kernel
theorem isi_NoneType_bool_int_list_tuple : kitsB "NoneType" ["bool", "int", "list", "tuple"] = some false := by decide +kernel
theorem isi_bool_list : kitB "bool" "list" = some false := by decide +kernel
theorem isi_bool_tuple : kitB "bool" "tuple" = some false := by decide +kernel
theorem isi_bool_bool : kitB "bool" "bool" = some true := by decide +kernel
theorem isi_bool_int : kitB "bool" "int" = some true := by decide +kernel
theorem isi_bool_str : kitB "bool" "str" = some false := by decide +kernel
theorem isi_bool_list_tuple : kitsB "bool" ["list", "tuple"] = some false := by decide +kernel
theorem isi_bool_bool_int : kitsB "bool" ["bool", "int"] = some true := by decide +kernel
theorem isi_bool_bool_int_list_tuple : kitsB "bool" ["bool", "int", "list", "tuple"] = some true := by decide +kernel
theorem isi_int_list : kitB "int" "list" = some false := by decide +kernel
theorem isi_int_tuple : kitB "int" "tuple" = some false := by decide +kernel
theorem isi_int_bool : kitB "int" "bool" = some false := by decide +kernel
theorem isi_int_int : kitB "int" "int" = some true := by decide +kernel
theorem isi_int_str : kitB "int" "str" = some false := by decide +kernel
theorem isi_int_list_tuple : kitsB "int" ["list", "tuple"] = some false := by decide +kernel
theorem isi_int_bool_int : kitsB "int" ["bool", "int"] = some true := by decide +kernel
theorem isi_int_bool_int_list_tuple : kitsB "int" ["bool", "int", "list", "tuple"] = some true := by decide +kernel
theorem isi_str_list : kitB "str" "list" = some false := by decide +kernel
theorem isi_str_tuple : kitB "str" "tuple" = some false := by decide +kernel
theorem isi_str_bool : kitB "str" "bool" = some false := by decide +kernel
theorem isi_str_int : kitB "str" "int" = some false := by decide +kernel
theorem isi_str_str : kitB "str" "str" = some true := by decide +kernel
theorem isi_str_list_tuple : kitsB "str" ["list", "tuple"] = some false := by decide +kernel
theorem isi_str_bool_int : kitsB "str" ["bool", "int"] = some false := by decide +kernel
theorem isi_str_bool_int_list_tuple : kitsB "str" ["bool", "int", "list", "tuple"] = some false := by decide +kernel
theorem isi_list_list : kitB "list" "list" = some true := by decide +kernel
theorem isi_list_tuple : kitB "list" "tuple" = some false := by decide +kernel
theorem isi_list_bool : kitB "list" "bool" = some false := by decide +kernel
theorem isi_list_int : kitB "list" "int" = some false := by decide +kernel
theorem isi_list_str : kitB "list" "str" = some false := by decide +kernel
theorem isi_list_list_tuple : kitsB "list" ["list", "tuple"] = some true := by decide +kernel
theorem isi_list_bool_int : kitsB "list" ["bool", "int"] = some false := by decide +kernel
theorem isi_list_bool_int_list_tuple : kitsB "list" ["bool", "int", "list", "tuple"] = some true := by decide +kernel
theorem isi_tuple_list : kitB "tuple" "list" = some false := by decide +kernel
theorem isi_tuple_tuple : kitB "tuple" "tuple" = some true := by decide +kernel
theorem isi_tuple_bool : kitB "tuple" "bool" = some false := by decide +kernel
theorem isi_tuple_int : kitB "tuple" "int" = some false := by decide +kernel
theorem isi_tuple_str : kitB "tuple" "str" = some false := by decide +kernel
theorem isi_tuple_list_tuple : kitsB "tuple" ["list", "tuple"] = some true := by decide +kernel
theorem isi_tuple_bool_int : kitsB "tuple" ["bool", "int"] = some false := by decide +kernel
theorem isi_tuple_bool_int_list_tuple : kitsB "tuple" ["bool", "int", "list", "tuple"] = some true := by decide +kernel
theorem isi_dict_list : kitB "dict" "list" = some false := by decide +kernel
theorem isi_dict_tuple : kitB "dict" "tuple" = some false := by decide +kernel
theorem isi_dict_bool : kitB "dict" "bool" = some false := by decide +kernel
theorem isi_dict_int : kitB "dict" "int" = some false := by decide +kernel
theorem isi_dict_str : kitB "dict" "str" = some false := by decide +kernel
theorem isi_dict_list_tuple : kitsB "dict" ["list", "tuple"] = some false := by decide +kernel
theorem isi_dict_bool_int : kitsB "dict" ["bool", "int"] = some false := by decide +kernel
theorem isi_dict_bool_int_list_tuple : kitsB "dict" ["bool", "int", "list", "tuple"] = some false := by decide +kernel
/-! ### readings -/
section
variable {K : PySem.W.Frag} {σ : L2.St} {H : Hp} {te tb : TE} {v w : V} {d e : PyData} {b : Bool}
theorem ev_isi {n : String} (h : Evl.Ev te σ H v) (hd : Dp K H v d) (hb : kitB (tyOf d) n = some b) : Evl.Ev (tCB (rIsi K) (tCons te (tCons (tC (.ty n)) tNil))) σ H (.bl b) := fun H1 e1 Q q =>
  h H1 e1 _ fun H2 e2 => ⟨v, .ty n, _, _, b, rfl, .ty n, dp_ty (Dp.up hd (e1.trans e2)), kit_ty hb, q H2 e2⟩
theorem ev_isi2 {m n : String} (h : Evl.Ev te σ H v) (hd : Dp K H v d) (hb : kitsB (tyOf d) [m, n] = some b) : Evl.Ev (tCB (rIsiT K) (tCons te (tCons (tTup (tCons (tC (.ty m)) (tCons (tC (.ty n)) tNil))) tNil))) σ H (.bl b) := fun H1 e1 Q q =>
  h H1 e1 _ fun H2 e2 => ⟨by show 2 ≤ sizeLine; decide, fun p hp => ⟨v, p, _, _, _, b, rfl, upd_same, tys_cls (ns := [m, n]), dp_ty (Dp.up hd ((e1.trans e2).trans (Ex.new hp))), kitsB_ok hb, q _ (e2.trans (Ex.new hp))⟩⟩
theorem ev_isi4 {m n k l : String} (h : Evl.Ev te σ H v) (hd : Dp K H v d) (hb : kitsB (tyOf d) [m, n, k, l] = some b) :
    Evl.Ev (tCB (rIsiT K) (tCons te (tCons (tTup (tCons (tC (.ty m)) (tCons (tC (.ty n)) (tCons (tC (.ty k)) (tCons (tC (.ty l)) tNil))))) tNil))) σ H (.bl b) := fun H1 e1 Q q =>
  h H1 e1 _ fun H2 e2 => ⟨by show 4 ≤ sizeLine; decide, fun p hp => ⟨v, p, _, _, _, b, rfl, upd_same, tys_cls (ns := [m, n, k, l]), dp_ty (Dp.up hd ((e1.trans e2).trans (Ex.new hp))), kitsB_ok hb, q _ (e2.trans (Ex.new hp))⟩⟩
theorem ev_eqD (h : Evl.Ev te σ H v) (h2 : Evl.Ev tb σ H w) (hd : Dp K H v d) (he : Dp K H w e) (sd : SeqAt.shaped d = true) (se : SeqAt.shaped e = true) : Evl.Ev (tOp (rEqD K) te tb) σ H (.bl (PyData.eqv d e)) := fun H1 e1 Q q =>
  h H1 e1 _ fun H2 e2 => h2 H2 (e1.trans e2) _ fun H3 e3 => ⟨d, e, Dp.up hd ((e1.trans e2).trans e3), Dp.up he ((e1.trans e2).trans e3), sd, se, q H3 (e2.trans e3)⟩
theorem ev_eqB {a c : Bool} (h : Evl.Ev te σ H (.bl a)) (h2 : Evl.Ev tb σ H (.bl c)) : Evl.Ev (tOp rEq te tb) σ H (.bl (decide (V.bl a = V.bl c))) := Evl.ev_op h h2 (Evl.rv_eq rfl)
theorem ev_neB {a c : Bool} (h : Evl.Ev te σ H (.bl a)) (h2 : Evl.Ev tb σ H (.bl c)) : Evl.Ev (tOp rNe te tb) σ H (.bl (!decide (V.bl a = V.bl c))) := Evl.ev_op h h2 (Evl.rv_ne rfl)
theorem ev_lenS {a : Addr} {xs : List V} (ha : Evl.Ev te σ H (.ref a)) (h : SqL K H a xs ∨ SqT K H a xs) : Evl.Ev (tCB (fun xs H Q => ∃ p ys, xs = [.ref p] ∧ (SqL K H p ys ∨ SqT K H p ys) ∧ Q (.int ys.length) H) (tCons te tNil)) σ H (.int (xs.length : Int)) := fun H1 e Q q =>
  ha H1 e _ fun H2 e2 => ⟨a, xs, rfl, h.imp (Evl.ex_l (e.trans e2)) (Evl.ex_t (e.trans e2)), q H2 e2⟩
end
/-! ### defs of the text, found by their names -/
structure DefAt (P : Program) (w : World) (K : PySem.W.Frag) (mg : Str → Option Value) (base : Heap) (x : Str) (k : Nat) (ps : List Str) (sp : Sp) : Prop where
  ex : ∃ f fd, FnOk P w K mg base CX0 k f fd ps sp ∧ mg x = some (.ref f) ∧ PySem.W.keepIn K (.ref f) = true ∧ Binds K fd ps []
theorem DefAt.imp {P : Program} {w : World} {K : PySem.W.Frag} {mg : Str → Option Value} {base : Heap} {x : Str} {k : Nat} {ps : List Str} {sp sp' : Sp} (D : DefAt P w K mg base x k ps sp) (h : ∀ vs H Q E, sp' vs H Q E → sp vs H Q E) : DefAt P w K mg base x k ps sp' := by
  obtain ⟨f, fd, F, r⟩ := D.ex
  exact ⟨f, fd, F.imp h, r⟩
theorem DefAt.mono {P : Program} {w : World} {K : PySem.W.Frag} {mg : Str → Option Value} {base : Heap} {x : Str} {k j : Nat} {ps : List Str} {sp : Sp} (D : DefAt P w K mg base x k ps sp) (h : k ≤ j) : DefAt P w K mg base x j ps sp := by
  obtain ⟨f, fd, F, r⟩ := D.ex
  exact ⟨f, fd, F.mono h, r⟩
def tCallD (sp : Sp) (t : TA) : TE := fun σ H Q => t σ H fun vs H1 => sp vs H1 Q E0
theorem pe_callD {X : Cx} {x : Str} {k : Nat} {ps : List Str} {sp : Sp} {p pos : Pos} {e : Expr} {es : List Expr} {t : TA} (D : DefAt X.prog X.w X.K X.mg X.base x k ps sp) (hr : Room k X.A) (hg : Gl X x) (ha : PA X (e :: es) t)
    (hdb : (x == ("__debug__" : Str)) = false := by decide) (he : starEach (e :: es) X.env = (false, eval e X.env) :: starEach es X.env := by rfl) (hpl : (backTo pos (starEach es X.env)).any (·.1) = false := by rfl) :
    PE X (.Call (.Name x p) (e :: es) [] pos) (tCallD sp t) := by
  obtain ⟨f, fd, F, hm, hk, hb⟩ := D.ex
  refine ⟨fun pins s σ H Q I h => (pe_call (E := E0) F hr hg hm hk hb .nil pass0 ha hdb he hpl).run pins s σ H Q I ?_⟩
  have e1 : (fun (vs : List V) (H1 : Hp) => sp (vs ++ []) H1 Q E0) = fun vs H1 => sp vs H1 Q E0 := by
    funext vs H1
    rw [List.append_nil]
  show t σ H fun vs H1 => sp (vs ++ []) H1 Q E0
  rw [e1]
  exact h
/-! ### draws -/
/-- at l the draws: three numbers; at most n drawn by the second way -/
def Dr (n : Nat) (H : Hp) (l : Addr) : Prop := ∃ x y z : Int, H l = some (.lst [.int x, .int y, .int z]) ∧ 0 ≤ x ∧ 0 ≤ y ∧ y ≤ 1099511627776 ∧ 0 ≤ z ∧ z ≤ (n : Int)
theorem Dr.up {n m : Nat} {H : Hp} {l : Addr} (h : Dr n H l) (e : n ≤ m) : Dr m H l := by
  obtain ⟨x, y, z, h1, h2, h3, h4, h5, h6⟩ := h
  exact ⟨x, y, z, h1, h2, h3, h4, h5, by omega⟩
theorem Dr.ne {n : Nat} {H : Hp} {l : Addr} (h : Dr n H l) : H l ≠ none := by
  obtain ⟨x, y, z, h1, _⟩ := h
  rw [h1]
  simp
theorem Dr.ex {n : Nat} {H H' : Hp} {l : Addr} (h : Dr n H l) (e : Ex H H') : Dr n H' l := by
  obtain ⟨x, y, z, h1, h2⟩ := h
  exact ⟨x, y, z, e _ _ h1, h2⟩
/-- all but the cell l stays -/
def ExB (l : Addr) (H H' : Hp) : Prop := ∀ a o, a ≠ l → H a = some o → H' a = some o
theorem ExB.refl (l : Addr) (H : Hp) : ExB l H H := fun _ _ _ h => h
theorem ExB.of {l : Addr} {H H' : Hp} (e : Ex H H') : ExB l H H' := fun a o _ h => e a o h
theorem ExB.trans {l : Addr} {H H1 H2 : Hp} (a : ExB l H H1) (b : ExB l H1 H2) : ExB l H H2 := fun c o n h => b c o n (a c o n h)
theorem ExB.upd {l : Addr} {H : Hp} {o : HO} : ExB l H (upd H l o) := fun a u n h => by
  rw [upd_ne n]
  exact h
theorem ExB.w {l : Addr} {L : List Addr} {H H' : Hp} (e : ExB l H H') (m : l ∈ L) : Ex (W L H) (W L H') := fun a o h => by
  obtain ⟨h1, n⟩ := w_in h
  exact w_of n (e a o (fun z => n (by rw [z]; exact m)) h1)
theorem ExB.hid {l : Addr} {L : List Addr} {H H' : Hp} (e : ExB l H H') (hl : H' l ≠ none) (h : Hid L H) : Hid L H' := fun a m => by
  by_cases q : a = l
  · rw [q]
    exact hl
  · intro z
    cases r : H a with
    | none => exact h a m r
    | some o =>
      have t := e a o q r
      rw [z] at t
      cases t
def spSource (K : PySem.W.Frag) : Sp := fun vs H Q _ => ∃ (s : Addr) (ns : List Int) (i : Nat), vs = [.ref s, .int (i : Int)] ∧ SqL K H s (ns.map V.int) ∧ ns.length ≤ 63 ∧ i ≤ 100 ∧
  ∀ l o, H l = none → Dr 0 (upd H l o) l → Q (.ref l) (upd H l o)
def spDraw : Sp := fun vs H Q _ => ∃ (l : Addr) (many : Int) (n : Nat), vs = [.ref l, .int many] ∧ Dr n H l ∧ n < 1000000 ∧ 0 < many ∧ many < 1073741824 ∧
  ∀ r o, 0 ≤ r → r < many → Dr (n + 1) (upd H l o) l → Q (.int r) (upd H l o)
def spPick (K : PySem.W.Frag) : Sp := fun vs H Q _ => ∃ (l t : Addr) (ds : List PyData) (n : Nat) (L : List Addr), vs = [.ref l, .ref t] ∧ Dr n H l ∧ n < 1000000 ∧ l ∈ L ∧ Dp K (W L H) (.ref t) (.list ds) ∧ 0 < ds.length ∧ ds.length < 1073741824 ∧
  ∀ v d o, d ∈ ds → Dp K (W L (upd H l o)) v d → Dr (n + 1) (upd H l o) l → Q v (upd H l o)
end U

set_option Elab.async false
set_option linter.all false
set_option maxRecDepth 100000
set_option maxHeartbeats 2000000
namespace U
open PySem L2
open Evl (Ex)
theorem yes_lc {σ : L2.St} {H : Hp} {A B : Hp → Prop} (h : A H) : tYes σ H (fun b H3 => if b = true then A H3 else B H3) := by
  show (if true = true then A H else B H)
  rw [if_pos rfl]
  exact h
section
variable {K : PySem.W.Frag} {a b : Addr} {xs ys : List V} {σ : L2.St} {H : Hp}
theorem walk_zipT {n : Nat} (hn : n = min xs.length ys.length) : Walk (RZ.ItzT K a b) n (fun H => SqT K H a xs ∧ SqT K H b ys) (YPair (fun i => xs[i]?) (fun i => ys[i]?)) := by
  subst hn
  refine ⟨fun i _ hi q => ?_, fun _ q => ⟨xs, ys, q.1, q.2, by omega⟩, fun i H v H' _ q y => ?_⟩
  · have h1 : i < xs.length := by omega
    have h2 : i < ys.length := by omega
    exact ⟨xs, ys, xs[i], ys[i], q.1, q.2, by simp [h1], by simp [h2]⟩
  · obtain ⟨T, x, z, h1, h2, h3, h4, h5⟩ := y
    exact ⟨T, x, z, h1, h2, h3, h4 xs q.1, h5 ys q.2⟩
/-- what a comprehension of every item has made so far -/
def Cm (H : Hp) (v : Nat → V) (Dl : Addr) (i : Nat) (H' : Hp) : Prop := H Dl = none ∧ Ex H H' ∧ H' Dl = some (.lst ((List.range i).map v))
theorem cm_0 {v : Nat → V} {Dl : Addr} (h : H Dl = none) : Cm H v Dl 0 (upd H Dl (.lst [])) := ⟨h, Ex.new h, upd_same⟩
theorem cm_turn {H' : Hp} {v : Nat → V} {Dl : Addr} {i : Nat} {te : TE} {σ2 : L2.St} (p : Cm H v Dl i H') (hi : i < 50000) (H2 : Hp) (e2 : Ex H' H2) (he : Evl.Ev te σ2 H (v i)) :
    te σ2 H2 fun y H4 => ∃ acc, H4 Dl = some (.lst acc) ∧ acc.length < sizeLine ∧ Cm H v Dl (i + 1) (upd H4 Dl (.lst (acc ++ [y]))) := by
  obtain ⟨p1, p2, p3⟩ := p
  refine he H2 (p2.trans e2) _ fun H4 e4 => ⟨_, e4 Dl _ (e2 Dl _ p3), Evl.sz_lt (by rw [List.length_map, List.length_range]; omega), p1, Evl.Ex.mut ((p2.trans e2).trans e4) p1, ?_⟩
  rw [upd_same, List.range_succ, List.map_append]
  rfl
theorem el_zip {ta : TA} {te : TE} {i1 i2 : Nat} {vs : List Nat} {v : Nat → V} (h : Evl.EvA ta σ H [.ref a, .ref b]) (hx : (SqL K H a xs ∧ SqL K H b ys) ∨ (SqT K H a xs ∧ SqT K H b ys)) (hl : xs.length = ys.length) (hz : xs.length ≤ 40000)
    (hw : ∀ x y, wipe (((wipe σ vs).set i1 (some x)).set i2 (some y)) vs = wipe σ vs)
    (he : ∀ (i : Nat) (x y : V) H1, Ex H H1 → xs[i]? = some x → ys[i]? = some y → Evl.Ev te (((wipe σ vs).set i1 (some x)).set i2 (some y)) H1 (v i)) :
    Evl.EvL (tLc (RZ.iZipA K ta) (gTup K 2 (gCons (gName i1) (gCons (gName i2) gNil))) tYes te vs) σ H ((List.range xs.length).map v) := fun H0 e0 Q q => h H0 e0 _ fun H1 e1 => by
  have turn : ∀ (Dl : Addr) (i : Nat) (x : V) (H2 H3 : Hp), i < xs.length → Cm H1 v Dl i H2 → YPair (fun i => xs[i]?) (fun i => ys[i]?) i H2 x H3 → gTup K 2 (gCons (gName i1) (gCons (gName i2) gNil)) x (wipe σ vs) H3 fun σ2 H2 => wipe σ2 vs = wipe σ vs ∧ tYes σ2 H2 fun b H3 =>
      if b = true then te σ2 H3 fun y H4 => ∃ acc, H4 Dl = some (.lst acc) ∧ acc.length < sizeLine ∧ Cm H1 v Dl (i + 1) (upd H4 Dl (.lst (acc ++ [y]))) else Cm H1 v Dl (i + 1) H3 := by
    intro Dl i x H2 H3 hi p yp
    obtain ⟨T, u, w, rfl, hT, rfl, hu, hw'⟩ := yp
    refine ⟨T, [u, w], rfl, SqT.of upd_same, rfl, u, [w], rfl, w, [], rfl, rfl, hw u w, ?_⟩
    exact yes_lc (A := fun H3 => te ((List.set (wipe σ vs) i1 (some u)).set i2 (some w)) H3 fun y H4 => ∃ acc, H4 Dl = some (.lst acc) ∧ acc.length < sizeLine ∧ Cm H1 v Dl (i + 1) (upd H4 Dl (.lst (acc ++ [y])))) (B := fun H3 => Cm H1 v Dl (i + 1) H3) <| cm_turn p (by omega) _ (Ex.new hT) (he i u w _ (e0.trans e1) hu hw')
  rcases hx with ⟨x1, x2⟩ | ⟨x1, x2⟩
  · refine ⟨a, b, xs, ys, rfl, .inl ⟨Evl.ex_l (e0.trans e1) x1, Evl.ex_l (e0.trans e1) x2, fun Dl hD => ?_⟩⟩
    exact lc_it (walk_zip (n := xs.length) (by omega)) (Cm H1 v Dl) (cm_0 hD) (fun i H2 _ p => ⟨Evl.ex_l ((e0.trans e1).trans p.2.1) x1, Evl.ex_l ((e0.trans e1).trans p.2.1) x2⟩) (fun i x H2 H3 hi p y => turn Dl i x H2 H3 hi p y)
      (fun H2 p => q Dl H2 (Evl.fresh_back e1 p.1) (e1.trans p.2.1) p.2.2)
  · refine ⟨a, b, xs, ys, rfl, .inr ⟨Evl.ex_t (e0.trans e1) x1, Evl.ex_t (e0.trans e1) x2, fun Dl hD => ?_⟩⟩
    exact lc_it (walk_zipT (n := xs.length) (by omega)) (Cm H1 v Dl) (cm_0 hD) (fun i H2 _ p => ⟨Evl.ex_t ((e0.trans e1).trans p.2.1) x1, Evl.ex_t ((e0.trans e1).trans p.2.1) x2⟩) (fun i x H2 H3 hi p y => turn Dl i x H2 H3 hi p y)
      (fun H2 p => q Dl H2 (Evl.fresh_back e1 p.1) (e1.trans p.2.1) p.2.2)
theorem ev_all {te : TE} {bs : List Bool} (h : Evl.EvL te σ H (bs.map V.bl)) : Evl.Ev (tCB (rAll K) (tCons te tNil)) σ H (.bl (bs.all id)) := fun H1 e1 Q q =>
  h H1 e1 _ fun p H2 hp e2 h2 => ⟨p, bs, rfl, SqL.of h2, q H2 e2⟩
theorem ev_any {te : TE} {bs : List Bool} (h : Evl.EvL te σ H (bs.map V.bl)) : Evl.Ev (tCB (rAny K) (tCons te tNil)) σ H (.bl (bs.any id)) := fun H1 e1 Q q =>
  h H1 e1 _ fun p H2 hp e2 h2 => ⟨p, bs, rfl, SqL.of h2, q H2 e2⟩
theorem ev_callD {sp : Sp} {ta : TA} {vs : List V} {z : V} (h : Evl.EvA ta σ H vs) (hs : ∀ H1, Ex H H1 → ∀ Q : VK, (∀ H2, Ex H1 H2 → Q z H2) → sp vs H1 Q E0) : Evl.Ev (tCallD sp ta) σ H z := fun H1 e Q q =>
  h H1 e _ fun H2 e2 => hs H2 (e.trans e2) Q fun H3 e3 => q H3 (e2.trans e3)
end
/-! ### data no deeper than n -/
def fits : Nat → PyData → Prop
  | 0, .list _ => False
  | 0, .tuple _ => False
  | n + 1, .list ds => ds.length ≤ 40000 ∧ ∀ d ∈ ds, fits n d
  | n + 1, .tuple ds => ds.length ≤ 40000 ∧ ∀ d ∈ ds, fits n d
  | _, .dict kvs => kvs = []
  | _, _ => True
theorem fits_up : ∀ {n m : Nat} {d : PyData}, n ≤ m → fits n d → fits m d
  | 0, 0, _, _, h => h
  | 0, m + 1, d, _, h => by
    cases d with
    | list ds => exact h.elim
    | tuple ds => exact h.elim
    | dict _ => exact h
    | _ => trivial
  | n + 1, 0, _, e, _ => by omega
  | n + 1, m + 1, d, e, h => by
    cases d with
    | list ds => exact ⟨h.1, fun z hz => fits_up (by omega) (h.2 z hz)⟩
    | tuple ds => exact ⟨h.1, fun z hz => fits_up (by omega) (h.2 z hz)⟩
    | dict _ => exact h
    | _ => trivial
/-- two readings of the same data: True -/
def spSame (K : PySem.W.Frag) (n : Nat) : Sp := fun vs H Q _ => ∃ (x y : V) (d : PyData), vs = [x, y] ∧ Dp K H x d ∧ Dp K H y d ∧ fits n d ∧ ∀ H', Ex H H' → Q (.bl true) H'
end U

set_option Elab.async false
set_option linter.all false
set_option maxRecDepth 100000
set_option maxHeartbeats 2000000
namespace U
open PySem L2
open Evl (Ex)
/-! ### what evaluates to data -/
section
variable {K : PySem.W.Frag} {L : List Addr} {σ : L2.St} {H H' : Hp} {te tb : TE} {ta tr : TA} {v : V} {d : PyData} {ds : List PyData} {l p : Addr} {o : HO}
def EvD (K : PySem.W.Frag) (L : List Addr) (te : TE) (σ : L2.St) (H : Hp) (d : PyData) : Prop := ∀ H1, Ex H H1 → ∀ Q : VK, (∀ v H2, Ex H1 H2 → Dp K (W L H2) v d → Q v H2) → te σ H1 Q
def EvDs (K : PySem.W.Frag) (L : List Addr) (ta : TA) (σ : L2.St) (H : Hp) (ds : List PyData) : Prop := ∀ H1, Ex H H1 → ∀ Q : List V → Hp → Prop, (∀ vs H2, Ex H1 H2 → DpAll K (W L H2) vs ds → Q vs H2) → ta σ H1 Q
theorem EvD.mono (e : Ex H H') (h : EvD K L te σ H d) : EvD K L te σ H' d := fun H1 a Q q => h H1 (e.trans a) Q q
theorem EvDs.mono (e : Ex H H') (h : EvDs K L ta σ H ds) : EvDs K L ta σ H' ds := fun H1 a Q q => h H1 (e.trans a) Q q
theorem evd_of (h : Evl.Ev te σ H v) (hd : Dp K (W L H) v d) : EvD K L te σ H d := fun H1 e Q q => h H1 e _ fun H2 e2 => q v H2 e2 (hd.up (w_ex (e.trans e2)))
theorem evd_var {i : Nat} (h : σ[i]? = some (some v)) (hd : Dp K (W L H) v d) : EvD K L (tVar i) σ H d := evd_of (Evl.ev_var h) hd
theorem evd_int {i : Int} : EvD K L (tC (.int i)) σ H (.int i) := evd_of Evl.ev_c (.int i)
theorem evd_bl {b : Bool} : EvD K L (tC (.bl b)) σ H (.bool b) := evd_of Evl.ev_c (.bl b)
theorem evd_non : EvD K L (tC .non) σ H .none := evd_of Evl.ev_c .non
theorem evd_str {x : Str} : EvD K L (tC (.str x)) σ H (.str x) := evd_of Evl.ev_c (.str x)
theorem evd_evI {i : Int} (h : Evl.Ev te σ H (.int i)) : EvD K L te σ H (.int i) := evd_of h (.int i)
theorem evd_evB {b : Bool} (h : Evl.Ev te σ H (.bl b)) : EvD K L te σ H (.bool b) := evd_of h (.bl b)
theorem evds_nil : EvDs K L tNil σ H [] := fun H1 _ _ q => q [] H1 (Ex.refl H1) .nil
theorem evds_cons (h : EvD K L te σ H d) (hr : EvDs K L tr σ H ds) : EvDs K L (tCons te tr) σ H (d :: ds) := fun H1 e Q q =>
  h H1 e _ fun v H2 e2 hv => hr H2 (e.trans e2) _ fun vs H3 e3 hvs => q (v :: vs) H3 (e2.trans e3) (.cons (hv.up (w_ex e3)) hvs)
theorem evd_tup (hL : Hid L H) (h : EvDs K L ta σ H ds) (hz : ds.length ≤ 100000) : EvD K L (tTup ta) σ H (.tuple ds) := fun H1 e Q q =>
  h H1 e _ fun vs H2 e2 hv => ⟨Evl.sz_of (by rw [dpa_len hv]; exact hz), fun p hp => q (.ref p) _ (e2.trans (Ex.new hp)) (.tup (SqT.of (w_new (hid_ex (e.trans e2) hL) hp)) (hv.up (w_ex (Ex.new hp))))⟩
theorem evd_lst (hL : Hid L H) (h : EvDs K L ta σ H ds) (hz : ds.length ≤ 100000) : EvD K L (tLst ta) σ H (.list ds) := fun H1 e Q q =>
  h H1 e _ fun vs H2 e2 hv => ⟨Evl.sz_of (by rw [dpa_len hv]; exact hz), fun p hp => q (.ref p) _ (e2.trans (Ex.new hp)) (.lst (SqL.of (w_new (hid_ex (e.trans e2) hL) hp)) (hv.up (w_ex (Ex.new hp))))⟩
theorem w_fresh (hp : H p = none) : Ex (W L H) (W (p :: L) (upd H p o)) := fun a u h => by
  obtain ⟨h1, n⟩ := w_in h
  have ne : a ≠ p := ne_of_none h1 hp
  exact w_of (fun m => (List.mem_cons.mp m).elim ne n) (by rw [upd_ne ne]; exact h1)
theorem w_cons : Ex (W (p :: L) H) (W L H) := w_sub2 fun a m => List.mem_cons_of_mem _ m
/-! ### a list that grows -/
/-- at l a list of the data ds, which do not hang on l -/
def Gr (K : PySem.W.Frag) (L : List Addr) (H : Hp) (l : Addr) (ds : List PyData) : Prop := l ∉ L ∧ ∃ xs, H l = some (.lst xs) ∧ DpAll K (W (l :: L) H) xs ds
theorem Gr.dp (h : Gr K L H l ds) : Dp K (W L H) (.ref l) (.list ds) := by
  obtain ⟨n, xs, h1, h2⟩ := h
  exact .lst (SqL.of (w_of n h1)) (h2.up w_cons)
theorem Gr.up (h : Gr K L H l ds) (e : Ex H H') : Gr K L H' l ds := by
  obtain ⟨n, xs, h1, h2⟩ := h
  exact ⟨n, xs, e _ _ h1, h2.up (w_ex e)⟩
theorem Gr.ne (h : Gr K L H l ds) : H l ≠ none := by
  obtain ⟨n, xs, h1, h2⟩ := h
  rw [h1]
  simp
theorem gr_new {xs : List V} (hL : Hid L H) (hp : H p = none) (h : DpAll K (W L H) xs ds) : Gr K L (upd H p (.lst xs)) p ds := ⟨hid_not hL hp, xs, upd_same, h.up (w_fresh hp)⟩
/-- a heap that differs at l alone, where the list has one more -/
theorem gr_app {xs : List V} (n : l ∉ L) (h1 : H l = some (.lst xs)) (h2 : DpAll K (W (l :: L) H) xs ds) (hv : Dp K (W (l :: L) H) v d) : Gr K L (upd H l (.lst (xs ++ [v]))) l (ds ++ [d]) := by
  refine ⟨n, xs ++ [v], upd_same, ?_⟩
  rw [w_upd_in (List.mem_cons_self ..)]
  exact dpa_app h2 (.cons hv .nil)
/-! ### statements -/
variable {D : Ends} {tz tu : TS} {i : Nat}
theorem d_asg (h : EvD K L te σ H d) (k : ∀ v H1, Ex H H1 → Dp K (W L H1) v d → D.nx (σ.set i (some v)) H1) : tAsg te (gName i) D σ H := h H (Ex.refl H) _ fun v H1 e hv => k v H1 e hv
theorem qd_asg (h : EvD K L te σ H d) (k : ∀ v H1, Ex H H1 → Dp K (W L H1) v d → tz D (σ.set i (some v)) H1) : tSeq (tAsg te (gName i)) tz D σ H := d_asg (D := { D with nx := tz D }) h k
theorem d_ret (h : EvD K L te σ H d) (k : ∀ v H1, Ex H H1 → Dp K (W L H1) v d → D.rt v H1) : tRet te D σ H := h H (Ex.refl H) _ fun v H1 e hv => k v H1 e hv
theorem qd_lst (hL : Hid L H) (h : EvDs K L ta σ H ds) (hz : ds.length ≤ 100000) (k : ∀ p H1, H p = none → Ex H H1 → Gr K L H1 p ds → tz D (σ.set i (some (.ref p))) H1) : tSeq (tAsg (tLst ta) (gName i)) tz D σ H :=
  h H (Ex.refl H) _ fun vs H1 e hv => ⟨Evl.sz_of (by rw [dpa_len hv]; exact hz), fun p hp => k p _ (Evl.fresh_back e hp) (e.trans (Ex.new hp)) (gr_new (hid_ex e hL) hp hv)⟩
theorem d_app (hg : Gr K L H l ds) (ho : Evl.Ev tb σ H (.ref l)) (h : EvD K (l :: L) te σ H d) (hz : ds.length < 100000) (k : ∀ o H1, Ex H H1 → Gr K L (upd H1 l o) l (ds ++ [d]) → D.nx σ (upd H1 l o)) :
    tDrop (tBM K "list" rAppend tb (tCons te tNil)) D σ H := ho H (Ex.refl H) _ fun H1 e1 => by
  obtain ⟨n, xs, h1, h2⟩ := hg
  refine ⟨Or.inl ⟨rfl, xs, SqL.of (e1 l _ h1)⟩, h H1 e1 _ fun v H2 e2 hv => ⟨l, xs, v, rfl, rfl, e2 l _ (e1 l _ h1), Evl.sz_lt (by rw [dpa_len h2]; exact hz), k _ H2 (e1.trans e2) ?_⟩⟩
  exact gr_app n (e2 l _ (e1 l _ h1)) (h2.up (w_ex (e1.trans e2))) hv
theorem qd_app (hg : Gr K L H l ds) (ho : Evl.Ev tb σ H (.ref l)) (h : EvD K (l :: L) te σ H d) (hz : ds.length < 100000) (k : ∀ o H1, Ex H H1 → Gr K L (upd H1 l o) l (ds ++ [d]) → tz D σ (upd H1 l o)) :
    tSeq (tDrop (tBM K "list" rAppend tb (tCons te tNil))) tz D σ H := d_app (D := { D with nx := tz D }) hg ho h hz k
/-- xs + ys, the left a list that stands, the right a new one -/
theorem evd_cat {es : List PyData} (hL : Hid L H) (hg : Gr K L H l ds) (ho : Evl.Ev te σ H (.ref l)) (h : EvDs K L ta σ H es) (hz : ds.length + es.length ≤ 100000) : EvD K L (tOp rCat te (tLst ta)) σ H (.list (ds ++ es)) := fun H1 e1 Q q =>
  ho H1 e1 _ fun H2 e2 => h H2 (e1.trans e2) _ fun vs H3 e3 hv => by
    have eA := (e1.trans e2).trans e3
    obtain ⟨n, xs, h1, h2⟩ := hg
    have l1 := dpa_len h2
    have l2 := dpa_len hv
    refine ⟨Evl.sz_of (by omega), fun p hp => ⟨l, p, xs, vs, rfl, rfl, ?_, upd_same, Evl.sz_of (by omega), fun r hr => ?_⟩⟩
    · exact (eA.trans (Ex.new hp)) l _ h1
    · refine q (.ref r) _ ((e2.trans e3).trans ((Ex.new hp).trans (Ex.new hr))) (.lst (SqL.of (w_new (hid_upd (hid_ex eA hL)) hr)) ?_)
      have z : Ex (W L H3) (W L (upd (upd H3 p (.lst vs)) r (.lst (xs ++ vs)))) := w_ex ((Ex.new hp).trans (Ex.new hr))
      exact dpa_app (((h2.up w_cons).up (w_ex eA)).up z) (hv.up z)
/-- xs.extend(ys), ys a new list -/
theorem d_ext {es : List PyData} (hg : Gr K L H l ds) (hL : Hid L H) (ho : Evl.Ev tb σ H (.ref l)) (h : EvDs K (l :: L) ta σ H es) (hz : ds.length + es.length ≤ 100000) (k : ∀ o H1, Ex H H1 → Gr K L (upd H1 l o) l (ds ++ es) → D.nx σ (upd H1 l o)) :
    tDrop (tBM K "list" rExtend tb (tCons (tLst ta) tNil)) D σ H := ho H (Ex.refl H) _ fun H1 e1 => by
  obtain ⟨n, xs, h1, h2⟩ := hg
  refine ⟨Or.inl ⟨rfl, xs, SqL.of (e1 l _ h1)⟩, h H1 e1 _ fun vs H2 e2 hv => ?_⟩
  have l1 := dpa_len h2
  have l2 := dpa_len hv
  refine ⟨Evl.sz_of (by omega), fun p hp => ?_⟩
  have e3 : Ex H2 (upd H2 p (.lst vs)) := Ex.new hp
  have eA := (e1.trans e2).trans e3
  refine ⟨l, p, xs, vs, rfl, rfl, eA l _ h1, upd_same, Evl.sz_of (by omega), k _ _ eA ⟨n, xs ++ vs, upd_same, ?_⟩⟩
  rw [w_upd_in (List.mem_cons_self ..)]
  exact dpa_app (h2.up (w_ex eA)) (hv.up (w_ex e3))
theorem qd_ext {es : List PyData} (hg : Gr K L H l ds) (hL : Hid L H) (ho : Evl.Ev tb σ H (.ref l)) (h : EvDs K (l :: L) ta σ H es) (hz : ds.length + es.length ≤ 100000) (k : ∀ o H1, Ex H H1 → Gr K L (upd H1 l o) l (ds ++ es) → tz D σ (upd H1 l o)) :
    tSeq (tDrop (tBM K "list" rExtend tb (tCons (tLst ta) tNil))) tz D σ H := d_ext (D := { D with nx := tz D }) hg hL ho h hz k
end
end U

set_option Elab.async false
set_option linter.all false
set_option maxRecDepth 100000
set_option maxHeartbeats 2000000
/-! data with empty dicts among them -/
namespace U
open PySem L2
open Evl (Ex)
section
variable {K : PySem.W.Frag} {H H' : Hp}
mutual
inductive Dq (K : PySem.W.Frag) (H : Hp) : V → PyData → Prop
  | non : Dq K H .non .none
  | bl (b : Bool) : Dq K H (.bl b) (.bool b)
  | int (i : Int) : Dq K H (.int i) (.int i)
  | str (x : Str) : Dq K H (.str x) (.str x)
  | lst {a : Addr} {xs : List V} {ds : List PyData} : SqL K H a xs → DqAll K H xs ds → Dq K H (.ref a) (.list ds)
  | tup {a : Addr} {xs : List V} {ds : List PyData} : SqT K H a xs → DqAll K H xs ds → Dq K H (.ref a) (.tuple ds)
  | dct {a : Addr} : H a = some (.dK []) → Dq K H (.ref a) (.dict [])
inductive DqAll (K : PySem.W.Frag) (H : Hp) : List V → List PyData → Prop
  | nil : DqAll K H [] []
  | cons {v : V} {vs : List V} {d : PyData} {ds : List PyData} : Dq K H v d → DqAll K H vs ds → DqAll K H (v :: vs) (d :: ds)
end
mutual
theorem dq_of : ∀ (d : PyData) (v : V), Dp K H v d → Dq K H v d
  | .none, _, h => by cases h; exact .non
  | .bool _, _, h => by cases h; exact .bl _
  | .int _, _, h => by cases h; exact .int _
  | .str _, _, h => by cases h; exact .str _
  | .list ds, _, h => by
    cases h with
    | lst hs ha => exact .lst hs (dqa_of ds _ ha)
  | .tuple ds, _, h => by
    cases h with
    | tup hs ha => exact .tup hs (dqa_of ds _ ha)
  | .dict _, _, h => by cases h
theorem dqa_of : ∀ (ds : List PyData) (vs : List V), DpAll K H vs ds → DqAll K H vs ds
  | [], _, h => by cases h; exact .nil
  | d :: ds, _, h => by
    cases h with
    | cons h1 h2 => exact .cons (dq_of d _ h1) (dqa_of ds _ h2)
end
theorem _root_.L2.Dp.q {v : V} {d : PyData} (h : Dp K H v d) : Dq K H v d := dq_of d v h
mutual
theorem dq_mono (e : Ex H H') : ∀ (d : PyData) (v : V), Dq K H v d → Dq K H' v d
  | .none, _, h => by cases h; exact .non
  | .bool _, _, h => by cases h; exact .bl _
  | .int _, _, h => by cases h; exact .int _
  | .str _, _, h => by cases h; exact .str _
  | .list ds, _, h => by
    cases h with
    | lst hs ha => exact .lst (Evl.ex_l e hs) (dqa_mono e ds _ ha)
  | .tuple ds, _, h => by
    cases h with
    | tup hs ha => exact .tup (Evl.ex_t e hs) (dqa_mono e ds _ ha)
  | .dict _, _, h => by
    cases h with
    | dct h => exact .dct (e _ _ h)
theorem dqa_mono (e : Ex H H') : ∀ (ds : List PyData) (vs : List V), DqAll K H vs ds → DqAll K H' vs ds
  | [], _, h => by cases h; exact .nil
  | d :: ds, _, h => by
    cases h with
    | cons h1 h2 => exact .cons (dq_mono e d _ h1) (dqa_mono e ds _ h2)
end
theorem Dq.up {v : V} {d : PyData} (h : Dq K H v d) (e : Ex H H') : Dq K H' v d := dq_mono e d v h
theorem DqAll.up {vs : List V} {ds : List PyData} (h : DqAll K H vs ds) (e : Ex H H') : DqAll K H' vs ds := dqa_mono e ds vs h
theorem dqa_len : ∀ {vs : List V} {ds : List PyData}, DqAll K H vs ds → vs.length = ds.length
  | _, _, .nil => rfl
  | _, _, .cons _ t => congrArg Nat.succ (dqa_len t)
theorem dqa_get : ∀ {vs : List V} {ds : List PyData} {i : Nat} {v : V}, DqAll K H vs ds → vs[i]? = some v → ∃ d, ds[i]? = some d ∧ Dq K H v d
  | _, _, _, _, .nil, e => by simp at e
  | _, _, 0, _, .cons r _, e => by simp at e; subst e; exact ⟨_, rfl, r⟩
  | _, _, i + 1, x, .cons _ t, e => by
    obtain ⟨d, h1, h2⟩ := dqa_get (i := i) (v := x) t (by simpa using e)
    exact ⟨d, by simpa using h1, h2⟩
theorem dqa_app : ∀ {vs ws : List V} {ds es : List PyData}, DqAll K H vs ds → DqAll K H ws es → DqAll K H (vs ++ ws) (ds ++ es)
  | _, _, _, _, .nil, h => h
  | _, _, _, _, .cons r t, h => .cons r (dqa_app t h)
theorem dq_ty {v : V} {d : PyData} (h : Dq K H v d) : TyX K H v (.type (tyOf d)) := by
  cases h with
  | non => exact .base .non
  | bl b => exact .base (.bl b)
  | int i => exact .base (.int i)
  | str x => exact .base (.str x)
  | lst hs ha =>
    rcases hs with (h | ⟨o, h⟩) | ⟨o, its, n, h, c, _⟩
    · exact .base (.lst h)
    · exact .base (.frz h)
    · exact .kList h c
  | tup hs ha =>
    rcases hs with (h | ⟨o, h⟩) | ⟨o, its, n, h, c, _⟩
    · exact .base (.tup h)
    · exact .fTuple h
    · exact .kTuple h c
  | dct h => exact .base (.dK h)
end
section
variable {K : PySem.W.Frag} {σ : L2.St} {H : Hp} {te tb : TE} {v w : V} {d e : PyData} {b : Bool}
theorem evq_isi {n : String} (h : Evl.Ev te σ H v) (hd : Dq K H v d) (hb : kitB (tyOf d) n = some b) : Evl.Ev (tCB (rIsi K) (tCons te (tCons (tC (.ty n)) tNil))) σ H (.bl b) := fun H1 e1 Q q =>
  h H1 e1 _ fun H2 e2 => ⟨v, .ty n, _, _, b, rfl, .ty n, dq_ty (hd.up (e1.trans e2)), kit_ty hb, q H2 e2⟩
theorem evq_isi2 {m n : String} (h : Evl.Ev te σ H v) (hd : Dq K H v d) (hb : kitsB (tyOf d) [m, n] = some b) : Evl.Ev (tCB (rIsiT K) (tCons te (tCons (tTup (tCons (tC (.ty m)) (tCons (tC (.ty n)) tNil))) tNil))) σ H (.bl b) := fun H1 e1 Q q =>
  h H1 e1 _ fun H2 e2 => ⟨by show 2 ≤ sizeLine; decide, fun p hp => ⟨v, p, _, _, _, b, rfl, upd_same, tys_cls (ns := [m, n]), dq_ty (hd.up ((e1.trans e2).trans (Ex.new hp))), kitsB_ok hb, q _ (e2.trans (Ex.new hp))⟩⟩
end
end U

set_option Elab.async false
set_option linter.all false
set_option maxRecDepth 100000
set_option maxHeartbeats 4000000
namespace UX
open PySem PySem.W PySem.Calls PyProof.Rows PySem.HandSPX
section
variable {M : Model} {A : Around} {E : Value → Shared → Prop} {h : Heap} {g : Array GenState} {d : Drawn} {t : Nat} {os : OsState}
variable {nm q : Str} {C N : Addr} {bs bm bmB : List Value} {hd : Bool} {sn : List Str} {sub : List Value} {ab : Bool} {col : Option Bool} {dd : Option Addr} {k0 k1 k2 k3 k5 : Option Value} {B nid iid : String}
/-- keywords are no fault of a call of such a __new__ -/
theorem kw_check (F : ExcBaseFacts B nid iid bmB) (hT : ∀ X : String, bm.contains (.type X) = bmB.contains (.type X)) {kw : List (Str × Value)} {Q : Unit → Shared → Prop}
    (hC : h.get? C = some (excClassObj nm q C N bs bm hd sn sub ab col dd k0 k1 k2 k3 k5 nid)) (hq : Q () ⟨h, g, d, t, os⟩) : wpAny M A (checkBuiltinCall nid ⟨[.ref C], kw⟩) Q E ⟨h, g, d, t, os⟩ := by
  have inB : (Value.ref C :: bm).contains (.type B) = true := (List.contains_cons ..).trans (by rw [hT, F.hasB]; exact Bool.or_true _)
  have star := F.noStar
  simp only [checkBuiltinCall, F.newKind, F.newSplit, F.newRow]
  repeat (first | refine wpAny_loadPart_at hC ?_ | (refine wpAny_isSubtype_exc hC ?_; rw [inB]) | refine wpAny_staticBase_exc hC ?_ | refine wpAny_madeBy_exc hC ?_ | (simp only [bne_self_eq_false, Bool.false_eq_true, if_false]) | wp_step)
  exact hq
end
section
variable {prog : Program} {w : World} {A : Around} {E : Value → Shared → Prop} {R : Result → Shared → Prop} {h : Heap} {g : Array GenState} {d : Drawn} {t : Nat} {os : OsState}
variable {nm q : Str} {C N : Addr} {bs bm bmB : List Value} {hd : Bool} {sn : List Str} {sub : List Value} {ab : Bool} {col : Option Bool} {dd : Option Addr} {k0 k1 k2 k3 k5 : Option Value} {B nid iid : String}
/-- the heap behind the making of an exception without arguments -/
abbrev mkd (h : Heap) (C : Addr) : Heap := (h.push (kdv_tup [])).push (excO C h.objs.size)
theorem kw_new (F : ExcBaseFacts B nid iid bmB) (hT : ∀ X : String, bm.contains (.type X) = bmB.contains (.type X)) {kw : List (Str × Value)} (hC : h.get? C = some (excClassObj nm q C N bs bm hd sn sub ab col dd k0 k1 k2 k3 k5 nid))
    (hq : R (.ok (.ret (.ref (h.objs.size + 1)))) ⟨mkd h C, g, d, t, os⟩) : codeAny (model prog w) A (.builtin nid ⟨[.ref C], kw⟩) R ⟨h, g, d, t, os⟩ := by
  have ends := F.ends
  have inB : (Value.ref C :: bm).contains (.type B) = true := (List.contains_cons ..).trans (by rw [hT, F.hasB]; exact Bool.or_true _)
  have noA : (Value.ref C :: bm).contains (.type "AttributeError") = false := (List.contains_cons ..).trans (by rw [hT, F.noAttr]; rfl)
  have noN : (Value.ref C :: bm).contains (.type "NameError") = false := (List.contains_cons ..).trans (by rw [hT, F.noName]; rfl)
  have none0 : ([] : List Value).length ≤ sizeLine := Nat.zero_le _
  refine codeAny_builtinAt F.entry ?_
  unfold Builtin.«BaseException.__new__»
  refine PySem.wpAt_bind ?_
  show PySem.wpAt _ _ _ (stack >>= _) _ _ _
  refine PySem.wpAt_bind (PySem.wpAt_stack fun p below => PySem.wpAt_of_wpAny ?_)
  wp_walk
  refine PySem.wpAt_of_wpAny ?_
  rw [F.owner]
  repeat (first | with_reducible refine wpAny_madeHere_exc F.canon hC ?_ | with_reducible refine wpAny_loadPart_at hC ?_ | (with_reducible refine wpAny_isSubtype_exc hC ?_; first | rw [inB] | rw [noA] | rw [noN]) | wp_step)
  show R _ _
  rw [Heap.size_push]
  exact hq
theorem kw_type (F : ExcBaseFacts B nid iid bmB) (hT : ∀ X : String, bm.contains (.type X) = bmB.contains (.type X)) {kw : List (Str × Value)} {fI : Addr} {Q : Fin → Shared → Prop} (hC : h.get? C = some (excClassObj nm q C N bs bm hd sn sub ab col dd k0 k1 k2 k3 k5 nid))
    (hi : Looks (model prog w) h (typeLookup (.ref C) "__init__") (some (.ref fI))) (hb : ∀ self, Looks (model prog w) h (bindSpecial (.ref fI) self) (.ref fI, [self]))
    (hq : codeAny (model prog w) A (.call (.ref fI) ⟨[.ref (h.objs.size + 1)], kw⟩) (fun r s' => match r with | .ok (.ret v) => v = .none ∧ Q (.done (.ret (.ref (h.objs.size + 1)))) s' | .ok _ => False | .error e => E e s') ⟨mkd h C, g, d, t, os⟩) :
    wpAny (model prog w) A (Builtin.«type.__call__» ⟨[.ref C], kw⟩) Q E ⟨h, g, d, t, os⟩ := by
  repeat (first | with_reducible refine wpAny_loadPart_at hC ?_ | with_reducible refine wpAny_madeBy_exc hC ?_ | wp_step)
  refine codeAny_call_builtin_code (Code.quiet_builtin _ F.quiet) (kw_check F hT hC ?_)
  refine kw_new F hT hC ?_
  show wpAny _ _ _ _ _ _
  have kp : ∀ b o, h.get? b = some o → (mkd h C).get? b = some o := fun b o e => Heap.get?_push_of_some _ (Heap.get?_push_of_some _ e)
  have hC1 := kp _ _ hC
  have get1 : (mkd h C).get? (h.objs.size + 1) = some (excO C h.objs.size) := by heap_get
  have self1 : (Value.ref C :: bm).contains (.ref C) = true := by simp
  have i1 := hi.keeps kp
  have b1 := (hb (.ref (h.objs.size + 1))).keeps kp
  unfold isInstance
  repeat (first | with_reducible refine wpAny_loadPart_at get1 ?_ | (with_reducible refine wpAny_isSubtype_exc hC1 ?_; rw [self1]) | wp_step)
  show wpAny _ _ (typeLookup (.ref C) _) _ _ _
  refine i1.at ?_
  refine wpAny_holding (wpAny_bind (b1.at ?_))
  refine wpAny_bind (wpAny_call (codeAny_mono hq fun r s' z => ?_))
  cases r with
  | error e => exact z
  | ok fl =>
    cases fl with
    | ret v =>
      obtain ⟨rfl, z⟩ := z
      first
        | exact wpAny_pure (wpAny_pure z)
        | (wp_walk; exact z)
    | next => exact z.elim
    | brk => exact z.elim
    | cont => exact z.elim
theorem kw_call (F : ExcBaseFacts B nid iid bmB) (hT : ∀ X : String, bm.contains (.type X) = bmB.contains (.type X)) {kw : List (Str × Value)} {fI : Addr} (hC : h.get? C = some (excClassObj nm q C N bs bm hd sn sub ab col dd k0 k1 k2 k3 k5 nid))
    (hi : Looks (model prog w) h (typeLookup (.ref C) "__init__") (some (.ref fI))) (hb : ∀ self, Looks (model prog w) h (bindSpecial (.ref fI) self) (.ref fI, [self]))
    (hq : codeAny (model prog w) (A.under (.builtin "type.__call__" ⟨[.ref C], kw⟩)) (.call (.ref fI) ⟨[.ref (h.objs.size + 1)], kw⟩) (InitBack (h.objs.size + 1) R) ⟨mkd h C, g, d, t, os⟩) :
    codeAny (model prog w) A (.call (.ref C) ⟨[], kw⟩) R ⟨h, g, d, t, os⟩ := by
  have f1 := tc_lookup
  have f2 := tc_bind (.ref C)
  have tyC : (⟨h, g, d, t, os⟩ : Shared).TypeIs (.ref C) "type" := ⟨_, hC, rfl⟩
  refine codeAny_of_tree ?_
  show wpAny _ _ (callAny (.ref C) _) _ _ _
  repeat (any_goals (first | assumption | with_reducible refine wpAny_loadPart_at hC ?_ | wp_step))
  refine ⟨rfl, ?_⟩
  refine codeAny_call_builtin_at (Code.quiet_builtin _ (by decide +kernel)) entry_typeCall (wpAny_check_type_call_sub hC (kw_type F hT hC hi hb ?_))
  refine codeAny_mono hq fun r s' z => ?_
  cases r with
  | error e => exact z
  | ok fl => cases fl <;> exact z
end
end UX

set_option Elab.async false
set_option linter.all false
set_option maxRecDepth 100000
set_option maxHeartbeats 4000000
namespace U
open PySem L2 PyProof.Rows
open Evl (Ex)
/-! ### errors of the text as values -/
/-- what a class of errors with its own __init__(self, f) says -/
structure ErrC (P : Program) (w : World) (K : PySem.W.Frag) (mg : Str → Option Value) (base : Heap) (x : Str) (C : Addr) (f : Str) : Prop where
  T : OexC K C
  gC : mg x = some (.ref C)
  xf : XfC K C
  no : PySem.W.findIn K (.ref C) f = some none
  init : ∃ (fI : Addr) (fd : FuncData), PySem.W.findIn K (.ref C) "__init__" = some (some (.ref fI)) ∧ PySem.W.typeIn K (.ref fI) = some (.type "function") ∧
    FnOk P w K mg base CX0 1 fI fd ["self", f] (fun vs H Q _ => ∃ (a : Addr) (v : V), vs = [.ref a, v] ∧ H a = some (exo a C none) ∧ ∀ dx, H dx = none → dx ≠ a → Q .non (upd (upd H dx (exd dx [(f, v)])) a (exo a C (some dx)))) ∧
    Binds K fd ["self", f] [] ∧ (∀ (s : Shared) (u v : Value), BindsTo s fd ⟨[u], [(f, v)]⟩ [("self", u), (f, v)])
/-- at a an error of the class at C whose attribute f is v -/
def ErrAt (H : Hp) (a C : Addr) (f : Str) (v : V) : Prop := ∃ d : Addr, H a = some (exo a C (some d)) ∧ H d = some (exd d [(f, v)])
theorem ErrAt.up {H H' : Hp} {a C : Addr} {f : Str} {v : V} (h : ErrAt H a C f v) (e : Ex H H') : ErrAt H' a C f v := by
  obtain ⟨d, h1, h2⟩ := h
  exact ⟨d, e _ _ h1, e _ _ h2⟩
/-- at a an error of the class at C -/
def ErrOf (H : Hp) (a C : Addr) : Prop := (∃ (d : Addr) (fs : List (Str × V)), H a = some (exo a C (some d)) ∧ H d = some (exd d fs)) ∨ H a = some (ExO (.ref C) a)
theorem ErrOf.up {H H' : Hp} {a C : Addr} (h : ErrOf H a C) (e : Ex H H') : ErrOf H' a C := by
  rcases h with ⟨d, fs, h1, h2⟩ | h1
  · exact .inl ⟨d, fs, e _ _ h1, e _ _ h2⟩
  · exact .inr (e _ _ h1)
theorem ErrAt.of {H : Hp} {a C : Addr} {f : Str} {v : V} (h : ErrAt H a C f v) : ErrOf H a C := by
  obtain ⟨d, h1, h2⟩ := h
  exact .inl ⟨d, _, h1, h2⟩
theorem err_laid {H : Hp} {a dx C : Addr} {f : Str} {v : V} (ha : H a = none) (hd : H dx = none) (n : dx ≠ a) :
    Ex H (upd (upd (upd H a (exo a C none)) dx (exd dx [(f, v)])) a (exo a C (some dx))) ∧ ErrAt (upd (upd (upd H a (exo a C none)) dx (exd dx [(f, v)])) a (exo a C (some dx))) a C f v := by
  refine ⟨fun b o e => ?_, dx, upd_same, ?_⟩
  · have n1 : b ≠ a := ne_of_none e ha
    have n2 : b ≠ dx := ne_of_none e hd
    rw [upd_ne n1, upd_ne n2, upd_ne n1]
    exact e
  · rw [upd_ne n, upd_same]
section
variable {X : Cx} {x f : Str} {C : Addr} {e : Expr} {te : TE} {p pos kpos apos : Pos}
/-- X(e): a new error -/
def tErr (C : Addr) (f : Str) (te : TE) : TE := fun σ H Q => te σ H fun v H1 => ∀ a H2, H1 a = none → Ex H1 H2 → ErrAt H2 a C f v → Q (.ref a) H2
theorem err_size {us : List Value} (h : us.length ≤ 1) : us.length ≤ sizeLine := by
  rw [sizeLine_eq]
  omega
theorem pe_err (R : ErrC X.prog X.w X.K X.mg X.base x C f) (hr : Room 2 X.A) (hg : Gl X x) (he : PE X e te) (hdb : (x == ("__debug__" : Str)) = false := by decide)
    (hs : starEach [e] X.env = (false, eval e X.env) :: starEach [] X.env := by rfl) : PE X (.Call (.Name x p) [e] [] pos) (tErr C f te) := by
  refine ⟨fun pins s σ H Q I h => ?_⟩
  obtain ⟨fI, fd, iC, tI, F1, hb, _⟩ := R.init
  obtain ⟨nm, q, N, bs, bm, sn, sub, ab, col, dd, k0, k1, k2, k3, k5, hC, hbm⟩ := R.T.cls
  refine wpAny_Call_Name_kw (ld_glob I hg R.gC ?_ hdb)
  refine PySem.W.callWith_K (h₀ := X.base) I.ok.mod.kin R.T.kC ?_ hs (by rfl)
  rw [hs]
  show wpAny _ _ (spliced ((false, eval e X.env) :: backTo pos (starEach [] X.env))) _ _ s
  refine Calls.spliced_cons (thn (he.run pins s σ H _ I h) fun u s1 ⟨v, H1, I1, r1, q1⟩ => Calls.spliced_nil ⟨I1.kIn, ?_⟩)
  show wpAny _ _ (call (.ref C) [u]) _ _ _
  obtain ⟨hp, g, dr, tk, os⟩ := s1
  have hsz : hp.objs.size ≤ hp.objs.size + 1 := Nat.le_succ _
  have hn : H1 (hp.objs.size + 1) = none := I1.hok.fresh hsz
  have kk : ∀ b o, hp.get? b = some o → ((hp.push (PySem.W.kdv_tup [u])).push (PySem.HandSPX.excO C hp.objs.size)).get? b = some o := fun b o z => Heap.get?_push_of_some _ (Heap.get?_push_of_some _ z)
  have hget : ((hp.push (PySem.W.kdv_tup [u])).push (PySem.HandSPX.excO C hp.objs.size)).get? (hp.objs.size + 1) = some (PySem.HandSPX.excO C hp.objs.size) := by heap_get
  have I2 : Inv X pins σ (upd H1 (hp.objs.size + 1) (exo (hp.objs.size + 1) C none)) ⟨(hp.push (PySem.W.kdv_tup [u])).push (PySem.HandSPX.excO C hp.objs.size), g, dr, tk, os⟩ :=
    I1.laid (t' := tk) (a := hp.objs.size + 1) (o := exo (hp.objs.size + 1) C none) (h' := (hp.push (PySem.W.kdv_tup [u])).push (PySem.HandSPX.excO C hp.objs.size)) kk hsz (exo_ok hget)
  have r2 : Vals [V.ref (hp.objs.size + 1), v] [Value.ref (hp.objs.size + 1), u] := .cons rfl (.cons r1 .nil)
  have bt := hb _ [Value.ref (hp.objs.size + 1), u] I2.kIn rfl
  rw [List.append_nil] at bt
  refine wpAny_call (PySem.HandSPX.call_own PySem.F.excBase_ValueError (fun Y => PySem.HandSPX.refsVE_contains Y bm hbm) (I1.kIn _ _ hC) (PySem.W.looks_findIn I1.kIn iC) (fun self => PySem.W.bind_fn I1.kIn self tI) (err_size (Nat.le_refl 1))
    (codeAny_mono (F1.run _ X.stack _ _ ⟨[Value.ref (hp.objs.size + 1), u], []⟩ [Value.ref (hp.objs.size + 1), u] _ (fun y H2 => y = .non ∧ Q (.ref (hp.objs.size + 1)) H2) (fun _ _ _ => False) (hr.make C [u] []) (I2.env0.make C [u] []) bt r2
      ⟨_, v, rfl, upd_same, fun dx hdx nx => ⟨rfl, ?_⟩⟩) fun r s' hq' => ?_))
  · have hd1 : H1 dx = none := by
      rw [upd_ne nx] at hdx
      exact hdx
    obtain ⟨z1, z2⟩ := err_laid (C := C) (f := f) (v := v) hn hd1 nx
    exact q1 _ _ hn z1 z2
  · cases r with
    | error er => exact False.elim hq'
    | ok fl =>
      cases fl with
      | ret u' =>
        obtain ⟨y, H', I3, ry, ey, q3⟩ := I2.after hq'
        subst ey
        exact ⟨ry, ⟨V.ref (hp.objs.size + 1), H', I3, rfl, q3⟩⟩
      | next => exact False.elim hq'
      | brk => exact False.elim hq'
      | cont => exact False.elim hq'
/-- of a list with one item -/
def only1 (R : V → Hp → Prop) : List V → Hp → Prop
  | [v], H => R v H
  | _, _ => False
theorem only1_is {R : V → Hp → Prop} : ∀ {vs : List V} {H : Hp}, only1 R vs H → ∃ v, vs = [v] ∧ R v H
  | [v], _, h => ⟨v, rfl, h⟩
  | [], _, h => h.elim
  | _ :: _ :: _, _, h => h.elim
/-- X(f=e) -/
theorem pe_errK (R : ErrC X.prog X.w X.K X.mg X.base x C f) (hr : Room 2 X.A) (hg : Gl X x) (he : PE X e te) (hdb : (x == ("__debug__" : Str)) = false := by decide) : PE X (.Call (.Name x p) [] [⟨some f, e, kpos⟩] pos) (tErr C f te) := by
  refine ⟨fun pins s σ H Q I h => ?_⟩
  obtain ⟨fI, fd, iC, tI, F1, _, hb⟩ := R.init
  obtain ⟨nm, q, N, bs, bm, sn, sub, ab, col, dd, k0, k1, k2, k3, k5, hC, hbm⟩ := R.T.cls
  refine wpAny_Call_Name_kw (ld_glob I hg R.gC ?_ hdb)
  have hk : PK X [⟨some f, e, kpos⟩] (tCons te tNil) := pk_cons he pk_nil
  refine PySem.W.callWith_KW0 (h₀ := X.base) I.ok.mod.kin R.T.kC (by rfl) (thn (hk.run pos pins s σ H (only1 fun v H1 => ∀ a H2, H1 a = none → Ex H1 H2 → ErrAt H2 a C f v → Q (.ref a) H2) I h) fun us s1 ⟨vs, H1, I1, r1, q0⟩ => ⟨I1.kIn, ?_⟩)
  obtain ⟨v, ev, q1⟩ := only1_is q0
  subst ev
  obtain ⟨u, eu, r9⟩ := Vals.one r1
  subst eu
  show wpAny _ _ (call (.ref C) [] [(f, u)]) _ _ _
  obtain ⟨hp, g, dr, tk, os⟩ := s1
  have hsz : hp.objs.size ≤ hp.objs.size + 1 := Nat.le_succ _
  have hn : H1 (hp.objs.size + 1) = none := I1.hok.fresh hsz
  have kk : ∀ b o, hp.get? b = some o → (UX.mkd hp C).get? b = some o := fun b o z => Heap.get?_push_of_some _ (Heap.get?_push_of_some _ z)
  have hget : (UX.mkd hp C).get? (hp.objs.size + 1) = some (PySem.HandSPX.excO C hp.objs.size) := by heap_get
  have I2 : Inv X pins σ (upd H1 (hp.objs.size + 1) (exo (hp.objs.size + 1) C none)) ⟨UX.mkd hp C, g, dr, tk, os⟩ :=
    I1.laid (t' := tk) (a := hp.objs.size + 1) (o := exo (hp.objs.size + 1) C none) (h' := UX.mkd hp C) kk hsz (exo_ok hget)
  have r2 : Vals [V.ref (hp.objs.size + 1), v] [Value.ref (hp.objs.size + 1), u] := .cons rfl (.cons r9 .nil)
  have bt := hb ⟨UX.mkd hp C, g, dr, tk, os⟩ (Value.ref (hp.objs.size + 1)) u
  refine wpAny_call (UX.kw_call PySem.F.excBase_ValueError (fun Y => PySem.HandSPX.refsVE_contains Y bm hbm) (I1.kIn _ _ hC) (PySem.W.looks_findIn I1.kIn iC) (fun self => PySem.W.bind_fn I1.kIn self tI)
    (codeAny_mono (F1.run _ X.stack _ _ ⟨[Value.ref (hp.objs.size + 1)], [(f, u)]⟩ [Value.ref (hp.objs.size + 1), u] _ (fun y H2 => y = .non ∧ Q (.ref (hp.objs.size + 1)) H2) (fun _ _ _ => False) (hr.make C [] [(f, u)]) (I2.env0.make C [] [(f, u)]) bt r2
      ⟨_, v, rfl, upd_same, fun dx hdx nx => ⟨rfl, ?_⟩⟩) fun r s' hq' => ?_))
  · have hd1 : H1 dx = none := by
      rw [upd_ne nx] at hdx
      exact hdx
    obtain ⟨z1, z2⟩ := err_laid (C := C) (f := f) (v := v) hn hd1 nx
    exact q1 _ _ hn z1 z2
  · cases r with
    | error er => exact False.elim hq'
    | ok fl =>
      cases fl with
      | ret u' =>
        obtain ⟨y, H', I3, ry, ey, q3⟩ := I2.after hq'
        subst ey
        exact ⟨ry, ⟨V.ref (hp.objs.size + 1), H', I3, rfl, q3⟩⟩
      | next => exact False.elim hq'
      | brk => exact False.elim hq'
      | cont => exact False.elim hq'
/-- e.f, e an error that stands -/
def tErrF (K : PySem.W.Frag) (f : Str) (te : TE) : TE := fun σ H Q => te σ H fun x H1 => ∃ (a C : Addr) (v : V), x = .ref a ∧ XfC K C ∧ PySem.W.findIn K (.ref C) f = some none ∧ ErrAt H1 a C f v ∧ Q v H1
theorem pe_errF (he : PE X e te) (hb : attributeBase e f X.env (eval e X.env) = eval e X.env := by rfl) : PE X (.Attribute e f pos) (tErrF X.K f te) := by
  refine ⟨fun pins s σ H Q I h => ?_⟩
  refine attr_of hb (thn (he.run pins s σ H _ I h) fun u s1 hh => ?_)
  obtain ⟨x, H1, I1, rx, a, C, v, ex, R, hno, ⟨d, ea, ed⟩, q⟩ := hh
  subst ex
  obtain rfl : u = Value.ref a := rx
  obtain ⟨t1, ho⟩ := exo_at I1.hok ea
  obtain ⟨mA, hns, rel⟩ := exd_at I1.hok ed
  obtain ⟨od, hd, hl⟩ := lookIn_ns hns
  have l1 : [(f, v)].lookup f = some v := by simp [List.lookup]
  obtain ⟨y, hy, ry⟩ := RelO.some_of (v := v) (o := mA f) (by rw [← l1]; exact rel f)
  have J : PySem.W.InstAt s1.heap a { cls := .ref C, dict := some d, data := .fields #[.ref t1, .none, .none, .none, .bool false, .none] } C (some od) := ⟨ho, rfl, rfl, hd⟩
  exact HandSPX.exc_get I1.kIn J R.ga R.gg R.exC (PySem.W.findObj_own R.hdC hno rfl (by rw [hl, hy])) (handed_of ry) ⟨v, H1, I1.tok _, ry, q⟩
/-- X(): an error of a class without own __init__ -/
theorem pe_err0 {bmB : List Value} {B nid iid : String} (F : ExcBaseFacts B nid iid bmB) (q : PySem.W.excIn X.K C bmB nid = true) (gC : X.mg x = some (.ref C)) (kC : PySem.W.keepIn X.K (.ref C) = true) (hg : Gl X x) (hdb : (x == ("__debug__" : Str)) = false := by decide) :
    PE X (.Call (.Name x p) [] [] pos) (fun _ H Q => ∀ a, H a = none → Q (.ref a) (upd H a (ExO (.ref C) a))) := by
  refine ⟨fun pins s σ H Q I h => ?_⟩
  refine wpAny_Call_Name_kw (ld_glob I hg gC ?_ hdb)
  refine PySem.W.callWith_K0 I.kIn kC ?_
  show wpAny _ _ (call (.ref C) []) _ _ _
  obtain ⟨bm, N, nm, qn, bs, hdct, sn, sub, ab, col, dd, k0, k1, k2, k3, k5, mN, hC, hN, hni, T⟩ := exc_obj I.kIn q
  refine wpAny_call_exc_subT F T hC hN hni (fun h' a hm => ?_) (Nat.zero_le _)
  have hn : H a = none := I.hok.gone hm.new
  obtain ⟨t, ht, _, _⟩ := hm.there
  exact ⟨.ref a, upd H a (ExO (.ref C) a), I.laidN hm.keeps hm.new hn (exO_ok ht ⟨rfl, rfl⟩ rfl rfl rfl (show 4 < 6 by decide)), rfl, h a hn⟩
/-- what the class D says, so that isinstance asks its instances rightly -/
structure IsiC (K : PySem.W.Frag) (D : Addr) : Prop where
  cl : (PySem.W.clsIn K D).isSome = true
  hg : PySem.W.findIn K (.ref D) "__getattribute__" = some (some (.builtin "BaseException.__getattribute__"))
  hk : PySem.W.findIn K (.ref D) "__getattr__" = some none
  hs : PySem.W.subIn K (.ref D) (.type "BaseException") = some true
  ha : PySem.W.findIn K (.ref D) "__class__" = some (some (.builtin "object.__class__"))
  hn : PySem.W.specialIn K (.builtin "object.__class__") "__get__" = some (some (.builtin "getset_descriptor.__get__"))
  ht : PySem.W.takesIn K (.builtin "object.__class__") = some true
  hm : PySem.W.mroIn K D (.type "object") = some true
/-- isinstance(e, c), e an error that stands -/
def rIsErr (K : PySem.W.Frag) : List V → Hp → VK → Prop := fun xs H Q => ∃ (a D : Addr) (c : V) (cv : Value) (b : Bool), xs = [.ref a, c] ∧ ErrOf H a D ∧ IsiC K D ∧ ClsV c cv ∧ PySem.W.kitOne K (.ref D) cv = some b ∧ Q (.bl b) H
theorem call_isErr : CallR X (.builtin "isinstance") (rIsErr X.K) := by
  intro pins s σ H xs us Q I r h
  obtain ⟨a, D, c, cv, b, rfl, he, Z, hc, e, q⟩ := h
  obtain ⟨u1, u2, rfl, r1, r2⟩ := vals2 r
  have e2 := hc.eq r2
  subst e2
  obtain rfl : u1 = Value.ref a := r1
  have J : ∃ (ox : Obj) (od : Option Obj), PySem.W.InstAt s.heap a ox D od := by
    rcases he with ⟨d, fs, ea, ed⟩ | ea
    · obtain ⟨t1, ho⟩ := exo_at I.hok ea
      obtain ⟨mA, hns, rel⟩ := exd_at I.hok ed
      obtain ⟨od, hd, hl⟩ := lookIn_ns hns
      exact ⟨_, some od, ho, rfl, rfl, hd⟩
    · obtain ⟨⟨oe, vs, h1, h2, h3, _⟩, _, _⟩ := (show ObjOk X.prog X.w H s.heap a (.ext _) from I.hok a _ ea)
      refine ⟨oe, none, h1, h2.1, ?_, ?_⟩
      · unfold PySem.W.notCls
        rw [h3]
      · rw [h2.2]
        trivial
  obtain ⟨ox, od, J⟩ := J
  exact PySem.W.kia_one (PySem.W.kitx_exc Z.cl Z.hg Z.hk Z.hs Z.ha Z.hn Z.ht Z.hm) I.kIn J e (fun z => nomatch z) fun tk => ⟨.bl b, H, I.tok tk, rfl, q⟩
end
end U

set_option Elab.async false
set_option linter.all false
set_option maxRecDepth 100000
set_option maxHeartbeats 4000000
namespace U
open PySem L2
open Evl (Ex)
def top (i : Nat) : Stmt := PySem.Challenge.pw_toldenough_k04_samples_changed.main.body.getD i (.Pass ⟨0, 0, 0, 0⟩)
abbrev s_source : Stmt := top 22
abbrev sc_source_N : List Str := ["_law_script", "_law_at", "_law_cell"]
theorem sc_source : FnScope sc_source_N ["_law_script", "_law_at"] (defScope s_source) := ⟨rfl, rfl, rfl, by decide +kernel, rfl, by decide +kernel, by decide +kernel⟩
abbrev s_draw : Stmt := top 23
abbrev sc_draw_N : List Str := ["_law_draws", "_law_many", "_law_digit", "_law_seed"]
theorem sc_draw : FnScope sc_draw_N ["_law_draws", "_law_many"] (defScope s_draw) := ⟨rfl, rfl, rfl, by decide +kernel, rfl, by decide +kernel, by decide +kernel⟩
abbrev s_pick : Stmt := top 24
abbrev sc_pick_N : List Str := ["_law_draws", "_law_things"]
theorem sc_pick : FnScope sc_pick_N ["_law_draws", "_law_things"] (defScope s_pick) := ⟨rfl, rfl, rfl, by decide +kernel, rfl, by decide +kernel, by decide +kernel⟩
abbrev s_same : Stmt := top 26
abbrev sc_same_N : List Str := ["_law_found", "_law_due", "_law_left", "_law_right"]
theorem sc_same : FnScope sc_same_N ["_law_found", "_law_due"] (defScope s_same) := ⟨rfl, rfl, rfl, by decide +kernel, rfl, by decide +kernel, by decide +kernel⟩
structure TxB (mg : Str → Option Value) : Prop where
  m_len : mg "len" = none
  m_int : mg "int" = none
  m_isinstance : mg "isinstance" = none
  m_list : mg "list" = none
  m_tuple : mg "tuple" = none
  m_bool : mg "bool" = none
  m_all : mg "all" = none
  m_zip : mg "zip" = none
section
variable {P : Program} {w : World} {K : PySem.W.Frag} {mg : Str → Option Value} {base : Heap}
theorem ok_source {f : Addr} {fd : FuncData} (F : Fun K "_law_source" "_law_source" s_source f fd) (T : TxB mg) : FnOk P w K mg base CX0 1 f fd ["_law_script", "_law_at"] (spSource K) := by
  refine F.ok sc_source (fun vs H Q E h => ?_) (fun cdv A outer s H vs Q E hr h => ?_)
  · obtain ⟨_, _, _, rfl, _⟩ := h
    rfl
  · obtain ⟨sa, ns, i, rfl, hS, hl, hi, k⟩ := h
    refine ⟨_, (pss_cons (ps_set (i := 2) sc_source.nd rfl (by first | exact Or.inl rfl | exact Or.inr rfl) (pe_ifExp (pt_cmpR op_lt (pv 1) (pe_callB call_len_seq (by rfl) T.m_len (by decide +kernel) (pa_cons (pv 0) pa_nil)) (nomark _)) (pe_ix ix_list (pv 0) (pv 1) (fun _ _ => rfl)) (pe_op op_add (pe_op op_mul pe_int (pv 1)) pe_int)))
    (pss_one (ps_ret (pe_lst (pa_cons (pe_ifExp (pt_cmpR op_ge (pv 2) (pe_op op_pow pe_int pe_int) (nomark _)) (pv 2) pe_int) (pa_cons (pe_op op_add (pe_op op_mod (pe_callTy call_int1 (by rfl) T.m_int (by decide +kernel) (pa_cons (pv 2) pa_nil)) pe_int) (pe_op op_mul pe_int (pv 1))) (pa_cons pe_int pa_nil))))))), ?_⟩
    have hlen : (ns.map V.int).length = ns.length := List.length_map ..
    have fin : ∀ (c : Int), ∀ l : Addr, H l = none → Q (.ref l) (upd H l (.lst [.int (if c ≥ 10 ^ 18 then c else 0), .int (c % 2147483647 + 131 * (i : Int)), .int 0])) := fun c l hn => by
      refine k l _ hn ⟨_, _, _, upd_same, ?_, ?_, ?_, by decide, by decide⟩
      · by_cases hc : c ≥ 10 ^ 18
        · rw [if_pos hc]
          omega
        · rw [if_neg hc]
          decide
      · omega
      · omega
    refine ⟨_, rfl, _, rfl, sa, _, rfl, .inl hS, _, _, rfl, rfl, _, rfl, ?_⟩
    refine ite2 (fun hc => ?_) (fun hc => ?_)
    · have hc' : i < ns.length := by
        have q := of_decide_eq_true hc
        rw [hlen] at q
        omega
      refine ⟨_, rfl, _, rfl, sa, _, _, .int ns[i], rfl, rfl, hS, atI_nat (by rw [List.getElem?_map, List.getElem?_eq_getElem hc']; rfl), ?_⟩
      have g := fin (ns[i])
      generalize ns[i] = c at g ⊢
      refine ⟨_, rfl, _, _, rfl, rfl, ⟨by decide, by decide, by decide⟩, _, _, rfl, rfl, _, rfl, ?_⟩
      refine ite2 (fun hc => ?_) (fun hc => ?_)
      · have hc' : c ≥ 10 ^ 18 := of_decide_eq_true hc
        rw [if_pos hc'] at g
        refine ⟨_, rfl, _, rfl, .inl ⟨_, rfl, _, _, rfl, rfl, (by show (0 : Int) < _; decide), _, rfl, _, _, rfl, rfl, .inl ⟨by decide, by decide⟩, _, _, rfl, rfl, by show 3 ≤ sizeLine; decide, fun l hn => ?_⟩⟩
        exact g l hn
      · have hc' : ¬ c ≥ 10 ^ 18 := fun q => hc (decide_eq_true q)
        rw [if_neg hc'] at g
        refine ⟨_, rfl, .inl ⟨_, rfl, _, _, rfl, rfl, (by show (0 : Int) < _; decide), _, rfl, _, _, rfl, rfl, .inl ⟨by decide, by decide⟩, _, _, rfl, rfl, by show 3 ≤ sizeLine; decide, fun l hn => ?_⟩⟩
        exact g l hn
    · have g := fin (11 * (i : Int) + 3)
      refine ⟨_, rfl, _, _, rfl, rfl, .inl ⟨by decide, by decide⟩, _, _, rfl, rfl, ?_⟩
      refine ⟨_, rfl, _, _, rfl, rfl, ⟨by decide, by decide, by decide⟩, _, _, rfl, rfl, _, rfl, ?_⟩
      refine ite2 (fun hc => ?_) (fun hc => ?_)
      · have hc' : 11 * (i : Int) + 3 ≥ 10 ^ 18 := of_decide_eq_true hc
        rw [if_pos hc'] at g
        refine ⟨_, rfl, _, rfl, .inl ⟨_, rfl, _, _, rfl, rfl, (by show (0 : Int) < _; decide), _, rfl, _, _, rfl, rfl, .inl ⟨by decide, by decide⟩, _, _, rfl, rfl, by show 3 ≤ sizeLine; decide, fun l hn => ?_⟩⟩
        exact g l hn
      · have hc' : ¬ 11 * (i : Int) + 3 ≥ 10 ^ 18 := fun q => hc (decide_eq_true q)
        rw [if_neg hc'] at g
        refine ⟨_, rfl, .inl ⟨_, rfl, _, _, rfl, rfl, (by show (0 : Int) < _; decide), _, rfl, _, _, rfl, rfl, .inl ⟨by decide, by decide⟩, _, _, rfl, rfl, by show 3 ≤ sizeLine; decide, fun l hn => ?_⟩⟩
        exact g l hn
theorem ok_draw {f : Addr} {fd : FuncData} (F : Fun K "_law_draw" "_law_draw" s_draw f fd) (T : TxB mg) : FnOk P w K mg base CX0 1 f fd ["_law_draws", "_law_many"] spDraw := by
  refine F.ok sc_draw (fun vs H Q E h => ?_) (fun cdv A outer s H vs Q E hr h => ?_)
  · obtain ⟨_, _, _, rfl, _⟩ := h
    rfl
  · obtain ⟨l, many, n, rfl, ⟨x, y, z, hl, x0, y0, y1, z0, z1⟩, hn, m0, m1, k⟩ := h
    refine ⟨_, (pss_cons (ps_if (pt_cmpR op_gt (pe_ix ix_list (pv 0) pe_int (fun _ _ => rfl)) pe_int (nomark _)) (pss_cons (ps_set (i := 2) sc_draw.nd rfl (by first | exact Or.inl rfl | exact Or.inr rfl) (pe_op op_mod (pe_callTy call_int1 (by rfl) T.m_int (by decide +kernel) (pa_cons (pe_ix ix_list (pv 0) pe_int (fun _ _ => rfl)) pa_nil)) (pv 1)))
      (pss_cons (ps_asg (pe_op op_fdivN (pe_ix ix_list (pv 0) pe_int (fun _ _ => rfl)) (pv 1)) (pg_sub (pv 0) pe_int set_list))
      (pss_one (ps_ret (pv 2))))) pss_nil)
    (pss_cons (ps_asg (pe_op op_add (pe_ix ix_list (pv 0) pe_int (fun _ _ => rfl)) pe_int) (pg_sub (pv 0) pe_int set_list))
    (pss_cons (ps_set (i := 3) sc_draw.nd rfl (by first | exact Or.inl rfl | exact Or.inr rfl) (pe_op op_mod (pe_op op_pow (pe_callTy call_int1 (by rfl) T.m_int (by decide +kernel) (pa_cons (pe_op op_add (pe_op op_add (pe_ix ix_list (pv 0) pe_int (fun _ _ => rfl)) (pe_op op_mul pe_int (pe_ix ix_list (pv 0) pe_int (fun _ _ => rfl)))) pe_int) pa_nil)) pe_int) pe_int))
    (pss_one (ps_ret (pe_op op_mod (pe_op op_mod (pe_op op_pow (pe_callTy call_int1 (by rfl) T.m_int (by decide +kernel) (pa_cons (pe_op op_add (pe_op op_mul (pv 3) pe_int) (pe_op op_mul pe_int (pe_ix ix_list (pv 0) pe_int (fun _ _ => rfl)))) pa_nil)) pe_int) pe_int) (pv 1))))))), ?_⟩
    have i0 : atI [V.int x, V.int y, V.int z] 0 = some (.int x) := rfl
    have i1 : atI [V.int x, V.int y, V.int z] 1 = some (.int y) := rfl
    have i2 : atI [V.int x, V.int y, V.int z] 2 = some (.int z) := rfl
    refine ⟨_, rfl, l, _, _, _, rfl, rfl, SqL.of hl, i0, _, _, rfl, rfl, _, rfl, ?_⟩
    refine ite2 (fun hc => ?_) (fun hc => ?_)
    · refine ⟨_, rfl, l, _, _, _, rfl, rfl, SqL.of hl, i0, .inl ⟨_, rfl, _, rfl, _, _, rfl, rfl, m0, ?_⟩⟩
      refine ⟨_, rfl, l, _, _, _, rfl, rfl, SqL.of hl, i0, _, rfl, _, _, rfl, rfl, ⟨by omega, by omega⟩, _, rfl, l, _, _, 0, rfl, rfl, hl, rfl, ?_⟩
      refine ⟨_, rfl, ?_⟩
      exact k (x % many) _ (Int.emod_nonneg _ (by omega)) (Int.emod_lt_of_pos _ m0) ⟨_, _, _, upd_same, Int.fdiv_nonneg x0 (by omega), y0, y1, z0, by omega⟩
    · have hl2 : (upd H l (.lst [V.int x, V.int y, V.int (z + 1)])) l = some (.lst [V.int x, V.int y, V.int (z + 1)]) := upd_same
      have j1 : atI [V.int x, V.int y, V.int (z + 1)] 1 = some (.int y) := rfl
      have j2 : atI [V.int x, V.int y, V.int (z + 1)] 2 = some (.int (z + 1)) := rfl
      refine ⟨_, rfl, l, _, _, _, rfl, rfl, SqL.of hl, i2, _, _, rfl, rfl, _, rfl, l, _, _, 2, rfl, rfl, hl, rfl, ?_⟩
      refine ⟨_, rfl, l, _, _, _, rfl, rfl, SqL.of hl2, j1, _, rfl, l, _, _, _, rfl, rfl, SqL.of hl2, j2, _, _, rfl, rfl, .inl ⟨by decide, by decide⟩, _, _, rfl, rfl, _, _, rfl, rfl, .inl ⟨_, rfl, _, _, rfl, rfl, ⟨by decide, by decide, ?_⟩, _, _, rfl, rfl, (by show (0 : Int) < _; decide), ?_⟩⟩
      · show (y + 7919 * (z + 1) + 104729).natAbs < 18446744073709551616
        omega
      have e1 : 0 ≤ (y + 7919 * (z + 1) + 104729) ^ (5 : Int).toNat % 2147483629 := Int.emod_nonneg _ (by decide)
      have e2 : (y + 7919 * (z + 1) + 104729) ^ (5 : Int).toNat % 2147483629 < 2147483629 := Int.emod_lt_of_pos _ (by decide)
      have hb : ∀ c : Int, 0 ≤ c → c < 2147483629 → (c * 48271 + 40503 * (z + 1)).natAbs < 18446744073709551616 := fun c _ _ => by omega
      refine ⟨_, rfl, _, _, rfl, rfl, .inr ⟨by decide, by decide⟩, _, rfl, l, _, _, _, rfl, rfl, SqL.of hl2, j2, _, _, rfl, rfl, .inl ⟨by decide, by decide⟩, _, _, rfl, rfl, .inl ⟨_, rfl, _, _, rfl, rfl, ⟨by decide, by decide, ?_⟩, _, _, rfl, rfl, (by show (0 : Int) < _; decide), _, rfl, _, _, rfl, rfl, m0, ?_⟩⟩
      · exact hb _ e1 e2
      exact k _ _ (Int.emod_nonneg _ (by omega)) (Int.emod_lt_of_pos _ m0) ⟨_, _, _, upd_same, x0, y0, y1, by omega, by omega⟩
theorem ok_pick {f : Addr} {fd : FuncData} (F : Fun K "_law_pick" "_law_pick" s_pick f fd) (T : TxB mg) (D_draw : DefAt P w K mg base "_law_draw" 1 ["_law_draws", "_law_many"] spDraw) : FnOk P w K mg base CX0 2 f fd ["_law_draws", "_law_things"] (spPick K) := by
  refine F.ok sc_pick (fun vs H Q E h => ?_) (fun cdv A outer s H vs Q E hr h => ?_)
  · obtain ⟨_, _, _, _, _, rfl, _⟩ := h
    rfl
  · obtain ⟨l, t, ds, n, L, rfl, hd, hn, hL, hp, h0, h1, k⟩ := h
    refine ⟨_, (pss_one (ps_ret (pe_ix ix_list (pv 1) (pe_callD D_draw (by first | exact hr | exact hr.mono (by decide) | exact hr.mono (by omega)) (by rfl) (pa_cons (pv 0) (pa_cons (pe_callB call_len_seq (by rfl) T.m_len (by decide +kernel) (pa_cons (pv 1) pa_nil)) pa_nil))) (fun _ _ => rfl)))), ?_⟩
    cases hp with
    | @lst _ xs _ hs ha =>
      have hlen := dpa_len ha
      refine ⟨_, rfl, _, rfl, _, rfl, t, xs, rfl, .inl (Evl.ex_l w_sub hs), ?_⟩
      refine ⟨l, _, n, rfl, hd, hn, by omega, by omega, fun r o r0 r1 hd' => ?_⟩
      have hr' : r.toNat < xs.length := by omega
      obtain ⟨d, hd1, hd2⟩ := dpa_get ha (List.getElem?_eq_getElem hr')
      have er : ((r.toNat : Nat) : Int) = r := by omega
      refine ⟨t, xs, r, xs[r.toNat], rfl, rfl, Evl.ex_l (w_sub (L := L)) (by rw [w_upd_in hL]; exact hs), ?_, ?_⟩
      · have q := atI_nat (List.getElem?_eq_getElem hr')
        rw [er] at q
        exact q
      · exact k _ d o (List.mem_of_getElem? hd1) (by rw [w_upd_in hL]; exact hd2) hd'
def spPrev (K : PySem.W.Frag) : Nat → Sp
  | 0 => fun _ _ _ _ => False
  | n + 1 => spSame K n
theorem same_body {f : Addr} {fd : FuncData} (F : Fun K "_law_same" "_law_same" s_same f fd) (T : TxB mg) (n : Nat) (D_same : DefAt P w K mg base "_law_same" n ["_law_found", "_law_due"] (spPrev K n)) : FnOk P w K mg base CX0 (n + 1) f fd ["_law_found", "_law_due"] (spSame K n) := by
  refine F.ok sc_same (fun vs H Q E h => ?_) (fun cdv A outer s H vs Q E hr h => ?_)
  · obtain ⟨_, _, _, rfl, _⟩ := h
    rfl
  · obtain ⟨x, y, d, rfl, hx, hy, hf, k⟩ := h
    refine ⟨_, (pss_cons (ps_if (pt_val (pe_callB call_isiT (by rfl) T.m_isinstance (by decide +kernel) (pa_cons (pv 1) (pa_cons (pe_tup (pa_cons (pe_bltn (v := .ty "list") (by rfl) T.m_list (by decide +kernel) rfl) (pa_cons (pe_bltn (v := .ty "tuple") (by rfl) T.m_tuple (by decide +kernel) rfl) pa_nil))) pa_nil)))) (pss_cons (ps_if (PW.pt (pw_or (pt_cmpR op_ne (pe_callB call_isi (by rfl) T.m_isinstance (by decide +kernel) (pa_cons (pv 0) (pa_cons (pe_bltn (v := .ty "list") (by rfl) T.m_list (by decide +kernel) rfl) pa_nil))) (pe_callB call_isi (by rfl) T.m_isinstance (by decide +kernel) (pa_cons (pv 1) (pa_cons (pe_bltn (v := .ty "list") (by rfl) T.m_list (by decide +kernel) rfl) pa_nil))) (nomark _)) (pw_or1 (pt_cmpR op_ne (pe_callB call_isi (by rfl) T.m_isinstance (by decide +kernel) (pa_cons (pv 0) (pa_cons (pe_bltn (v := .ty "tuple") (by rfl) T.m_tuple (by decide +kernel) rfl) pa_nil))) (pe_callB call_isi (by rfl) T.m_isinstance (by decide +kernel) (pa_cons (pv 1) (pa_cons (pe_bltn (v := .ty "tuple") (by rfl) T.m_tuple (by decide +kernel) rfl) pa_nil))) (nomark _))))) (pss_one (ps_ret pe_bl)) pss_nil)
      (pss_one (ps_ret (pe_and (pe_cmpR op_eq (pe_callB call_len_seq (by rfl) T.m_len (by decide +kernel) (pa_cons (pv 0) pa_nil)) (pe_callB call_len_seq (by rfl) T.m_len (by decide +kernel) (pa_cons (pv 1) pa_nil)) (nomark _)) (pe_one (pe_callB (cr_all rfl) (by rfl) T.m_all (by decide +kernel) (pa_cons (pe_lc (own := [("_law_left", 2), ("_law_right", 3)]) (g := gTup K 2 (gCons (gName 2) (gCons (gName 3) (gNil)))) (tt := tYes) (by rfl) sc_same.nd (RZ.pi_zipA (by rfl) T.m_zip (pa_cons (pv 0) (pa_cons (pv 1) pa_nil))) (blkOk_by (N := sc_same_N) (sc := defScope s_same) (by decide +kernel)) (fun _ _ _ _ _ => (pg_tup (by rfl) (pgs_cons (pg_name (i := 2) sc_same.nd rfl (by first | exact Or.inl rfl | exact Or.inr rfl)) (pgs_cons (pg_name (i := 3) sc_same.nd rfl (by first | exact Or.inl rfl | exact Or.inr rfl)) pgs_nil)))) (fun _ _ _ _ _ => pts_nil) (fun _ _ _ _ _ => (pe_callD D_same (by first | exact hr | exact hr.mono (by decide) | exact hr.mono (by omega)) (by rfl) (pa_cons (pv 2) (pa_cons (pv 3) pa_nil))))) pa_nil))))))) pss_nil)
    (pss_cons (ps_if (pt_val (pe_callB call_isiT (by rfl) T.m_isinstance (by decide +kernel) (pa_cons (pv 1) (pa_cons (pe_tup (pa_cons (pe_bltn (v := .ty "bool") (by rfl) T.m_bool (by decide +kernel) rfl) (pa_cons (pe_bltn (v := .ty "int") (by rfl) T.m_int (by decide +kernel) rfl) pa_nil))) pa_nil)))) (pss_one (ps_ret (pe_and (pe_callB call_isi (by rfl) T.m_isinstance (by decide +kernel) (pa_cons (pv 0) (pa_cons (pe_bltn (v := .ty "int") (by rfl) T.m_int (by decide +kernel) rfl) pa_nil))) (pe_and (pe_cmpR op_eq (pe_callB call_isi (by rfl) T.m_isinstance (by decide +kernel) (pa_cons (pv 0) (pa_cons (pe_bltn (v := .ty "bool") (by rfl) T.m_bool (by decide +kernel) rfl) pa_nil))) (pe_callB call_isi (by rfl) T.m_isinstance (by decide +kernel) (pa_cons (pv 1) (pa_cons (pe_bltn (v := .ty "bool") (by rfl) T.m_bool (by decide +kernel) rfl) pa_nil))) (nomark _)) (pe_one (pe_cmpR op_eq (pv 0) (pv 1) (nomark _))))))) pss_nil)
    (pss_one (ps_ret (pe_and (pe_not (pe_callB call_isiT (by rfl) T.m_isinstance (by decide +kernel) (pa_cons (pv 0) (pa_cons (pe_tup (pa_cons (pe_bltn (v := .ty "bool") (by rfl) T.m_bool (by decide +kernel) rfl) (pa_cons (pe_bltn (v := .ty "int") (by rfl) T.m_int (by decide +kernel) rfl) (pa_cons (pe_bltn (v := .ty "list") (by rfl) T.m_list (by decide +kernel) rfl) (pa_cons (pe_bltn (v := .ty "tuple") (by rfl) T.m_tuple (by decide +kernel) rfl) pa_nil))))) pa_nil)))) (pe_one (pe_cmpR op_eq (pv 0) (pv 1) (nomark _)))))))), ?_⟩
    have v0 : Evl.Ev (tVar 0) (start sc_same_N [x, y]) H x := Evl.ev_var rfl
    have v1 : Evl.Ev (tVar 1) (start sc_same_N [x, y]) H y := Evl.ev_var rfl
    -- two lists, two tuples
    have seqs : ∀ (a b : Addr) (xs ys : List V) (ds : List PyData) (m : Nat), n = m + 1 → x = .ref a → y = .ref b → (SqL K H a xs ∧ SqL K H b ys) ∨ (SqT K H a xs ∧ SqT K H b ys) → DpAll K H xs ds → DpAll K H ys ds → (∀ d ∈ ds, fits m d) → xs.length ≤ 40000 →
        ∀ H1, Ex H H1 → Evl.Ev (tAndV (tOp rEq (tCB (fun xs H Q => ∃ p ys, xs = [V.ref p] ∧ (SqL K H p ys ∨ SqT K H p ys) ∧ Q (.int ys.length) H) (tCons (tVar 0) tNil)) (tCB (fun xs H Q => ∃ p ys, xs = [V.ref p] ∧ (SqL K H p ys ∨ SqT K H p ys) ∧ Q (.int ys.length) H) (tCons (tVar 1) tNil)))
          (tCB (rAll K) (tCons (tLc (RZ.iZipA K (tCons (tVar 0) (tCons (tVar 1) tNil))) (gTup K 2 (gCons (gName 2) (gCons (gName 3) gNil))) tYes (tCallD (spPrev K n) (tCons (tVar 2) (tCons (tVar 3) tNil))) [2, 3]) tNil))) (start sc_same_N [x, y]) H1 (.bl true) := by
      rintro a b xs ys ds m rfl rfl rfl hs h1 h2 hd hz H1 e1
      have hl : xs.length = ys.length := (dpa_len h1).trans (dpa_len h2).symm
      have hs1 : SqL K H1 a xs ∨ SqT K H1 a xs := hs.imp (fun q => Evl.ex_l e1 q.1) (fun q => Evl.ex_t e1 q.1)
      have hs2 : SqL K H1 b ys ∨ SqT K H1 b ys := hs.imp (fun q => Evl.ex_l e1 q.2) (fun q => Evl.ex_t e1 q.2)
      refine Evl.ev_is (Evl.ev_andV (a := true) (b := true) (Evl.ev_is (Evl.ev_op (ev_lenS (v0.mono e1) hs1) (ev_lenS (v1.mono e1) hs2) (Evl.rv_eq rfl)) ?_) fun _ => ?_) rfl
      · rw [hl]
        exact congrArg V.bl (decide_eq_true rfl)
      · have z := el_zip (K := K) (v := fun _ => V.bl true) (te := tCallD (spPrev K (m + 1)) (tCons (tVar 2) (tCons (tVar 3) tNil))) (i1 := 2) (i2 := 3) (vs := [2, 3]) (σ := start sc_same_N [V.ref a, V.ref b]) (H := H1) (ta := tCons (tVar 0) (tCons (tVar 1) tNil)) (a := a) (b := b) (xs := xs) (ys := ys)
          (Evl.ea_cons (v0.mono e1) (Evl.ea_cons (v1.mono e1) Evl.ea_nil)) (hs.imp (fun q => ⟨Evl.ex_l e1 q.1, Evl.ex_l e1 q.2⟩) (fun q => ⟨Evl.ex_t e1 q.1, Evl.ex_t e1 q.2⟩)) hl hz (fun _ _ => rfl) (fun i u v H2 e2 hu hv => ?_)
        · have em : (List.range xs.length).map (fun _ => V.bl true) = ((List.range xs.length).map fun _ => true).map V.bl := by
            rw [List.map_map]
            rfl
          rw [em] at z
          exact Evl.ev_is (ev_all z) (congrArg V.bl (by simp))
        · obtain ⟨d, hd1, hd2⟩ := dpa_get h1 hu
          obtain ⟨d', hd3, hd4⟩ := dpa_get h2 hv
          rw [hd1] at hd3
          cases hd3
          exact ev_callD (Evl.ea_cons (Evl.ev_var rfl) (Evl.ea_cons (Evl.ev_var rfl) Evl.ea_nil)) fun H3 e3 Q q => ⟨u, v, d, rfl, hd2.up ((e1.trans e2).trans e3), hd4.up ((e1.trans e2).trans e3), hd d (List.mem_of_getElem? hd1), q⟩
    cases d with
    | none =>
      have exy : x = y := by
        cases hx
        cases hy
        rfl
      refine Evl.q_when (b := false) (Evl.et_B (ev_isi2 v1 hy isi_NoneType_list_tuple)) (fun z => by cases z) (fun _ H1 e1 => ?_)
      refine Evl.q_when (b := false) (Evl.et_B (ev_isi2 (v1.mono e1) (hy.up e1) isi_NoneType_bool_int)) (fun z => by cases z) (fun _ H2 e2 => ?_)
      refine Evl.s_ret (v := .bl true) (Evl.ev_is (Evl.ev_andV (Evl.ev_notV (ev_isi4 (v0.mono (e1.trans e2)) (hx.up (e1.trans e2)) (b := false) isi_NoneType_bool_int_list_tuple)) (fun _ => Evl.ev_is (Evl.ev_op (v0.mono (e1.trans e2)) (v1.mono (e1.trans e2)) (Evl.rv_eq (by cases hx; cases hy; rfl))) (w := .bl true) (by rw [exy]; exact congrArg V.bl (decide_eq_true rfl)))) rfl) (fun H3 e3 => k H3 ((e1.trans e2).trans e3))
    | str z =>
      have exy : x = y := by
        cases hx
        cases hy
        rfl
      refine Evl.q_when (b := false) (Evl.et_B (ev_isi2 v1 hy isi_str_list_tuple)) (fun z => by cases z) (fun _ H1 e1 => ?_)
      refine Evl.q_when (b := false) (Evl.et_B (ev_isi2 (v1.mono e1) (hy.up e1) isi_str_bool_int)) (fun z => by cases z) (fun _ H2 e2 => ?_)
      refine Evl.s_ret (v := .bl true) (Evl.ev_is (Evl.ev_andV (Evl.ev_notV (ev_isi4 (v0.mono (e1.trans e2)) (hx.up (e1.trans e2)) (b := false) isi_str_bool_int_list_tuple)) (fun _ => Evl.ev_is (Evl.ev_op (v0.mono (e1.trans e2)) (v1.mono (e1.trans e2)) (Evl.rv_eq (by cases hx; cases hy; rfl))) (w := .bl true) (by rw [exy]; exact congrArg V.bl (decide_eq_true rfl)))) rfl) (fun H3 e3 => k H3 ((e1.trans e2).trans e3))
    | bool z =>
      have exy : x = y := by
        cases hx
        cases hy
        rfl
      refine Evl.q_when (b := false) (Evl.et_B (ev_isi2 v1 hy isi_bool_list_tuple)) (fun z => by cases z) (fun _ H1 e1 => ?_)
      refine Evl.q_when (b := true) (Evl.et_B (ev_isi2 (v1.mono e1) (hy.up e1) isi_bool_bool_int)) (fun _ H2 e2 => ?_) (fun z => by cases z)
      refine Evl.s_ret (v := .bl true) (Evl.ev_is (Evl.ev_andV (ev_isi (v0.mono (e1.trans e2)) (hx.up (e1.trans e2)) (b := true) isi_bool_int) (fun _ => Evl.ev_andV (a := true) (Evl.ev_is (ev_eqB (ev_isi (v0.mono (e1.trans e2)) (hx.up (e1.trans e2)) (b := true) isi_bool_bool) (ev_isi (v1.mono (e1.trans e2)) (hy.up (e1.trans e2)) (b := true) isi_bool_bool)) (by decide))
        fun _ => Evl.ev_is (Evl.ev_op (v0.mono (e1.trans e2)) (v1.mono (e1.trans e2)) (Evl.rv_eq (by cases hx; cases hy; rfl))) (w := .bl true) (by rw [exy]; exact congrArg V.bl (decide_eq_true rfl)))) rfl) (fun H3 e3 => k H3 ((e1.trans e2).trans e3))
    | int z =>
      have exy : x = y := by
        cases hx
        cases hy
        rfl
      refine Evl.q_when (b := false) (Evl.et_B (ev_isi2 v1 hy isi_int_list_tuple)) (fun z => by cases z) (fun _ H1 e1 => ?_)
      refine Evl.q_when (b := true) (Evl.et_B (ev_isi2 (v1.mono e1) (hy.up e1) isi_int_bool_int)) (fun _ H2 e2 => ?_) (fun z => by cases z)
      refine Evl.s_ret (v := .bl true) (Evl.ev_is (Evl.ev_andV (ev_isi (v0.mono (e1.trans e2)) (hx.up (e1.trans e2)) (b := true) isi_int_int) (fun _ => Evl.ev_andV (a := true) (Evl.ev_is (ev_eqB (ev_isi (v0.mono (e1.trans e2)) (hx.up (e1.trans e2)) (b := false) isi_int_bool) (ev_isi (v1.mono (e1.trans e2)) (hy.up (e1.trans e2)) (b := false) isi_int_bool)) (by decide))
        fun _ => Evl.ev_is (Evl.ev_op (v0.mono (e1.trans e2)) (v1.mono (e1.trans e2)) (Evl.rv_eq (by cases hx; cases hy; rfl))) (w := .bl true) (by rw [exy]; exact congrArg V.bl (decide_eq_true rfl)))) rfl) (fun H3 e3 => k H3 ((e1.trans e2).trans e3))
    | list ds =>
      cases n with
      | zero => exact hf.elim
      | succ m =>
        have hx' := hx
        have hy' := hy
        cases hx with
        | @lst a xs _ hs ha =>
          cases hy with
          | @lst b ys _ hs2 ha2 =>
            refine Evl.q_when (b := true) (Evl.et_B (ev_isi2 v1 hy' isi_list_list_tuple)) (fun _ H1 e1 => ?_) (fun z => by cases z)
            refine Evl.q_when (b := false) (Evl.et_is (Evl.et_or (Evl.et_test (ev_neB (ev_isi (v0.mono e1) (hx'.up e1) (b := true) isi_list_list) (ev_isi (v1.mono e1) (hy'.up e1) (b := true) isi_list_list))) fun _ => Evl.et_test (ev_neB (ev_isi (v0.mono e1) (hx'.up e1) (b := false) isi_list_tuple) (ev_isi (v1.mono e1) (hy'.up e1) (b := false) isi_list_tuple))) (by decide)) (fun z => by cases z) (fun _ H2 e2 => ?_)
            exact Evl.s_ret (v := .bl true) (seqs a b xs ys ds m rfl rfl rfl (.inl ⟨hs, hs2⟩) ha ha2 hf.2 (by rw [dpa_len ha]; exact hf.1) _ (e1.trans e2)) (fun H3 e3 => k H3 ((e1.trans e2).trans e3))
    | tuple ds =>
      cases n with
      | zero => exact hf.elim
      | succ m =>
        have hx' := hx
        have hy' := hy
        cases hx with
        | @tup a xs _ hs ha =>
          cases hy with
          | @tup b ys _ hs2 ha2 =>
            refine Evl.q_when (b := true) (Evl.et_B (ev_isi2 v1 hy' isi_tuple_list_tuple)) (fun _ H1 e1 => ?_) (fun z => by cases z)
            refine Evl.q_when (b := false) (Evl.et_is (Evl.et_or (Evl.et_test (ev_neB (ev_isi (v0.mono e1) (hx'.up e1) (b := false) isi_tuple_list) (ev_isi (v1.mono e1) (hy'.up e1) (b := false) isi_tuple_list))) fun _ => Evl.et_test (ev_neB (ev_isi (v0.mono e1) (hx'.up e1) (b := true) isi_tuple_tuple) (ev_isi (v1.mono e1) (hy'.up e1) (b := true) isi_tuple_tuple))) (by decide)) (fun z => by cases z) (fun _ H2 e2 => ?_)
            exact Evl.s_ret (v := .bl true) (seqs a b xs ys ds m rfl rfl rfl (.inr ⟨hs, hs2⟩) ha ha2 hf.2 (by rw [dpa_len ha]; exact hf.1) _ (e1.trans e2)) (fun H3 e3 => k H3 ((e1.trans e2).trans e3))
    | dict _ => cases hx
end
end U

set_option Elab.async false
set_option linter.all false
set_option maxRecDepth 100000
set_option maxHeartbeats 4000000
namespace UE
open PySem PySem.Spec PyProof.Rows L2
open AutoSeq1 (wpAny_loadPart')
/-! ### enumerate of a tuple -/
theorem meets_enumT (t : Addr) (its : Array Value) (n : Nat) (dd : Option Addr) (sl : Array (Option Value)) :
    Meets (Builtin.«enumerate.__new__» ⟨[.type "enumerate", .ref t], []⟩) (fun _ R s => s.heap.get? t = some { cls := .type "tuple", dict := dd, data := .seq its n, slots := sl } ∧
      R (.ok (.ret (.ref (s.heap.push { cls := .type "tuple_iterator", data := .fields #[.ref t, .int 0 0] }).objs.size)))
        { s with heap := (s.heap.push { cls := .type "tuple_iterator", data := .fields #[.ref t, .int 0 0] }).push { cls := .type "enumerate", data := .fields #[.none, .bool false, .ref s.heap.objs.size, rawInt 0, .none, .none] } }) :=
  .of_wp fun prog w A R s hyp => by
    obtain ⟨hp, g, d, tk, os⟩ := s
    obtain ⟨ht, hyp⟩ := hyp
    have sub := sub_enumerate
    have hT : Heap.IsTuple (Shared.heap ⟨hp, g, d, tk, os⟩) t its := ⟨_, ht, rfl, n, rfl⟩
    wp_walk using wpAny_loadPart' ht
    refine wpAny_stack_any fun st => wpAny_pure ?_
    split
    · rename_i c _ _ _ _ _
      cases (c == Value.type "enumerate") <;>
      · wp_walk using wpAny_loadPart' ht, wpAny_pyIter_tuple hT
        exact ⟨_, rfl, hyp⟩
    · wp_walk using wpAny_loadPart' ht, wpAny_pyIter_tuple hT
      exact ⟨_, rfl, hyp⟩
section
variable {prog : Program} {w : World} {A : Around} {E : Value → Shared → Prop} {s : Shared}
theorem call_enumT {t : Addr} {its : Array Value} {Q : Value → Shared → Prop} (hT : s.heap.IsTuple t its)
    (hyp : ∀ h', IsEnum h' (s.heap.objs.size + 1) s.heap.objs.size 0 .none → h'.IsTupleIter s.heap.objs.size t 0 → h'.objs.size = s.heap.objs.size + 2 → (∀ b o, s.heap.get? b = some o → h'.get? b = some o) → Q (.ref (s.heap.objs.size + 1)) { s with heap := h' }) :
    wpAny (model prog w) A (call (.type "enumerate") [.ref t]) Q E s := by
  obtain ⟨⟨c, dd, dt, sl⟩, ht, hc, n, hd⟩ := hT
  obtain rfl : c = .type "tuple" := hc
  obtain rfl : dt = .seq its n := hd
  refine callType_new F.called_enumerate (by decide) (F.typeCall_enumerate_1 _) (F.newCall_enumerate_1 _) (fun ob => F.args_object_init_2 ob _) F.entry_enumerate_new (meets_enumT t its n dd sl) ⟨ht, ?_⟩
  have sz : (s.heap.push { cls := .type "tuple_iterator", data := .fields #[.ref t, .int 0 0] }).objs.size = s.heap.objs.size + 1 := Heap.size_push ..
  show _ ∧ _
  rw [sz]
  have he : IsEnum ((s.heap.push { cls := .type "tuple_iterator", data := .fields #[.ref t, .int 0 0] }).push { cls := .type "enumerate", data := .fields #[.none, .bool false, .ref s.heap.objs.size, rawInt 0, .none, .none] }) (s.heap.objs.size + 1) s.heap.objs.size 0 .none := by
    have q := Heap.get?_push_size (s.heap.push { cls := .type "tuple_iterator", data := .fields #[.ref t, .int 0 0] }) (o := { cls := .type "enumerate", data := .fields #[.none, .bool false, .ref s.heap.objs.size, rawInt 0, .none, .none] }) rfl
    rw [sz] at q
    exact q
  exact ⟨⟨_, he, rfl⟩, hyp _ he ⟨_, Heap.get?_push_of_some _ (Heap.get?_push_size _ rfl), rfl, rfl⟩ (by rw [Heap.size_push, sz]) fun b o z => Heap.get?_push_of_some _ (Heap.get?_push_of_some _ z)⟩
end
/-- the tuple at a, each item in a new pair -/
def IteT (K : PySem.W.Frag) (a : Addr) : It :=
  ⟨fun i H => ∃ (xs : List V) (x : V), SqT K H a xs ∧ xs[i]? = some x, fun i H v H' => ∃ T x, v = .ref T ∧ H T = none ∧ H' = upd H T (.tup [.int (i : Nat), x]) ∧ ∀ xs, SqT K H a xs → xs[i]? = some x, fun i H => ∃ xs : List V, SqT K H a xs ∧ xs.length ≤ i⟩
theorem turn_enumT {P : Program} {w : World} {K : PySem.W.Frag} {elts : List Expr} {kk : Nat} {tpos : Pos} (a e it : Addr) :
    Turn P w K (.Tuple elts kk tpos) (IteT K a) [e, it] e (fun i h => (∃ old, IsEnum h e it ((i : Nat) : Int) old) ∧ h.IsTupleIter it a i ∧ e ≠ it ∧ a ≠ it ∧ a ≠ e) where
  mem := by simp
  obj := fun i h st b hb => by
    obtain ⟨⟨old, he⟩, ⟨o, ho, hc, hd⟩, _⟩ := st
    have e' : b = e ∨ b = it := by simpa using hb
    rcases e' with z | z
    · rw [z]
      exact ⟨_, he, fun v q => nomatch q⟩
    · rw [z]
      exact ⟨o, ho, fun v q => by rw [hd] at q; cases q⟩
  keep := fun i h h' st k => by
    obtain ⟨⟨old, he⟩, hi, ne⟩ := st
    exact ⟨⟨old, k e (by simp) _ he⟩, hi.at fun o q => k it (by simp) o q, ne⟩
  item := by
    intro X hP hw hK hc i pins s σ H E I hf st hg
    subst hP hw hK
    obtain ⟨⟨old, he⟩, hit, n1, n2, n3⟩ := st
    obtain ⟨xs, x, hq, hx⟩ := hg
    obtain ⟨its, rv, p, hz⟩ := I.tuple hq
    obtain ⟨u, hu, ru⟩ := rv.get hx
    have le : e < s.heap.objs.size := Heap.lt_size he
    have li : it < s.heap.objs.size := by
      obtain ⟨_, q, _⟩ := hit
      exact Heap.lt_size q
    have hlt : i < its.toArray.size := by
      have z := (List.getElem?_eq_some_iff.mp hu).1
      simpa using z
    have D : Draws X.prog X.w X.A.in1 it [it, a] its.toArray.size (fun i v => its.toArray[i]? = some v) (fun i h => h.IsTupleIter it a i ∧ h.IsTuple a its.toArray) := Draws.tuple (show X.A.in1.handled = none from I.ok.hd hc) it a n2 its.toArray
    refine wpAny_pyNext_enum_itemD D he ⟨hit, p⟩ hlt n1 (by simp [n1, Ne.symm n3]) fun y h' tk hy ho hst hT sz kp => ?_
    obtain rfl : y = u := by
      have z : its.toArray[i]? = some u := by simpa using hu
      rw [hy] at z
      exact Option.some.inj z
    refine ⟨_, rfl, wpAny_letOwnedTupleGo_enum (s := { s with heap := h', toks := tk + 1 }) ho fun h'' he' sb => ?_⟩
    have hT2 : h''.get? s.heap.objs.size = some { cls := .type "tuple", data := .seq #[.int i tk, y] } := (sb.2 _ (Nat.ne_of_gt le)).trans hT
    have new : ObjOk X.prog X.w (upd H s.heap.objs.size (.tup [.int (i : Nat), x])) h'' s.heap.objs.size (.tup [.int (i : Nat), x]) := ⟨by show 2 ≤ sizeLine; decide, [.int i tk, y], .cons ⟨_, rfl⟩ (.cons ru .nil), ⟨_, hT2, rfl, _, rfl⟩⟩
    have I1 : Inv X pins σ (upd H s.heap.objs.size (.tup [.int (i : Nat), x])) { s with heap := h'', toks := tk + 1 } :=
      I.turnedNew (ch := [e, it]) (fun b ob hb q => (sb.2 b (fun z => hb (by simp [z]))).trans (kp b ob (fun z => hb (by simp [z])) (fun z => hb (by simp [z])) q)) hf (Nat.le_refl _) new
    refine ⟨.ref s.heap.objs.size, _, I1, rfl, ⟨_, x, rfl, I.hok.fresh (Nat.le_refl _), rfl, fun ys hy => by rw [I.tuple_inj hy hq]; exact hx⟩, ⟨⟨y, ?_⟩, hst.1.at fun o q => (sb.2 it (Ne.symm n1)).trans q, n1, n2, n3⟩, fun b hb => ?_⟩
    · have e1 : ((i + 1 : Nat) : Int) = (i : Int) + 1 := by omega
      rw [e1]
      exact he'
    · have hb' : b < s.heap.objs.size := by
        have e' : b = e ∨ b = it := by simpa using hb
        rcases e' with z | z
        · rw [z]
          exact le
        · rw [z]
          exact li
      rw [upd_ne (Nat.ne_of_lt hb')]
      exact (hf b hb).1
  done := by
    intro X hP hw hK hc i pins s σ H E I hf st hg
    subst hP hw hK
    obtain ⟨⟨old, he⟩, hit, n1, n2, n3⟩ := st
    obtain ⟨xs, hq, hx⟩ := hg
    obtain ⟨its, rv, p, hz⟩ := I.tuple hq
    obtain ⟨f0, f1, f2, f3, f4, f5⟩ := hf it (by simp)
    have hl := rv.length
    have hA : X.A.in1.handled = none := I.ok.hd hc
    have D : Draws X.prog X.w X.A.in1 it [it, a] i (fun _ _ => True) (fun k h => (h.IsTupleIter it a k ∧ h.IsTuple a its.toArray) ∧ k = i) :=
      { live := fun _ _ st => let ⟨o, ho, _⟩ := st.1.1; ⟨o, ho⟩
        frame := fun _ _ _ st hk => ⟨⟨st.1.1.at fun o e => hk it (by simp) o e, st.1.2.at fun o e => hk a (by simp) o e⟩, st.2⟩
        item := fun k s Q E hi st hQ => absurd st.2 (Nat.ne_of_lt hi)
        done := fun s Q E st hE => wpAny_nextOf_tuple_end hA st.1.1 st.1.2 (by simp; omega) hE }
    exact wpAny_pyNext_enum_endD D he ⟨⟨hit, p⟩, rfl⟩ fun h' eb => ⟨rfl, I.turned (t' := s.toks) (fun b o hb q => eb b o hb q) f0 f1 f3 f4 f5⟩
  self := fun A i s Q E st h => by
    obtain ⟨⟨_, he⟩, _⟩ := st
    exact wpAny_pyIter_enum he h
/-- enumerate of a tuple -/
def iEnumT (K : PySem.W.Frag) (ta : TA) : TI := fun σ H R => ta σ H fun vs H1 => ∃ a xs, vs = [.ref a] ∧ SqT K H1 a xs ∧ R (IteT K a) H1
theorem pi_enumT {X : Cx} {e : Expr} {ta : TA} {p pos tpos : Pos} {elts : List Expr} {kk : Nat} (hg : Gl X "enumerate") (hm : X.mg "enumerate" = none) (ha : PA X [e] ta) (hs : starEach [e] X.env = [(false, eval e X.env)] := by rfl) :
    PI X (.Tuple elts kk tpos) (.Call (.Name "enumerate" p) [e] [] pos) (iEnumT X.K ta) := by
  refine ⟨fun pins s σ H R I h => ?_⟩
  refine Call_ (ld_blt I hg hm boot_enumerate (PyProof.Rows.callWith_type1 (thn (ha.run pos pins s σ H _ I h) fun us s1 ⟨vs, H1, I1, r1, q1⟩ => ?_) hs rfl))
  obtain ⟨a, xs, ex, hq, q⟩ := q1
  subst ex
  cases r1 with
  | cons r rr =>
    cases rr
    cases r
    obtain ⟨its, rv, p', hz⟩ := I1.tuple hq
    obtain ⟨oT, hoT, _⟩ := id p'
    have la : a < s1.heap.objs.size := Heap.lt_size hoT
    refine call_enumT (its := its.toArray) p' fun h' he hit hsz hk => wpAny_pyIter_enum he ?_
    have I2 : Inv X pins σ H1 { s1 with heap := h' } := I1.kept (t' := s1.toks) hk
    refine ⟨s1.heap.objs.size + 1, [s1.heap.objs.size + 1, s1.heap.objs.size], _, _, H1, rfl, I2, turn_enumT a (s1.heap.objs.size + 1) s1.heap.objs.size, ⟨⟨.none, he⟩, hit, Nat.succ_ne_self _, Nat.ne_of_lt la, Nat.ne_of_lt (Nat.lt_succ_of_lt la)⟩, fun b hb => ?_, q⟩
    have e' : b = s1.heap.objs.size + 1 ∨ b = s1.heap.objs.size := by simpa using hb
    have hle : s1.heap.objs.size ≤ b := by
      rcases e' with z | z
      · rw [z]
        exact Nat.le_add_right _ _
      · rw [z]
        exact Nat.le_refl _
    exact I1.fpOk hle (I1.hok.fresh hle)
end UE

set_option Elab.async false
set_option linter.all false
set_option maxRecDepth 100000
set_option maxHeartbeats 4000000
namespace U
open PySem PySem.Spec PyProof.Rows L2
open Evl (Ex)
section
variable {X : Cx} {tg : Expr}
/-- a list or a tuple, item by item -/
def iSeq (K : PySem.W.Frag) (tl : TE) : TI := fun σ H R => tl σ H fun x H1 => ∃ a, x = .ref a ∧ (((∃ xs, SqL K H1 a xs) ∧ R (Itl K a) H1) ∨ ((∃ xs, SqT K H1 a xs) ∧ R (Itt K a) H1))
theorem pi_seq {l : Expr} {tl : TE} (hl : PE X l tl) : PI X tg l (iSeq X.K tl) := by
  refine ⟨fun pins s σ H R I h => ?_⟩
  refine thn (hl.run pins s σ H _ I h) fun v s1 ⟨x, H1, I1, r1, q1⟩ => ?_
  obtain ⟨a, e, q⟩ := q1
  subst e
  cases r1
  have fresh : ∀ b ∈ [s1.heap.objs.size], b = s1.heap.objs.size := fun b hb => by simpa using hb
  rcases q with ⟨⟨xs, hq⟩, q⟩ | ⟨⟨xs, hq⟩, q⟩
  · obtain ⟨its, rv, p, hz⟩ := I1.list hq
    refine wpAny_pyIter_list p.isList ?_
    refine ⟨s1.heap.objs.size, [s1.heap.objs.size], _, _, H1, rfl, I1.kept (t' := s1.toks) fun b o e => Heap.get?_push_of_some _ e, turn_list a _, ⟨_, Heap.get?_push_size _ rfl, rfl, rfl⟩, fun b hb => ?_, q⟩
    rw [fresh b hb]
    exact I1.fpOk (Nat.le_refl _) (I1.hok.fresh (Nat.le_refl _))
  · obtain ⟨its, rv, p, hz⟩ := I1.tuple hq
    refine wpAny_pyIter_tuple (show s1.heap.IsTuple a its.toArray from p) ?_
    refine ⟨s1.heap.objs.size, [s1.heap.objs.size], _, _, H1, rfl, I1.kept (t' := s1.toks) fun b o e => Heap.get?_push_of_some _ e, turn_tuple a _, ⟨_, Heap.get?_push_size _ rfl, rfl, rfl⟩, fun b hb => ?_, q⟩
    rw [fresh b hb]
    exact I1.fpOk (Nat.le_refl _) (I1.hok.fresh (Nat.le_refl _))
/-- enumerate of a list or a tuple -/
def iEnumA (K : PySem.W.Frag) (ta : TA) : TI := fun σ H R => ta σ H fun vs H1 => ∃ a xs, vs = [.ref a] ∧ ((SqL K H1 a xs ∧ R (Ite K a) H1) ∨ (SqT K H1 a xs ∧ R (UE.IteT K a) H1))
theorem pi_enumA {e : Expr} {ta : TA} {p pos tpos : Pos} {elts : List Expr} {kk : Nat} (hg : Gl X "enumerate") (hm : X.mg "enumerate" = none) (ha : PA X [e] ta) (hs : starEach [e] X.env = [(false, eval e X.env)] := by rfl) :
    PI X (.Tuple elts kk tpos) (.Call (.Name "enumerate" p) [e] [] pos) (iEnumA X.K ta) := by
  refine ⟨fun pins s σ H R I h => ?_⟩
  refine Call_ (ld_blt I hg hm boot_enumerate (PyProof.Rows.callWith_type1 (thn (ha.run pos pins s σ H _ I h) fun us s1 ⟨vs, H1, I1, r1, q1⟩ => ?_) hs rfl))
  obtain ⟨a, xs, ex, q⟩ := q1
  subst ex
  have hb2 : ∀ b ∈ [s1.heap.objs.size + 1, s1.heap.objs.size], s1.heap.objs.size ≤ b := fun b hb => by
    have e' : b = s1.heap.objs.size + 1 ∨ b = s1.heap.objs.size := by simpa using hb
    omega
  cases r1 with
  | cons r rr =>
    cases rr
    cases r
    rcases q with ⟨hq, q⟩ | ⟨hq, q⟩
    · obtain ⟨its, rv, p', hz⟩ := I1.list hq
      refine call_enumerate_list p'.isList fun h' he hit hsz hk => wpAny_pyIter_enum he ?_
      have I2 : Inv X pins σ H1 { s1 with heap := h' } := I1.kept (t' := s1.toks) hk
      exact ⟨s1.heap.objs.size + 1, [s1.heap.objs.size + 1, s1.heap.objs.size], _, _, H1, rfl, I2, turn_enum a (s1.heap.objs.size + 1) s1.heap.objs.size, ⟨⟨.none, he⟩, hit, Nat.succ_ne_self _⟩, fun b hb => I1.fpOk (hb2 b hb) (I1.hok.fresh (hb2 b hb)), q⟩
    · obtain ⟨its, rv, p', hz⟩ := I1.tuple hq
      obtain ⟨oT, hoT, _⟩ := id p'
      have la : a < s1.heap.objs.size := Heap.lt_size hoT
      refine UE.call_enumT (its := its.toArray) p' fun h' he hit hsz hk => wpAny_pyIter_enum he ?_
      have I2 : Inv X pins σ H1 { s1 with heap := h' } := I1.kept (t' := s1.toks) hk
      exact ⟨s1.heap.objs.size + 1, [s1.heap.objs.size + 1, s1.heap.objs.size], _, _, H1, rfl, I2, UE.turn_enumT a (s1.heap.objs.size + 1) s1.heap.objs.size, ⟨⟨.none, he⟩, hit, Nat.succ_ne_self _, Nat.ne_of_lt la, Nat.ne_of_lt (Nat.lt_succ_of_lt la)⟩, fun b hb => I1.fpOk (hb2 b hb) (I1.hok.fresh (hb2 b hb)), q⟩
end
section
variable {K : PySem.W.Frag} {a : Addr} {xs : List V}
theorem walk_enumT : Walk (UE.IteT K a) xs.length (fun H => SqT K H a xs) (YPair (fun i => some (.int (i : Nat))) (fun i => xs[i]?)) := by
  refine ⟨fun i _ hi q => ⟨xs, xs[i], q, by simp [hi]⟩, fun _ q => ⟨xs, q, Nat.le_refl _⟩, fun i H v H' _ q y => ?_⟩
  obtain ⟨T, x, h1, h2, h3, h4⟩ := y
  exact ⟨T, .int (i : Nat), x, h1, h2, h3, rfl, h4 xs q⟩
end
/-! ### a comprehension whose items are data -/
section
variable {K : PySem.W.Frag} {L : List Addr} {σ σ2 : L2.St} {H H' H1 H2 : Hp} {te tl : TE} {ta : TA} {tt : TT} {v : V} {d : PyData} {ds : List PyData} {l a Dl : Addr} {xs : List V} {f : Nat → List PyData} {i : Nat}
theorem w_past (hn : H Dl = none) (e : Ex H H') : Ex (W L H) (W (Dl :: L) H') := fun b o h => by
  obtain ⟨h1, n⟩ := w_in h
  have ne : b ≠ Dl := ne_of_none h1 hn
  exact w_of (fun m => (List.mem_cons.mp m).elim ne n) (e b o h1)
/-- evaluates to a new list of data -/
def EvG (K : PySem.W.Frag) (L : List Addr) (te : TE) (σ : L2.St) (H : Hp) (ds : List PyData) : Prop := ∀ H1, Ex H H1 → ∀ Q : VK, (∀ p H2, H1 p = none → Ex H1 H2 → Gr K L H2 p ds → Q (.ref p) H2) → te σ H1 Q
theorem EvG.mono (e : Ex H H') (h : EvG K L te σ H ds) : EvG K L te σ H' ds := fun H1 a Q q => h H1 (e.trans a) Q q
theorem EvG.dat (h : EvG K L te σ H ds) : EvD K L te σ H (.list ds) := fun H1 e Q q => h H1 e _ fun p H2 hp e2 g => q (.ref p) H2 e2 g.dp
def Cmd (K : PySem.W.Frag) (L : List Addr) (H : Hp) (f : Nat → List PyData) (Dl : Addr) (i : Nat) (H' : Hp) : Prop := H Dl = none ∧ Ex H H' ∧ Gr K L H' Dl (f i)
theorem cmd_0 (hL : Hid L H) (hn : H Dl = none) (f0 : f 0 = []) : Cmd K L H f Dl 0 (upd H Dl (.lst [])) := ⟨hn, Ex.new hn, by
  rw [f0]
  exact gr_new hL hn .nil⟩
theorem cmd_yes (p : Cmd K L H f Dl i H') (hz : (f i).length < 100000) (e2 : Ex H' H2) (he : EvD K (Dl :: L) te σ2 H2 d) (hf : f (i + 1) = f i ++ [d]) :
    te σ2 H2 fun y H4 => ∃ acc, H4 Dl = some (.lst acc) ∧ acc.length < sizeLine ∧ Cmd K L H f Dl (i + 1) (upd H4 Dl (.lst (acc ++ [y]))) := by
  obtain ⟨p1, p2, n, acc, p3, p4⟩ := p
  refine he H2 (Ex.refl H2) _ fun y H4 e4 hy => ⟨acc, e4 Dl _ (e2 Dl _ p3), Evl.sz_lt (by rw [dpa_len p4]; exact hz), p1, Evl.Ex.mut ((p2.trans e2).trans e4) p1, ?_⟩
  rw [hf]
  exact gr_app n (e4 Dl _ (e2 Dl _ p3)) (p4.up (w_ex (e2.trans e4))) hy
theorem cmd_no (p : Cmd K L H f Dl i H') (e2 : Ex H' H2) (hf : f (i + 1) = f i) : Cmd K L H f Dl (i + 1) H2 := by
  obtain ⟨p1, p2, p3⟩ := p
  rw [← hf] at p3
  exact ⟨p1, p2.trans e2, p3.up e2⟩
/-- [.. for x in a list or a tuple of data] -/
theorem eg_seq {j : Nat} {vs : List Nat} {g : PyData → PyData} (h : Evl.Ev tl σ H (.ref a)) (hx : SqL K H a xs ∨ SqT K H a xs) (hd : DpAll K (W L H) xs ds) (hL : Hid L H) (hz : ds.length ≤ 50000) (hw : ∀ x, wipe ((wipe σ vs).set j (some x)) vs = wipe σ vs)
    (he : ∀ L' (x : V) d H1, d ∈ ds → Hid L' H1 → Ex H H1 → Dp K (W L' H1) x d → EvD K L' te ((wipe σ vs).set j (some x)) H1 (g d)) : EvG K L (tLc (iSeq K tl) (gName j) tYes te vs) σ H (ds.map g) := fun H0 e0 Q q => h H0 e0 _ fun H1 e1 => by
  have hlen := dpa_len hd
  have turn : ∀ (Dl : Addr) (i : Nat) (x : V) (H2 H3 : Hp), i < xs.length → Cmd K L H1 (fun i => (ds.take i).map g) Dl i H2 → YAt xs i H2 x H3 → gName j x (wipe σ vs) H3 fun σ2 H2 => wipe σ2 vs = wipe σ vs ∧ tYes σ2 H2 fun b H3 =>
      if b = true then te σ2 H3 fun y H4 => ∃ acc, H4 Dl = some (.lst acc) ∧ acc.length < sizeLine ∧ Cmd K L H1 (fun i => (ds.take i).map g) Dl (i + 1) (upd H4 Dl (.lst (acc ++ [y]))) else Cmd K L H1 (fun i => (ds.take i).map g) Dl (i + 1) H3 := by
    intro Dl i x H2 H3 hi p yp
    obtain ⟨rfl, hu⟩ := yp
    obtain ⟨d, hd1, hd2⟩ := dpa_get hd hu
    obtain ⟨p1, p2, p3⟩ := id p
    refine ⟨hw x, ?_⟩
    refine yes_lc (A := fun H3 => te ((wipe σ vs).set j (some x)) H3 fun y H4 => ∃ acc, H4 Dl = some (.lst acc) ∧ acc.length < sizeLine ∧ Cmd K L H1 (fun i => (ds.take i).map g) Dl (i + 1) (upd H4 Dl (.lst (acc ++ [y])))) (B := fun H3 => Cmd K L H1 (fun i => (ds.take i).map g) Dl (i + 1) H3) ?_
    refine cmd_yes p (by simp; omega) (Ex.refl _) (he _ x d _ (List.mem_of_getElem? hd1) ?_ ((e0.trans e1).trans p2) (hd2.up (w_past (Evl.fresh_back (e0.trans e1) p1) ((e0.trans e1).trans p2)))) ?_
    · intro b hb
      rcases List.mem_cons.mp hb with z | z
      · rw [z]
        exact p3.ne
      · exact hid_ex ((e0.trans e1).trans p2) hL b z
    · have hi' : i < ds.length := by omega
      rw [List.take_add_one, hd1]
      simp
  have fin : ∀ Dl H2, Cmd K L H1 (fun i => (ds.take i).map g) Dl xs.length H2 → Q (.ref Dl) H2 := fun Dl H2 p => by
    obtain ⟨p1, p2, p3⟩ := p
    refine q Dl H2 (Evl.fresh_back e1 p1) (e1.trans p2) ?_
    have e : (ds.take xs.length).map g = ds.map g := by rw [hlen, List.take_length]
    rw [← e]
    exact p3
  have hL1 : Hid L H1 := hid_ex (e0.trans e1) hL
  refine ⟨a, rfl, ?_⟩
  rcases hx with x1 | x1
  · refine .inl ⟨⟨xs, Evl.ex_l (e0.trans e1) x1⟩, fun Dl hD => ?_⟩
    exact lc_it (walk_list (xs := xs)) (Cmd K L H1 (fun i => (ds.take i).map g) Dl) (cmd_0 hL1 hD rfl) (fun i H2 _ p => Evl.ex_l ((e0.trans e1).trans p.2.1) x1) (fun i x H2 H3 hi p y => turn Dl i x H2 H3 hi p y) (fun H2 p => fin Dl H2 p)
  · refine .inr ⟨⟨xs, Evl.ex_t (e0.trans e1) x1⟩, fun Dl hD => ?_⟩
    exact lc_it (walk_tup (xs := xs)) (Cmd K L H1 (fun i => (ds.take i).map g) Dl) (cmd_0 hL1 hD rfl) (fun i H2 _ p => Evl.ex_t ((e0.trans e1).trans p.2.1) x1) (fun i x H2 H3 hi p y => turn Dl i x H2 H3 hi p y) (fun H2 p => fin Dl H2 p)
/-- [.. for p, q in a list or a tuple of pairs of data] -/
theorem eg_pairs {j1 j2 : Nat} {vs : List Nat} {g : PyData → PyData} (h : Evl.Ev tl σ H (.ref a)) (hx : SqL K H a xs ∨ SqT K H a xs) (hd : DpAll K (W L H) xs ds) (hL : Hid L H) (hz : ds.length ≤ 50000)
    (h2 : ∀ d ∈ ds, ∃ d1 d2, d = .tuple [d1, d2]) (hw : ∀ x y, wipe (((wipe σ vs).set j1 (some x)).set j2 (some y)) vs = wipe σ vs)
    (he : ∀ L' (x y : V) d1 d2 H1, PyData.tuple [d1, d2] ∈ ds → Hid L' H1 → Ex H H1 → Dp K (W L' H1) x d1 → Dp K (W L' H1) y d2 → EvD K L' te (((wipe σ vs).set j1 (some x)).set j2 (some y)) H1 (g (.tuple [d1, d2]))) :
    EvG K L (tLc (iSeq K tl) (gTup K 2 (gCons (gName j1) (gCons (gName j2) gNil))) tYes te vs) σ H (ds.map g) := fun H0 e0 Q q => h H0 e0 _ fun H1 e1 => by
  have hlen := dpa_len hd
  have turn : ∀ (Dl : Addr) (i : Nat) (x : V) (H2 H3 : Hp), i < xs.length → Cmd K L H1 (fun i => (ds.take i).map g) Dl i H2 → YAt xs i H2 x H3 → gTup K 2 (gCons (gName j1) (gCons (gName j2) gNil)) x (wipe σ vs) H3 fun σ2 H2 => wipe σ2 vs = wipe σ vs ∧ tYes σ2 H2 fun b H3 =>
      if b = true then te σ2 H3 fun y H4 => ∃ acc, H4 Dl = some (.lst acc) ∧ acc.length < sizeLine ∧ Cmd K L H1 (fun i => (ds.take i).map g) Dl (i + 1) (upd H4 Dl (.lst (acc ++ [y]))) else Cmd K L H1 (fun i => (ds.take i).map g) Dl (i + 1) H3 := by
    intro Dl i x H2 H3 hi p yp
    obtain ⟨rfl, hu⟩ := yp
    obtain ⟨d, hd1, hd2⟩ := dpa_get hd hu
    obtain ⟨d1, d2, rfl⟩ := h2 d (List.mem_of_getElem? hd1)
    obtain ⟨p1, p2, p3⟩ := id p
    have hd3 := hd2.up (w_past (Evl.fresh_back (e0.trans e1) p1) ((e0.trans e1).trans p2))
    cases hd3 with
    | @tup T ys _ hT ha =>
      cases ha with
      | @cons u1 us1 _ _ r1 rr =>
        cases rr with
        | @cons u2 us2 _ _ r2 rr2 =>
          cases rr2
          refine ⟨T, [u1, u2], rfl, Evl.ex_t w_sub hT, rfl, u1, [u2], rfl, u2, [], rfl, rfl, hw u1 u2, ?_⟩
          refine yes_lc (A := fun H3 => te ((List.set (wipe σ vs) j1 (some u1)).set j2 (some u2)) H3 fun y H4 => ∃ acc, H4 Dl = some (.lst acc) ∧ acc.length < sizeLine ∧ Cmd K L H1 (fun i => (ds.take i).map g) Dl (i + 1) (upd H4 Dl (.lst (acc ++ [y])))) (B := fun H3 => Cmd K L H1 (fun i => (ds.take i).map g) Dl (i + 1) H3) ?_
          refine cmd_yes p (by simp; omega) (Ex.refl _) (he _ u1 u2 d1 d2 _ (List.mem_of_getElem? hd1) ?_ ((e0.trans e1).trans p2) r1 r2) ?_
          · intro b hb
            rcases List.mem_cons.mp hb with z | z
            · rw [z]
              exact p3.ne
            · exact hid_ex ((e0.trans e1).trans p2) hL b z
          · rw [List.take_add_one, hd1]
            simp
  have fin : ∀ Dl H2, Cmd K L H1 (fun i => (ds.take i).map g) Dl xs.length H2 → Q (.ref Dl) H2 := fun Dl H2 p => by
    obtain ⟨p1, p2, p3⟩ := p
    refine q Dl H2 (Evl.fresh_back e1 p1) (e1.trans p2) ?_
    have e : (ds.take xs.length).map g = ds.map g := by rw [hlen, List.take_length]
    rw [← e]
    exact p3
  have hL1 : Hid L H1 := hid_ex (e0.trans e1) hL
  refine ⟨a, rfl, ?_⟩
  rcases hx with x1 | x1
  · refine .inl ⟨⟨xs, Evl.ex_l (e0.trans e1) x1⟩, fun Dl hD => ?_⟩
    exact lc_it (walk_list (xs := xs)) (Cmd K L H1 (fun i => (ds.take i).map g) Dl) (cmd_0 hL1 hD rfl) (fun i H2 _ p => Evl.ex_l ((e0.trans e1).trans p.2.1) x1) (fun i x H2 H3 hi p y => turn Dl i x H2 H3 hi p y) (fun H2 p => fin Dl H2 p)
  · refine .inr ⟨⟨xs, Evl.ex_t (e0.trans e1) x1⟩, fun Dl hD => ?_⟩
    exact lc_it (walk_tup (xs := xs)) (Cmd K L H1 (fun i => (ds.take i).map g) Dl) (cmd_0 hL1 hD rfl) (fun i H2 _ p => Evl.ex_t ((e0.trans e1).trans p.2.1) x1) (fun i x H2 H3 hi p y => turn Dl i x H2 H3 hi p y) (fun H2 p => fin Dl H2 p)
/-- the items at the places that c names -/
def sel (c : Nat → Bool) (ds : List PyData) (n : Nat) : List PyData := (List.range n).flatMap fun i => if c i then (ds[i]?).toList else []
theorem sel_step {c : Nat → Bool} {n : Nat} : sel c ds (n + 1) = sel c ds n ++ (if c n then (ds[n]?).toList else []) := by
  unfold sel
  rw [List.range_succ, List.flatMap_append]
  simp
theorem sel_len {c : Nat → Bool} : ∀ n, (sel c ds n).length ≤ n
  | 0 => by simp [sel]
  | n + 1 => by
    have q := sel_len (c := c) n
    rw [sel_step, List.length_append]
    have z : (if c n = true then (ds[n]?).toList else []).length ≤ 1 := by
      split
      · cases ds[n]? <;> simp
      · simp
    omega
theorem sel_mem {c : Nat → Bool} {n : Nat} {d : PyData} (h : d ∈ sel c ds n) : d ∈ ds := by
  unfold sel at h
  obtain ⟨i, _, hi⟩ := List.mem_flatMap.mp h
  split at hi
  · exact List.mem_of_getElem? (by simpa using hi)
  · cases hi
/-- [x for i, x in enumerate(a list or a tuple of data) if c i] -/
theorem eg_enum {j1 j2 : Nat} {vs : List Nat} {c : Nat → Bool} (h : Evl.EvA ta σ H [.ref a]) (hx : SqL K H a xs ∨ SqT K H a xs) (hd : DpAll K (W L H) xs ds) (hL : Hid L H) (hz : ds.length ≤ 50000)
    (hw : ∀ x y, wipe (((wipe σ vs).set j1 (some x)).set j2 (some y)) vs = wipe σ vs)
    (ht : ∀ (x : V) (i : Nat) H1, i < ds.length → Ex H H1 → Evl.EvT tt (((wipe σ vs).set j1 (some (.int (i : Int)))).set j2 (some x)) H1 (c i)) (hn : ∀ x y, (((wipe σ vs).set j1 (some x)).set j2 (some y))[j2]? = some (some y)) :
    EvG K L (tLc (iEnumA K ta) (gTup K 2 (gCons (gName j1) (gCons (gName j2) gNil))) tt (tVar j2) vs) σ H (sel c ds ds.length) := fun H0 e0 Q q => h H0 e0 _ fun H1 e1 => by
  have hlen := dpa_len hd
  have turn : ∀ (Dl : Addr) (i : Nat) (x : V) (H2 H3 : Hp), i < xs.length → Cmd K L H1 (sel c ds) Dl i H2 → YPair (fun i => some (.int (i : Nat))) (fun i => xs[i]?) i H2 x H3 → gTup K 2 (gCons (gName j1) (gCons (gName j2) gNil)) x (wipe σ vs) H3 fun σ2 H2 => wipe σ2 vs = wipe σ vs ∧ tt σ2 H2 fun b H3 =>
      if b = true then (tVar j2) σ2 H3 fun y H4 => ∃ acc, H4 Dl = some (.lst acc) ∧ acc.length < sizeLine ∧ Cmd K L H1 (sel c ds) Dl (i + 1) (upd H4 Dl (.lst (acc ++ [y]))) else Cmd K L H1 (sel c ds) Dl (i + 1) H3 := by
    intro Dl i x H2 H3 hi p yp
    obtain ⟨T, u, w, rfl, hT, rfl, hu, hw'⟩ := yp
    have eu : u = .int (i : Int) := (Option.some.inj hu).symm
    subst eu
    have hw2 : xs[i]? = some w := hw'
    obtain ⟨d, hd1, hd2⟩ := dpa_get hd hw2
    obtain ⟨p1, p2, p3⟩ := id p
    refine ⟨T, [.int (i : Int), w], rfl, SqT.of upd_same, rfl, .int (i : Int), [w], rfl, w, [], rfl, rfl, hw _ w, ?_⟩
    have eN := ((e0.trans e1).trans p2).trans (Ex.new (o := .tup [.int (i : Int), w]) hT)
    refine ht w i _ (by omega) eN _ (Ex.refl _) _ fun H4 e4 => ?_
    have e24 : Ex H2 H4 := (Ex.new hT).trans e4
    by_cases hc : c i = true
    · rw [if_pos hc]
      refine cmd_yes (d := d) p (Nat.lt_of_le_of_lt (sel_len i) (by omega)) e24 (evd_var (hn _ w) (hd2.up (w_past (Evl.fresh_back (e0.trans e1) p1) (((e0.trans e1).trans p2).trans e24)))) ?_
      rw [sel_step, if_pos hc, hd1]
      rfl
    · rw [if_neg hc]
      refine cmd_no p e24 ?_
      rw [sel_step, if_neg hc, List.append_nil]
  have fin : ∀ Dl H2, Cmd K L H1 (sel c ds) Dl xs.length H2 → Q (.ref Dl) H2 := fun Dl H2 p => by
    obtain ⟨p1, p2, p3⟩ := p
    refine q Dl H2 (Evl.fresh_back e1 p1) (e1.trans p2) ?_
    rw [hlen] at p3
    exact p3
  have hL1 : Hid L H1 := hid_ex (e0.trans e1) hL
  refine ⟨a, xs, rfl, ?_⟩
  rcases hx with x1 | x1
  · refine .inl ⟨Evl.ex_l (e0.trans e1) x1, fun Dl hD => ?_⟩
    exact lc_it (walk_enum (xs := xs)) (Cmd K L H1 (sel c ds) Dl) (cmd_0 hL1 hD rfl) (fun i H2 _ p => Evl.ex_l ((e0.trans e1).trans p.2.1) x1) (fun i x H2 H3 hi p y => turn Dl i x H2 H3 hi p y) (fun H2 p => fin Dl H2 p)
  · refine .inr ⟨Evl.ex_t (e0.trans e1) x1, fun Dl hD => ?_⟩
    exact lc_it (walk_enumT (xs := xs)) (Cmd K L H1 (sel c ds) Dl) (cmd_0 hL1 hD rfl) (fun i H2 _ p => Evl.ex_t ((e0.trans e1).trans p.2.1) x1) (fun i x H2 H3 hi p y => turn Dl i x H2 H3 hi p y) (fun H2 p => fin Dl H2 p)
/-- tuple(a new list of data) -/
theorem evd_tupG (h : EvG K L te σ H ds) (hL : Hid L H) : EvD K L (tCB (fun xs H Q => ∃ p ys, xs = [.ref p] ∧ ((SqL K H p ys ∧ ∀ l, H l = none → Q (.ref l) (upd H l (.tup ys))) ∨ (SqT K H p ys ∧ Q (.ref p) H))) (tCons te tNil)) σ H (.tuple ds) := fun H1 e Q q =>
  h H1 e _ fun p H2 hp e2 g => by
    obtain ⟨n, ys, g1, g2⟩ := g
    refine ⟨p, ys, rfl, .inl ⟨SqL.of g1, fun r hr => ?_⟩⟩
    exact q (.ref r) _ (e2.trans (Ex.new hr)) (.tup (SqT.of (w_new (hid_ex (e.trans e2) hL) hr)) ((g2.up w_cons).up (w_ex (Ex.new hr))))
/-- tuple(x) of data that are a list or a tuple -/
theorem evd_tupD {x : V} (h : Evl.Ev te σ H x) (hd : Dp K (W L H) x (.list ds) ∨ Dp K (W L H) x (.tuple ds)) (hL : Hid L H) : EvD K L (tCB (fun xs H Q => ∃ p ys, xs = [.ref p] ∧ ((SqL K H p ys ∧ ∀ l, H l = none → Q (.ref l) (upd H l (.tup ys))) ∨ (SqT K H p ys ∧ Q (.ref p) H))) (tCons te tNil)) σ H (.tuple ds) := fun H1 e Q q =>
  h H1 e _ fun H2 e2 => by
    rcases hd with hd | hd
    · cases hd with
      | @lst p ys _ hs ha =>
        refine ⟨p, ys, rfl, .inl ⟨Evl.ex_l (w_sub.trans (e.trans e2)) hs, fun r hr => ?_⟩⟩
        exact q (.ref r) _ (e2.trans (Ex.new hr)) (.tup (SqT.of (w_new (hid_ex (e.trans e2) hL) hr)) (ha.up (w_ex ((e.trans e2).trans (Ex.new hr)))))
    · have hd' := hd
      cases hd with
      | @tup p ys _ hs ha =>
        exact ⟨p, ys, rfl, .inr ⟨Evl.ex_t (w_sub.trans (e.trans e2)) hs, q (.ref p) H2 e2 (hd'.up (w_ex (e.trans e2)))⟩⟩
/-- list(x) of data that are a list or a tuple -/
theorem eg_list {x : V} (h : Evl.Ev te σ H x) (hd : Dp K (W L H) x (.list ds) ∨ Dp K (W L H) x (.tuple ds)) (hL : Hid L H) : EvG K L (tCB (fun xs H Q => ∃ p ys, xs = [.ref p] ∧ (SqL K H p ys ∨ SqT K H p ys) ∧ ∀ l, H l = none → Q (.ref l) (upd H l (.lst ys))) (tCons te tNil)) σ H ds := fun H1 e Q q =>
  h H1 e _ fun H2 e2 => by
    rcases hd with hd | hd
    · cases hd with
      | @lst p ys _ hs ha =>
        refine ⟨p, ys, rfl, .inl (Evl.ex_l (w_sub.trans (e.trans e2)) hs), fun r hr => ?_⟩
        exact q r _ (Evl.fresh_back e2 hr) (e2.trans (Ex.new hr)) (gr_new (hid_ex (e.trans e2) hL) hr (ha.up (w_ex (e.trans e2))))
    · cases hd with
      | @tup p ys _ hs ha =>
        refine ⟨p, ys, rfl, .inr (Evl.ex_t (w_sub.trans (e.trans e2)) hs), fun r hr => ?_⟩
        exact q r _ (Evl.fresh_back e2 hr) (e2.trans (Ex.new hr)) (gr_new (hid_ex (e.trans e2) hL) hr (ha.up (w_ex (e.trans e2))))
end
end U

set_option Elab.async false
set_option linter.all false
set_option maxRecDepth 100000
set_option maxHeartbeats 4000000
namespace U
open PySem PySem.Spec PyProof.Rows L2
open Evl (Ex)
/-! ### own +, raise X(), a class of two at once -/
/-- one + other of two instances of the class at C, by what its own method promises: a reference -/
def tOwn (C : Addr) (sp : Sp) (E : L2.St → XK) (ta tb : TE) : TE := fun σ H Q => ta σ H fun x H1 => tb σ H1 fun y H2 => ∃ a b dx dy fs gs, x = .ref a ∧ y = .ref b ∧ H2 a = some (.ins C dx fs) ∧ H2 b = some (.ins C dy gs) ∧
  sp [.ref a, .ref b] H2 (fun v H' => ∃ r, v = .ref r ∧ Q (.ref r) H') (E σ)
section
variable {X : Cx} {CX : CXT} {n : Nat} {f C : Addr} {fd : FuncData} {ps : List Str} {sp : Sp} {E : L2.St → XK} {a b : Expr} {ta tb : TE} {pos : Pos} {op : Operator}
theorem pe_own (F : FnOk X.prog X.w X.K X.mg X.base CX n f fd ps sp) (hr : Room n X.A) (hs : PySem.W.findIn X.K (.ref C) (PySem.dunder op.info.2) = some (some (.ref f))) (hf : PySem.W.isFn X.K (.ref f) = true) (hc : PySem.W.selfFirst X.K C = true)
    (hb : Binds X.K fd ps []) (hx : ∀ σ, PassesAt CX X σ (E σ)) (ha : PE X a ta) (hb2 : PE X b tb) : PE X (.BinOp a op b pos) (tOwn C sp E ta tb) := by
  refine ⟨fun pins s σ H Q I h => wpAny_BinOp (binT (R := fun x y H2 => ∃ a b dx dy fs gs, x = .ref a ∧ y = .ref b ∧ H2 a = some (.ins C dx fs) ∧ H2 b = some (.ins C dy gs) ∧ sp [.ref a, .ref b] H2 (fun v H' => ∃ r, v = .ref r ∧ Q (.ref r) H') (E σ)) ha hb2 I h fun v u s2 x y H2 I2 rx ry q => ?_)⟩
  obtain ⟨p, r, dx, dy, fs, gs, rfl, rfl, hp, hr2, hsp⟩ := q
  cases rx
  cases ry
  obtain ⟨mA, J, _⟩ := ins_get I2.hok hp
  obtain ⟨mB, J', _⟩ := ins_get I2.hok hr2
  obtain ⟨od, J, _⟩ := J.look
  obtain ⟨od', J', _⟩ := J'.look
  obtain ⟨m, hF⟩ := I2.fr
  refine PySem.W.binop_K (C := C) hF I2.ok.mod.kin J J'.type hc hs hf ?_
  have r2 : Vals [V.ref p, V.ref r] [Value.ref p, Value.ref r] := .cons rfl (.cons rfl .nil)
  refine wpAny_mono (run_fnS F hr hb (hx σ) I2 r2 hsp) (fun r s' z => ?_) fun _ _ x => x
  obtain ⟨v, H', I', rv, t, rfl, q⟩ := z
  cases rv
  exact ⟨V.ref t, H', I', rfl, q⟩
/-- X() of an own class of errors without __init__ -/
theorem pmk_own0 {bmB : List Value} {B newId initId : String} {x : Str} {p : Pos} (F : ExcBaseFacts B newId initId bmB) (q : PySem.W.excIn X.K C bmB newId = true) (gC : X.mg x = some (.ref C)) (kC : PySem.W.keepIn X.K (.ref C) = true) (r : Raises X (.ref C)) (hg : Gl X x)
    (hdb : (x == ("__debug__" : Str)) = false := by decide) : PMk X (.Call (.Name x p) [] [] pos) (fun _ H Q => Q (.ref C) none H) := by
  intro pins s σ H Q I h
  refine wpAny_Call_Name_kw (ld_glob I hg gC ?_ hdb)
  refine PySem.W.callWith_K0 I.kIn kC ?_
  show wpAny _ _ (call (.ref C) []) _ _ _
  obtain ⟨bm, N, nm, qn, bs, hdct, sn, sub, ab, col, dd, k0, k1, k2, k3, k5, mN, hC, hN, hni, T⟩ := exc_obj I.kIn q
  refine wpAny_call_exc_subT F T hC hN hni (fun h' e hm => ?_) (by show 0 ≤ sizeLine; exact Nat.zero_le _)
  exact mk_of I hm r h (I.hok.gone hm.new)
/-- x[i] of a list or a tuple -/
def rIxA (K : PySem.W.Frag) : R2 := fun x y H Q => rIxL K x y H Q ∨ rIxT K x y H Q
theorem ix_seq : IxR X (rIxA X.K) := IxR.or ix_list ix_tup
end
section
variable {K : PySem.W.Frag} {σ : L2.St} {H : Hp} {te ta tb tc : TE} {x y z : V} {r r' : R2} {a : Addr} {xs : List V} {v : V} {i : Int}
theorem ev_ixA (h : Evl.Ev te σ H (.ref a)) (hx : SqL K H a xs ∨ SqT K H a xs) (hv : atI xs i = some v) : Evl.Ev (tOp (rIxA K) te (tC (.int i))) σ H v := fun H1 e Q q =>
  h H1 e _ fun H2 e2 => by
    show rIxA K (.ref a) (.int i) H2 Q
    rcases hx with hx | hx
    · exact .inl ⟨a, xs, i, v, rfl, rfl, Evl.ex_l (e.trans e2) hx, hv, q H2 e2⟩
    · exact .inr ⟨a, xs, i, v, rfl, rfl, Evl.ex_t (e.trans e2) hx, hv, q H2 e2⟩
/-- a op b op c -/
theorem ev_chain {k l : Bool} (ha : Evl.Ev ta σ H x) (hb : Evl.Ev tb σ H y) (hr : Evl.RV r x y H (.bl k)) (hc : k = true → Evl.Ev tc σ H z) (hr2 : k = true → Evl.RV r' y z H (.bl l)) (hl : k = false → l = false) : Evl.Ev (tChain r r' ta tb tc) σ H (.bl l) := fun H1 e1 Q q =>
  ha H1 e1 _ fun H2 e2 => hb H2 (e1.trans e2) _ fun H3 e3 => hr H3 ((e1.trans e2).trans e3) _ fun H4 e4 => ⟨k, rfl, by
    cases k with
    | true =>
      rw [if_pos rfl]
      exact hc rfl H4 (((e1.trans e2).trans e3).trans e4) _ fun H5 e5 => hr2 rfl H5 ((((e1.trans e2).trans e3).trans e4).trans e5) Q fun H6 e6 => q H6 (((e2.trans e3).trans e4).trans (e5.trans e6))
    | false =>
      rw [if_neg (by simp)]
      rw [hl rfl] at q
      exact q H4 ((e2.trans e3).trans e4)⟩
/-- [True or False for x in a list or a tuple of data] -/
theorem el_seqB {tl : TE} {ds : List PyData} {f : PyData → Bool} {j : Nat} {vs : List Nat} (h : Evl.Ev tl σ H (.ref a)) (hx : SqL K H a xs ∨ SqT K H a xs) (hd : DpAll K H xs ds) (hz : ds.length ≤ 40000) (hw : ∀ x, wipe ((wipe σ vs).set j (some x)) vs = wipe σ vs)
    (he : ∀ (x : V) d H1, d ∈ ds → Ex H H1 → Dp K H1 x d → Evl.Ev te ((wipe σ vs).set j (some x)) H1 (.bl (f d))) : Evl.EvL (tLc (iSeq K tl) (gName j) tYes te vs) σ H ((ds.map f).map V.bl) := fun H0 e0 Q q => h H0 e0 _ fun H1 e1 => by
  have hlen := dpa_len hd
  let w : Nat → V := fun i => .bl (f (ds.getD i .none))
  have turn : ∀ (Dl : Addr) (i : Nat) (x : V) (H2 H3 : Hp), i < xs.length → Cm H1 w Dl i H2 → YAt xs i H2 x H3 → gName j x (wipe σ vs) H3 fun σ2 H2 => wipe σ2 vs = wipe σ vs ∧ tYes σ2 H2 fun b H3 =>
      if b = true then te σ2 H3 fun y H4 => ∃ acc, H4 Dl = some (.lst acc) ∧ acc.length < sizeLine ∧ Cm H1 w Dl (i + 1) (upd H4 Dl (.lst (acc ++ [y]))) else Cm H1 w Dl (i + 1) H3 := by
    intro Dl i x H2 H3 hi p yp
    obtain ⟨rfl, hu⟩ := yp
    obtain ⟨d, hd1, hd2⟩ := dpa_get hd hu
    refine ⟨hw x, ?_⟩
    refine yes_lc (A := fun H3 => te ((wipe σ vs).set j (some x)) H3 fun y H4 => ∃ acc, H4 Dl = some (.lst acc) ∧ acc.length < sizeLine ∧ Cm H1 w Dl (i + 1) (upd H4 Dl (.lst (acc ++ [y])))) (B := fun H3 => Cm H1 w Dl (i + 1) H3) ?_
    have ew : w i = .bl (f d) := by
      show V.bl (f (ds.getD i .none)) = _
      rw [List.getD_eq_getElem?_getD, hd1]
      rfl
    refine cm_turn p (by omega) _ (Ex.refl _) ?_
    rw [ew]
    exact he x d _ (List.mem_of_getElem? hd1) (e0.trans e1) (hd2.up (e0.trans e1))
  have fin : ∀ Dl H2, Cm H1 w Dl xs.length H2 → Q (.ref Dl) H2 := fun Dl H2 p => by
    refine q Dl H2 (Evl.fresh_back e1 p.1) (e1.trans p.2.1) ?_
    rw [p.2.2, hlen]
    congr 2
    apply List.ext_getElem
    · simp
    · intro i h1 h2
      have h3 : i < ds.length := by simpa using h1
      simp [w, h3]
  refine ⟨a, rfl, ?_⟩
  rcases hx with x1 | x1
  · refine .inl ⟨⟨xs, Evl.ex_l (e0.trans e1) x1⟩, fun Dl hD => ?_⟩
    exact lc_it (walk_list (xs := xs)) (Cm H1 w Dl) (cm_0 hD) (fun i H2 _ p => Evl.ex_l ((e0.trans e1).trans p.2.1) x1) (fun i x H2 H3 hi p y => turn Dl i x H2 H3 hi p y) (fun H2 p => fin Dl H2 p)
  · refine .inr ⟨⟨xs, Evl.ex_t (e0.trans e1) x1⟩, fun Dl hD => ?_⟩
    exact lc_it (walk_tup (xs := xs)) (Cm H1 w Dl) (cm_0 hD) (fun i H2 _ p => Evl.ex_t ((e0.trans e1).trans p.2.1) x1) (fun i x H2 H3 hi p y => turn Dl i x H2 H3 hi p y) (fun H2 p => fin Dl H2 p)
theorem el_seqBq {tl : TE} {ds : List PyData} {f : PyData → Bool} {j : Nat} {vs : List Nat} (h : Evl.Ev tl σ H (.ref a)) (hx : SqL K H a xs ∨ SqT K H a xs) (hd : DqAll K H xs ds) (hz : ds.length ≤ 40000) (hw : ∀ x, wipe ((wipe σ vs).set j (some x)) vs = wipe σ vs)
    (he : ∀ (x : V) d H1, d ∈ ds → Ex H H1 → Dq K H1 x d → Evl.Ev te ((wipe σ vs).set j (some x)) H1 (.bl (f d))) : Evl.EvL (tLc (iSeq K tl) (gName j) tYes te vs) σ H ((ds.map f).map V.bl) := fun H0 e0 Q q => h H0 e0 _ fun H1 e1 => by
  have hlen := dqa_len hd
  let w : Nat → V := fun i => .bl (f (ds.getD i .none))
  have turn : ∀ (Dl : Addr) (i : Nat) (x : V) (H2 H3 : Hp), i < xs.length → Cm H1 w Dl i H2 → YAt xs i H2 x H3 → gName j x (wipe σ vs) H3 fun σ2 H2 => wipe σ2 vs = wipe σ vs ∧ tYes σ2 H2 fun b H3 =>
      if b = true then te σ2 H3 fun y H4 => ∃ acc, H4 Dl = some (.lst acc) ∧ acc.length < sizeLine ∧ Cm H1 w Dl (i + 1) (upd H4 Dl (.lst (acc ++ [y]))) else Cm H1 w Dl (i + 1) H3 := by
    intro Dl i x H2 H3 hi p yp
    obtain ⟨rfl, hu⟩ := yp
    obtain ⟨d, hd1, hd2⟩ := dqa_get hd hu
    refine ⟨hw x, ?_⟩
    refine yes_lc (A := fun H3 => te ((wipe σ vs).set j (some x)) H3 fun y H4 => ∃ acc, H4 Dl = some (.lst acc) ∧ acc.length < sizeLine ∧ Cm H1 w Dl (i + 1) (upd H4 Dl (.lst (acc ++ [y])))) (B := fun H3 => Cm H1 w Dl (i + 1) H3) ?_
    have ew : w i = .bl (f d) := by
      show V.bl (f (ds.getD i .none)) = _
      rw [List.getD_eq_getElem?_getD, hd1]
      rfl
    refine cm_turn p (by omega) _ (Ex.refl _) ?_
    rw [ew]
    exact he x d _ (List.mem_of_getElem? hd1) (e0.trans e1) (hd2.up (e0.trans e1))
  have fin : ∀ Dl H2, Cm H1 w Dl xs.length H2 → Q (.ref Dl) H2 := fun Dl H2 p => by
    refine q Dl H2 (Evl.fresh_back e1 p.1) (e1.trans p.2.1) ?_
    rw [p.2.2, hlen]
    congr 2
    apply List.ext_getElem
    · simp
    · intro i h1 h2
      have h3 : i < ds.length := by simpa using h1
      simp [w, h3]
  refine ⟨a, rfl, ?_⟩
  rcases hx with x1 | x1
  · refine .inl ⟨⟨xs, Evl.ex_l (e0.trans e1) x1⟩, fun Dl hD => ?_⟩
    exact lc_it (walk_list (xs := xs)) (Cm H1 w Dl) (cm_0 hD) (fun i H2 _ p => Evl.ex_l ((e0.trans e1).trans p.2.1) x1) (fun i x H2 H3 hi p y => turn Dl i x H2 H3 hi p y) (fun H2 p => fin Dl H2 p)
  · refine .inr ⟨⟨xs, Evl.ex_t (e0.trans e1) x1⟩, fun Dl hD => ?_⟩
    exact lc_it (walk_tup (xs := xs)) (Cm H1 w Dl) (cm_0 hD) (fun i H2 _ p => Evl.ex_t ((e0.trans e1).trans p.2.1) x1) (fun i x H2 H3 hi p y => turn Dl i x H2 H3 hi p y) (fun H2 p => fin Dl H2 p)
theorem fits_len {ds : List PyData} (h : (∃ n, fits n (.list ds)) ∨ ∃ n, fits n (.tuple ds)) : ds.length ≤ 40000 := by
  rcases h with ⟨n, h⟩ | ⟨n, h⟩ <;>
  · cases n with
    | zero => exact h.elim
    | succ n => exact h.1
theorem fits_in {ds : List PyData} {d : PyData} (h : (∃ n, fits n (.list ds)) ∨ ∃ n, fits n (.tuple ds)) (hd : d ∈ ds) : ∃ n, fits n d := by
  rcases h with ⟨n, h⟩ | ⟨n, h⟩ <;>
  · cases n with
    | zero => exact h.elim
    | succ n => exact ⟨n, h.2 d hd⟩
/-- a field of an instance -/
theorem ev_fld {C dx : Addr} {fs : List (Str × V)} {f : Str} (h : Evl.Ev te σ H (.ref a)) (ha : H a = some (.ins C dx fs)) (c : Cls K C) (n : NoAttr K C f) (hv : fs.lookup f = some v) : Evl.Ev (tFld K te f) σ H v := fun H1 e Q q =>
  h H1 e _ fun H2 e2 => ⟨a, C, dx, fs, v, rfl, (e.trans e2) a _ ha, c, n, hv, q H2 e2⟩
end
end U

set_option Elab.async false
set_option linter.all false
set_option maxRecDepth 100000
set_option maxHeartbeats 4000000
namespace U
open PySem L2
open Evl (Ex)
abbrev s_is_integer : Stmt := top 10
abbrev sc_is_integer_N : List Str := ["thing"]
theorem sc_is_integer : FnScope sc_is_integer_N ["thing"] (defScope s_is_integer) := ⟨rfl, rfl, rfl, by decide +kernel, rfl, by decide +kernel, by decide +kernel⟩
abbrev s_is_label : Stmt := top 11
abbrev sc_is_label_N : List Str := ["thing"]
theorem sc_is_label : FnScope sc_is_label_N ["thing"] (defScope s_is_label) := ⟨rfl, rfl, rfl, by decide +kernel, rfl, by decide +kernel, by decide +kernel⟩
abbrev s_is_row : Stmt := top 12
abbrev sc_is_row_N : List Str := ["thing"]
theorem sc_is_row : FnScope sc_is_row_N ["thing"] (defScope s_is_row) := ⟨rfl, rfl, rfl, by decide +kernel, rfl, by decide +kernel, by decide +kernel⟩
abbrev s_is_row_of : Stmt := top 13
abbrev sc_is_row_of_N : List Str := ["thing", "many"]
theorem sc_is_row_of : FnScope sc_is_row_of_N ["thing", "many"] (defScope s_is_row_of) := ⟨rfl, rfl, rfl, by decide +kernel, rfl, by decide +kernel, by decide +kernel⟩
abbrev s_is_number_of_places : Stmt := top 15
abbrev sc_is_number_of_places_N : List Str := ["thing"]
theorem sc_is_number_of_places : FnScope sc_is_number_of_places_N ["thing"] (defScope s_is_number_of_places) := ⟨rfl, rfl, rfl, by decide +kernel, rfl, by decide +kernel, by decide +kernel⟩
abbrev s_is_point : Stmt := top 16
abbrev sc_is_point_N : List Str := ["thing", "places", "entry"]
theorem sc_is_point : FnScope sc_is_point_N ["thing", "places"] (defScope s_is_point) := ⟨rfl, rfl, rfl, by decide +kernel, rfl, by decide +kernel, by decide +kernel⟩
abbrev s_is_example : Stmt := top 17
abbrev sc_is_example_N : List Str := ["thing", "places"]
theorem sc_is_example : FnScope sc_is_example_N ["thing", "places"] (defScope s_is_example) := ⟨rfl, rfl, rfl, by decide +kernel, rfl, by decide +kernel, by decide +kernel⟩
abbrev s_is_index_below : Stmt := top 14
abbrev sc_is_index_below_N : List Str := ["thing", "many"]
theorem sc_is_index_below : FnScope sc_is_index_below_N ["thing", "many"] (defScope s_is_index_below) := ⟨rfl, rfl, rfl, by decide +kernel, rfl, by decide +kernel, by decide +kernel⟩
abbrev s_copied_example : Stmt := top 18
abbrev sc_copied_example_N : List Str := ["example", "point", "label"]
theorem sc_copied_example : FnScope sc_copied_example_N ["example"] (defScope s_copied_example) := ⟨rfl, rfl, rfl, by decide +kernel, rfl, by decide +kernel, by decide +kernel⟩
def isIx (p : Int) : PyData → Bool
  | .int i => decide (0 ≤ i) && decide (i < p)
  | _ => false
def isI : PyData → Bool
  | .int _ => true
  | _ => false
def isL : PyData → Bool
  | .bool _ => true
  | _ => false
def isR : PyData → Bool
  | .list _ => true
  | .tuple _ => true
  | _ => false
def isN : PyData → Bool
  | .int i => decide (1 ≤ i) && decide (i ≤ 3)
  | _ => false
def isP (p : Int) : PyData → Bool
  | .list ds => decide ((ds.length : Int) = p) && ds.all isI
  | .tuple ds => decide ((ds.length : Int) = p) && ds.all isI
  | _ => false
def isO (p : Int) : PyData → Bool
  | .list ds => decide ((ds.length : Int) = p)
  | .tuple ds => decide ((ds.length : Int) = p)
  | _ => false
def isX (p : Int) : PyData → Bool
  | .list [a, b] => isP p a && isL b
  | .tuple [a, b] => isP p a && isL b
  | _ => false
def tupOf : PyData → PyData
  | .list ds => .tuple ds
  | d => d
def cpy : PyData → PyData
  | .list [a, b] => .tuple [tupOf a, b]
  | .tuple [a, b] => .tuple [tupOf a, b]
  | d => d
/-- True or False of data, by f | of data and a number of places -/
def spB (K : PySem.W.Frag) (f : PyData → Bool) : Sp := fun vs H Q _ => ∃ v d, vs = [v] ∧ Dq K H v d ∧ ∀ H', Ex H H' → Q (.bl (f d)) H'
def spBp (K : PySem.W.Frag) (f : Int → PyData → Bool) : Sp := fun vs H Q _ => ∃ v d p, vs = [v, .int p] ∧ Dq K H v d ∧ (∃ n, fits n d) ∧ ∀ H', Ex H H' → Q (.bl (f p d)) H'
structure TxF (mg : Str → Option Value) : Prop extends TxB mg where
  m_range : mg "range" = none
  m_enumerate : mg "enumerate" = none
  c_LEAST_PLACES : ∃ t, mg "LEAST_PLACES" = some (.int 1 t)
  c_MOST_PLACES : ∃ t, mg "MOST_PLACES" = some (.int 3 t)
section
variable {P : Program} {w : World} {K : PySem.W.Frag} {mg : Str → Option Value} {base : Heap}
theorem isP_two {p : Int} {d : PyData} : (isO p d && isP p d) = isP p d := by
  have q : ∀ a b : Bool, (a && (a && b)) = (a && b) := by decide
  cases d with
  | list ds => exact q _ _
  | tuple ds => exact q _ _
  | _ => rfl
theorem isX_two {p : Int} {d : PyData} {ds : List PyData} (h : d = .list ds ∨ d = .tuple ds) : (isO 2 d && isX p d) = isX p d := by
  rcases h with rfl | rfl <;> (match ds with
    | [] => rfl
    | [_] => rfl
    | [_, _] => rfl
    | _ :: _ :: _ :: r =>
      show (_ && false) = false
      rw [Bool.and_false])
theorem ev_spB {σ : L2.St} {H : Hp} {te : TE} {v : V} {d : PyData} {f : PyData → Bool} (h : Evl.Ev te σ H v) (hd : Dp K H v d) : Evl.Ev (tCallD (spB K f) (tCons te tNil)) σ H (.bl (f d)) :=
  ev_callD (Evl.ea_cons h Evl.ea_nil) fun H1 e1 Q q => ⟨v, d, rfl, (hd.up e1).q, q⟩
theorem ev_spBp {σ : L2.St} {H : Hp} {te tp : TE} {v : V} {d : PyData} {f : Int → PyData → Bool} {p : Int} (h : Evl.Ev te σ H v) (hp : Evl.Ev tp σ H (.int p)) (hd : Dp K H v d) (hw : ∃ n, fits n d) : Evl.Ev (tCallD (spBp K f) (tCons te (tCons tp tNil))) σ H (.bl (f p d)) :=
  ev_callD (Evl.ea_cons h (Evl.ea_cons hp Evl.ea_nil)) fun H1 e1 Q q => ⟨v, d, p, rfl, (hd.up e1).q, hw, q⟩
theorem ev_spBq {σ : L2.St} {H : Hp} {te : TE} {v : V} {d : PyData} {f : PyData → Bool} (h : Evl.Ev te σ H v) (hd : Dq K H v d) : Evl.Ev (tCallD (spB K f) (tCons te tNil)) σ H (.bl (f d)) :=
  ev_callD (Evl.ea_cons h Evl.ea_nil) fun H1 e1 Q q => ⟨v, d, rfl, hd.up e1, q⟩
theorem ev_spBpq {σ : L2.St} {H : Hp} {te tp : TE} {v : V} {d : PyData} {f : Int → PyData → Bool} {p : Int} (h : Evl.Ev te σ H v) (hp : Evl.Ev tp σ H (.int p)) (hd : Dq K H v d) (hw : ∃ n, fits n d) : Evl.Ev (tCallD (spBp K f) (tCons te (tCons tp tNil))) σ H (.bl (f p d)) :=
  ev_callD (Evl.ea_cons h (Evl.ea_cons hp Evl.ea_nil)) fun H1 e1 Q q => ⟨v, d, p, rfl, hd.up e1, hw, q⟩
theorem ok_is_integer {f : Addr} {fd : FuncData} (F : Fun K "is_integer" "is_integer" s_is_integer f fd) (T : TxF mg) : FnOk P w K mg base CX0 1 f fd ["thing"] (spB K isI) := by
  refine F.ok sc_is_integer (fun vs H Q E h => ?_) (fun cdv A outer s H vs Q E hr h => ?_)
  · obtain ⟨_, _, rfl, _⟩ := h
    rfl
  · obtain ⟨v, d, rfl, hd, k⟩ := h
    refine ⟨_, (pss_one (ps_ret (pe_and (pe_callB call_isi (by rfl) T.m_isinstance (by decide +kernel) (pa_cons (pv 0) (pa_cons (pe_bltn (v := .ty "int") (by rfl) T.m_int (by decide +kernel) rfl) pa_nil))) (pe_one (pe_not (pe_callB call_isi (by rfl) T.m_isinstance (by decide +kernel) (pa_cons (pv 0) (pa_cons (pe_bltn (v := .ty "bool") (by rfl) T.m_bool (by decide +kernel) rfl) pa_nil)))))))), ?_⟩
    have v0 : Evl.Ev (tVar 0) (start sc_is_integer_N [v]) H v := Evl.ev_var rfl
    cases d with
    | none => exact Evl.s_ret (v := .bl false) (Evl.ev_andV (a := false) (b := false) (evq_isi v0 hd isi_NoneType_int) fun z => nomatch z) k
    | bool z => exact Evl.s_ret (v := .bl false) (Evl.ev_andV (a := true) (b := false) (evq_isi v0 hd isi_bool_int) fun _ => Evl.ev_notV (a := true) (evq_isi v0 hd isi_bool_bool)) k
    | int z => exact Evl.s_ret (v := .bl true) (Evl.ev_andV (a := true) (b := true) (evq_isi v0 hd isi_int_int) fun _ => Evl.ev_notV (a := false) (evq_isi v0 hd isi_int_bool)) k
    | str z' => exact Evl.s_ret (v := .bl false) (Evl.ev_andV (a := false) (b := false) (evq_isi v0 hd isi_str_int) fun z => nomatch z) k
    | list ds => exact Evl.s_ret (v := .bl false) (Evl.ev_andV (a := false) (b := false) (evq_isi v0 hd isi_list_int) fun z => nomatch z) k
    | tuple ds => exact Evl.s_ret (v := .bl false) (Evl.ev_andV (a := false) (b := false) (evq_isi v0 hd isi_tuple_int) fun z => nomatch z) k
    | dict z' => exact Evl.s_ret (v := .bl false) (Evl.ev_andV (a := false) (b := false) (evq_isi v0 hd isi_dict_int) fun z => nomatch z) k
theorem ok_is_label {f : Addr} {fd : FuncData} (F : Fun K "is_label" "is_label" s_is_label f fd) (T : TxF mg) : FnOk P w K mg base CX0 1 f fd ["thing"] (spB K isL) := by
  refine F.ok sc_is_label (fun vs H Q E h => ?_) (fun cdv A outer s H vs Q E hr h => ?_)
  · obtain ⟨_, _, rfl, _⟩ := h
    rfl
  · obtain ⟨v, d, rfl, hd, k⟩ := h
    refine ⟨_, (pss_one (ps_ret (pe_callB call_isi (by rfl) T.m_isinstance (by decide +kernel) (pa_cons (pv 0) (pa_cons (pe_bltn (v := .ty "bool") (by rfl) T.m_bool (by decide +kernel) rfl) pa_nil))))), ?_⟩
    have v0 : Evl.Ev (tVar 0) (start sc_is_label_N [v]) H v := Evl.ev_var rfl
    cases d with
    | none => exact Evl.s_ret (evq_isi v0 hd isi_NoneType_bool) k
    | bool z => exact Evl.s_ret (evq_isi v0 hd isi_bool_bool) k
    | int z => exact Evl.s_ret (evq_isi v0 hd isi_int_bool) k
    | str z => exact Evl.s_ret (evq_isi v0 hd isi_str_bool) k
    | list ds => exact Evl.s_ret (evq_isi v0 hd isi_list_bool) k
    | tuple ds => exact Evl.s_ret (evq_isi v0 hd isi_tuple_bool) k
    | dict z => exact Evl.s_ret (evq_isi v0 hd isi_dict_bool) k
theorem ok_is_row {f : Addr} {fd : FuncData} (F : Fun K "is_row" "is_row" s_is_row f fd) (T : TxF mg) : FnOk P w K mg base CX0 1 f fd ["thing"] (spB K isR) := by
  refine F.ok sc_is_row (fun vs H Q E h => ?_) (fun cdv A outer s H vs Q E hr h => ?_)
  · obtain ⟨_, _, rfl, _⟩ := h
    rfl
  · obtain ⟨v, d, rfl, hd, k⟩ := h
    refine ⟨_, (pss_one (ps_ret (pe_callB call_isiT (by rfl) T.m_isinstance (by decide +kernel) (pa_cons (pv 0) (pa_cons (pe_tup (pa_cons (pe_bltn (v := .ty "list") (by rfl) T.m_list (by decide +kernel) rfl) (pa_cons (pe_bltn (v := .ty "tuple") (by rfl) T.m_tuple (by decide +kernel) rfl) pa_nil))) pa_nil))))), ?_⟩
    have v0 : Evl.Ev (tVar 0) (start sc_is_row_N [v]) H v := Evl.ev_var rfl
    cases d with
    | none => exact Evl.s_ret (evq_isi2 v0 hd isi_NoneType_list_tuple) k
    | bool z => exact Evl.s_ret (evq_isi2 v0 hd isi_bool_list_tuple) k
    | int z => exact Evl.s_ret (evq_isi2 v0 hd isi_int_list_tuple) k
    | str z => exact Evl.s_ret (evq_isi2 v0 hd isi_str_list_tuple) k
    | list ds => exact Evl.s_ret (evq_isi2 v0 hd isi_list_list_tuple) k
    | tuple ds => exact Evl.s_ret (evq_isi2 v0 hd isi_tuple_list_tuple) k
    | dict z => exact Evl.s_ret (evq_isi2 v0 hd isi_dict_list_tuple) k
theorem ok_is_number_of_places {f : Addr} {fd : FuncData} (F : Fun K "is_number_of_places" "is_number_of_places" s_is_number_of_places f fd) (T : TxF mg) (D_is_integer : DefAt P w K mg base "is_integer" 1 ["thing"] (spB K isI)) : FnOk P w K mg base CX0 2 f fd ["thing"] (spB K isN) := by
  refine F.ok sc_is_number_of_places (fun vs H Q E h => ?_) (fun cdv A outer s H vs Q E hr h => ?_)
  · obtain ⟨_, _, rfl, _⟩ := h
    rfl
  · obtain ⟨v, d, rfl, hd, k⟩ := h
    refine ⟨_, (pss_one (ps_ret (pe_and (pe_callD D_is_integer (by first | exact hr | exact hr.mono (by decide) | exact hr.mono (by omega)) (by rfl) (pa_cons (pv 0) pa_nil)) (pe_one (pe_chain op_le op_le (pe_glob (v := .int 1) (by rfl) T.c_LEAST_PLACES.choose_spec (by exact ⟨_, rfl⟩)) (pv 0) (pe_glob (v := .int 3) (by rfl) T.c_MOST_PLACES.choose_spec (by exact ⟨_, rfl⟩))))))), ?_⟩
    have v0 : Evl.Ev (tVar 0) (start sc_is_number_of_places_N [v]) H v := Evl.ev_var rfl
    have e : isI d = true → ∃ i, d = .int i := fun z => by
      cases d <;> first | exact ⟨_, rfl⟩ | cases z
    have q : (isI d && isN d) = isN d := by
      cases d <;> rfl
    refine Evl.s_ret (v := .bl (isN d)) (Evl.ev_is (Evl.ev_andV (a := isI d) (b := isN d) (ev_spBq v0 hd) fun z => ?_) (congrArg V.bl q)) k
    obtain ⟨i, rfl⟩ := e z
    cases hd
    refine ev_chain (k := decide (1 ≤ i)) Evl.ev_c v0 (Evl.rv_I0 (g := fun a b => .bl (decide (a ≤ b)))) (fun _ => Evl.ev_c) (fun _ => ?_) (fun z => ?_)
    · have e : (isN (.int i)) = decide (i ≤ 3) := by
        show (decide (1 ≤ i) && decide (i ≤ 3)) = _
        rw [‹decide (1 ≤ i) = true›]
        rfl
      rw [e]
      exact Evl.rv_I0 (g := fun a b => .bl (decide (a ≤ b)))
    · show (decide (1 ≤ i) && decide (i ≤ 3)) = false
      rw [z]
      rfl
theorem ok_is_row_of {f : Addr} {fd : FuncData} (F : Fun K "is_row_of" "is_row_of" s_is_row_of f fd) (T : TxF mg) (D_is_row : DefAt P w K mg base "is_row" 1 ["thing"] (spB K isR)) : FnOk P w K mg base CX0 2 f fd ["thing", "many"] (spBp K isO) := by
  refine F.ok sc_is_row_of (fun vs H Q E h => ?_) (fun cdv A outer s H vs Q E hr h => ?_)
  · obtain ⟨_, _, _, rfl, _⟩ := h
    rfl
  · obtain ⟨v, d, p, rfl, hd, hw, k⟩ := h
    refine ⟨_, (pss_one (ps_ret (pe_and (pe_callD D_is_row (by first | exact hr | exact hr.mono (by decide) | exact hr.mono (by omega)) (by rfl) (pa_cons (pv 0) pa_nil)) (pe_one (pe_cmpR op_eq (pe_callB call_len_seq (by rfl) T.m_len (by decide +kernel) (pa_cons (pv 0) pa_nil)) (pv 1) (nomark _)))))), ?_⟩
    have v0 : Evl.Ev (tVar 0) (start sc_is_row_of_N [v, .int p]) H v := Evl.ev_var rfl
    have v1 : Evl.Ev (tVar 1) (start sc_is_row_of_N [v, .int p]) H (.int p) := Evl.ev_var rfl
    have q : (isR d && isO p d) = isO p d := by
      cases d <;> rfl
    refine Evl.s_ret (v := .bl (isO p d)) (Evl.ev_is (Evl.ev_andV (a := isR d) (b := isO p d) (ev_spBq v0 hd) fun z => ?_) (congrArg V.bl q)) k
    have main : ∀ (a : Addr) (xs : List V) (ds : List PyData), v = .ref a → (SqL K H a xs ∨ SqT K H a xs) → DqAll K H xs ds → Evl.Ev (tOp rEq (tCB (fun xs H Q => ∃ p ys, xs = [V.ref p] ∧ (SqL K H p ys ∨ SqT K H p ys) ∧ Q (.int ys.length) H) (tCons (tVar 0) tNil)) (tVar 1)) (start sc_is_row_of_N [v, .int p]) H (.bl (decide ((ds.length : Int) = p))) := by
      rintro a xs ds rfl hx ha
      have hlen := dqa_len ha
      refine Evl.ev_is (Evl.ev_op (ev_lenS v0 hx) v1 (Evl.rv_eq rfl)) ?_
      rw [hlen]
      exact congrArg V.bl (by simp)
    cases d with
    | list ds =>
      cases hd with
      | lst hs ha => exact main _ _ ds rfl (.inl hs) ha
    | tuple ds =>
      cases hd with
      | tup hs ha => exact main _ _ ds rfl (.inr hs) ha
    | _ => cases z
theorem ok_is_point {f : Addr} {fd : FuncData} (F : Fun K "is_point" "is_point" s_is_point f fd) (T : TxF mg) (D_is_integer : DefAt P w K mg base "is_integer" 1 ["thing"] (spB K isI)) (D_is_row_of : DefAt P w K mg base "is_row_of" 2 ["thing", "many"] (spBp K isO)) : FnOk P w K mg base CX0 3 f fd ["thing", "places"] (spBp K isP) := by
  refine F.ok sc_is_point (fun vs H Q E h => ?_) (fun cdv A outer s H vs Q E hr h => ?_)
  · obtain ⟨_, _, _, rfl, _⟩ := h
    rfl
  · obtain ⟨v, d, p, rfl, hd, hw, k⟩ := h
    refine ⟨_, (pss_one (ps_ret (pe_and (pe_callD D_is_row_of (by first | exact hr | exact hr.mono (by decide) | exact hr.mono (by omega)) (by rfl) (pa_cons (pv 0) (pa_cons (pv 1) pa_nil))) (pe_one (pe_callB (cr_all rfl) (by rfl) T.m_all (by decide +kernel) (pa_cons (pe_lc (own := [("entry", 2)]) (g := gName 2) (tt := tYes) (by rfl) sc_is_point.nd (pi_seq (pv 0)) (blkOk_by (N := sc_is_point_N) (sc := defScope s_is_point) (by decide +kernel)) (fun _ _ _ _ _ => (pg_name (i := 2) sc_is_point.nd rfl (by first | exact Or.inl rfl | exact Or.inr rfl))) (fun _ _ _ _ _ => pts_nil) (fun _ _ _ _ _ => (pe_callD D_is_integer (by first | exact hr | exact hr.mono (by decide) | exact hr.mono (by omega)) (by rfl) (pa_cons (pv 2) pa_nil)))) pa_nil)))))), ?_⟩
    have v0 : Evl.Ev (tVar 0) (start sc_is_point_N [v, .int p]) H v := Evl.ev_var rfl
    have v1 : Evl.Ev (tVar 1) (start sc_is_point_N [v, .int p]) H (.int p) := Evl.ev_var rfl
    have q : (isO p d && isP p d) = isP p d := by
      exact isP_two
    refine Evl.s_ret (v := .bl (isP p d)) (Evl.ev_is (Evl.ev_andV (a := isO p d) (b := isP p d) (ev_spBpq v0 v1 hd hw) fun z => ?_) (congrArg V.bl q)) k
    have main : ∀ (a : Addr) (xs : List V) (ds : List PyData), v = .ref a → (SqL K H a xs ∨ SqT K H a xs) → DqAll K H xs ds → ds.length ≤ 40000 → (ds.length : Int) = p → Evl.Ev (tCB (rAll K) (tCons (tLc (iSeq K (tVar 0)) (gName 2) tYes (tCallD (spB K isI) (tCons (tVar 2) tNil)) [2]) tNil)) (start sc_is_point_N [v, .int p]) H (.bl (decide ((ds.length : Int) = p) && ds.all isI)) := by
      rintro a xs ds rfl hx ha hz he
      refine Evl.ev_is (ev_all (bs := ds.map isI) ?_) (congrArg V.bl (by simp [he]))
      exact el_seqBq v0 hx ha hz (fun _ => rfl) (fun x d H1 _ e1 hd' => ev_spBq (Evl.ev_var rfl) hd')
    cases d with
    | list ds =>
      cases hd with
      | lst hs ha => exact main _ _ ds rfl (.inl hs) ha (fits_len (.inl hw)) (of_decide_eq_true z)
    | tuple ds =>
      cases hd with
      | tup hs ha => exact main _ _ ds rfl (.inr hs) ha (fits_len (.inr hw)) (of_decide_eq_true z)
    | _ => cases z
theorem ok_is_example {f : Addr} {fd : FuncData} (F : Fun K "is_example" "is_example" s_is_example f fd) (T : TxF mg) (D_is_row_of : DefAt P w K mg base "is_row_of" 2 ["thing", "many"] (spBp K isO)) (D_is_point : DefAt P w K mg base "is_point" 3 ["thing", "places"] (spBp K isP)) (D_is_label : DefAt P w K mg base "is_label" 1 ["thing"] (spB K isL)) : FnOk P w K mg base CX0 4 f fd ["thing", "places"] (spBp K isX) := by
  refine F.ok sc_is_example (fun vs H Q E h => ?_) (fun cdv A outer s H vs Q E hr h => ?_)
  · obtain ⟨_, _, _, rfl, _⟩ := h
    rfl
  · obtain ⟨v, d, p, rfl, hd, hw, k⟩ := h
    refine ⟨_, (pss_one (ps_ret (pe_and (pe_callD D_is_row_of (by first | exact hr | exact hr.mono (by decide) | exact hr.mono (by omega)) (by rfl) (pa_cons (pv 0) (pa_cons pe_int pa_nil))) (pe_and (pe_callD D_is_point (by first | exact hr | exact hr.mono (by decide) | exact hr.mono (by omega)) (by rfl) (pa_cons (pe_ix ix_seq (pv 0) pe_int (fun _ _ => rfl)) (pa_cons (pv 1) pa_nil))) (pe_one (pe_callD D_is_label (by first | exact hr | exact hr.mono (by decide) | exact hr.mono (by omega)) (by rfl) (pa_cons (pe_ix ix_seq (pv 0) pe_int (fun _ _ => rfl)) pa_nil))))))), ?_⟩
    have v0 : Evl.Ev (tVar 0) (start sc_is_example_N [v, .int p]) H v := Evl.ev_var rfl
    have v1 : Evl.Ev (tVar 1) (start sc_is_example_N [v, .int p]) H (.int p) := Evl.ev_var rfl
    have q : (isO 2 d && isX p d) = isX p d := by
      cases d with
      | list ds => exact isX_two (.inl rfl)
      | tuple ds => exact isX_two (.inr rfl)
      | _ => rfl
    refine Evl.s_ret (v := .bl (isX p d)) (Evl.ev_is (Evl.ev_andV (a := isO 2 d) (b := isX p d) (ev_spBpq v0 Evl.ev_c hd hw) fun z => ?_) (congrArg V.bl q)) k
    have main : ∀ (a : Addr) (xs : List V) (ds : List PyData), v = .ref a → (SqL K H a xs ∨ SqT K H a xs) → DqAll K H xs ds → ds.length = 2 → (∀ a b, ds = [a, b] → isX p d = (isP p a && isL b)) → (∀ a b, ds = [a, b] → ∃ n, fits n a) →
        Evl.Ev (tAndV (tCallD (spBp K isP) (tCons (tOp (rIxA K) (tVar 0) (tC (.int 0))) (tCons (tVar 1) tNil))) (tCallD (spB K isL) (tCons (tOp (rIxA K) (tVar 0) (tC (.int 1))) tNil))) (start sc_is_example_N [v, .int p]) H (.bl (isX p d)) := by
      rintro a xs ds rfl hx ha h2 q2 qw
      obtain ⟨d1, d2, e⟩ : ∃ d1 d2, ds = [d1, d2] := by
        match ds, h2 with
        | [a, b], _ => exact ⟨a, b, rfl⟩
      subst e
      cases ha with
      | @cons x1 _ _ _ g1 hr =>
        cases hr with
        | @cons x2 _ _ _ g2 hr2 =>
          cases hr2
          have i0 : atI [x1, x2] 0 = some x1 := rfl
          have i1 : atI [x1, x2] 1 = some x2 := rfl
          rw [q2 d1 d2 rfl]
          exact Evl.ev_andV (ev_spBpq (ev_ixA v0 hx i0) v1 g1 (qw d1 d2 rfl)) fun _ => ev_spBq (ev_ixA v0 hx i1) g2
    cases d with
    | list ds =>
      have h2 : ds.length = 2 := by have := of_decide_eq_true z; omega
      cases hd with
      | lst hs ha => exact main _ _ ds rfl (.inl hs) ha h2 (fun a b e => by rw [e]; rfl) (fun a b e => fits_in (.inl hw) (by rw [e]; simp))
    | tuple ds =>
      have h2 : ds.length = 2 := by have := of_decide_eq_true z; omega
      cases hd with
      | tup hs ha => exact main _ _ ds rfl (.inr hs) ha h2 (fun a b e => by rw [e]; rfl) (fun a b e => fits_in (.inr hw) (by rw [e]; simp))
    | _ => cases z
/-- a row: some whole numbers and a label -/
def rowD (ns : List Int) (b : Bool) : PyData := .tuple [.tuple (ns.map .int), .bool b]
def Rw (p : Int) (d : PyData) : Prop := ∃ ns b, d = rowD ns b ∧ (ns.length : Int) = p ∧ ns.length ≤ 3
theorem rw_isX {p : Int} {d : PyData} (h : Rw p d) : isX p d = true := by
  obtain ⟨ns, b, rfl, h1, h2⟩ := h
  show (decide (((ns.map PyData.int).length : Int) = p) && (ns.map PyData.int).all isI && true) = true
  rw [List.length_map, h1]
  simp [isI]
theorem rw_fits {p : Int} {d : PyData} (h : Rw p d) : fits 2 d := by
  obtain ⟨ns, b, rfl, h1, h2⟩ := h
  refine ⟨by show 2 ≤ 40000; omega, fun e he => ?_⟩
  rcases List.mem_cons.mp he with z | z
  · subst z
    refine ⟨by rw [List.length_map]; omega, fun e he => ?_⟩
    obtain ⟨i, _, rfl⟩ := List.mem_map.mp he
    trivial
  · rcases List.mem_cons.mp z with z | z
    · subst z
      trivial
    · cases z
def spCopy (K : PySem.W.Frag) : Sp := fun vs H Q _ => ∃ v p d L, vs = [v] ∧ Hid L H ∧ Dp K (W L H) v d ∧ Rw p d ∧ ∀ v' H', Ex H H' → Dp K (W L H') v' d → Q v' H'
theorem ok_copied_example {f : Addr} {fd : FuncData} (F : Fun K "copied_example" "copied_example" s_copied_example f fd) (T : TxF mg) : FnOk P w K mg base CX0 1 f fd ["example"] (spCopy K) := by
  refine F.ok sc_copied_example (fun vs H Q E h => ?_) (fun cdv A outer s H vs Q E hr h => ?_)
  · obtain ⟨_, _, _, _, rfl, _⟩ := h
    rfl
  · obtain ⟨v, p, d, L, rfl, hL, hd, hrw, k⟩ := h
    refine ⟨_, (pss_cons (ps_asg (pv 0) (pg_tup (by rfl) (pgs_cons (pg_name (i := 1) sc_copied_example.nd rfl (by first | exact Or.inl rfl | exact Or.inr rfl)) (pgs_cons (pg_name (i := 2) sc_copied_example.nd rfl (by first | exact Or.inl rfl | exact Or.inr rfl)) pgs_nil))))
    (pss_one (ps_ret (pe_tup (pa_cons (pe_callTy call_tuple_of (by rfl) T.m_tuple (by decide +kernel) (pa_cons (pv 1) pa_nil)) (pa_cons (pv 2) pa_nil)))))), ?_⟩
    obtain ⟨ns, b, rfl, h1, h2⟩ := hrw
    cases hd with
    | @tup a ys _ hs ha =>
      cases ha with
      | @cons x1 us1 _ _ r1 rr =>
        cases rr with
        | @cons x2 us2 _ _ r2 rr2 =>
          cases rr2
          refine ⟨_, rfl, a, [x1, x2], rfl, Evl.ex_t w_sub hs, rfl, x1, [x2], rfl, x2, [], rfl, rfl, ?_⟩
          refine d_ret (K := K) (L := L) (d := rowD ns b) (evd_tup hL (evds_cons (evd_tupD (ds := ns.map .int) (Evl.ev_var rfl) (.inr r1) hL) (evds_cons (evd_var rfl r2) evds_nil)) (by show 2 ≤ 100000; omega)) (fun v' H' e hv => k v' H' e hv)
theorem ok_is_index_below {f : Addr} {fd : FuncData} (F : Fun K "is_index_below" "is_index_below" s_is_index_below f fd) (T : TxF mg) (D_is_integer : DefAt P w K mg base "is_integer" 1 ["thing"] (spB K isI)) : FnOk P w K mg base CX0 2 f fd ["thing", "many"] (spBp K isIx) := by
  refine F.ok sc_is_index_below (fun vs H Q E h => ?_) (fun cdv A outer s H vs Q E hr h => ?_)
  · obtain ⟨_, _, _, rfl, _⟩ := h
    rfl
  · obtain ⟨v, d, p, rfl, hd, hw, k⟩ := h
    refine ⟨_, (pss_one (ps_ret (pe_and (pe_callD D_is_integer (by first | exact hr | exact hr.mono (by decide) | exact hr.mono (by omega)) (by rfl) (pa_cons (pv 0) pa_nil)) (pe_one (pe_chain op_le op_lt pe_int (pv 0) (pv 1)))))), ?_⟩
    have v0 : Evl.Ev (tVar 0) (start sc_is_index_below_N [v, .int p]) H v := Evl.ev_var rfl
    have v1 : Evl.Ev (tVar 1) (start sc_is_index_below_N [v, .int p]) H (.int p) := Evl.ev_var rfl
    have e : isI d = true → ∃ i, d = .int i := fun z => by
      cases d <;> first | exact ⟨_, rfl⟩ | cases z
    have q : (isI d && isIx p d) = isIx p d := by
      cases d <;> rfl
    refine Evl.s_ret (v := .bl (isIx p d)) (Evl.ev_is (Evl.ev_andV (a := isI d) (b := isIx p d) (ev_spBq v0 hd) fun z => ?_) (congrArg V.bl q)) k
    obtain ⟨i, rfl⟩ := e z
    cases hd
    refine ev_chain (k := decide (0 ≤ i)) Evl.ev_c v0 (Evl.rv_I0 (g := fun a b => .bl (decide (a ≤ b)))) (fun _ => v1) (fun _ => ?_) (fun z => ?_)
    · have e : (isIx p (.int i)) = decide (i < p) := by
        show (decide (0 ≤ i) && decide (i < p)) = _
        rw [‹decide (0 ≤ i) = true›]
        rfl
      rw [e]
      exact Evl.rv_I0 (g := fun a b => .bl (decide (a < b)))
    · show (decide (0 ≤ i) && decide (i < p)) = false
      rw [z]
      rfl
end
end U

set_option Elab.async false
set_option linter.all false
set_option maxRecDepth 100000
set_option maxHeartbeats 4000000
namespace U
open PySem PySem.Spec PyProof.Rows L2
open Evl (Ex)
abbrev s_Sample_init : Stmt := inClass (top 20) 0
abbrev sc_Sample_init_N : List Str := ["self", "places", "examples", "index", "thing", "example"]
theorem sc_Sample_init : FnScope sc_Sample_init_N ["self", "places", "examples"] (defScope s_Sample_init) := ⟨rfl, rfl, rfl, by decide +kernel, rfl, by decide +kernel, by decide +kernel⟩
abbrev s_Sample_examples : Stmt := inClass (top 20) 1
abbrev sc_Sample_examples_N : List Str := ["self"]
theorem sc_Sample_examples : FnScope sc_Sample_examples_N ["self"] (defScope s_Sample_examples) := ⟨rfl, rfl, rfl, by decide +kernel, rfl, by decide +kernel, by decide +kernel⟩
abbrev s_Sample_checked : Stmt := inClass (top 20) 6
abbrev sc_Sample_checked_N : List Str := ["self", "indexes", "checked", "thing"]
theorem sc_Sample_checked : FnScope sc_Sample_checked_N ["self", "indexes"] (defScope s_Sample_checked) := ⟨rfl, rfl, rfl, by decide +kernel, rfl, by decide +kernel, by decide +kernel⟩
abbrev s_Sample_part : Stmt := inClass (top 20) 2
abbrev sc_Sample_part_N : List Str := ["self", "indexes", "chosen", "index", "pair"]
theorem sc_Sample_part : FnScope sc_Sample_part_N ["self", "indexes"] (defScope s_Sample_part) := ⟨rfl, rfl, rfl, by decide +kernel, rfl, by decide +kernel, by decide +kernel⟩
abbrev s_Sample_without : Stmt := inClass (top 20) 3
abbrev sc_Sample_without_N : List Str := ["self", "indexes", "dropped", "index", "pair"]
theorem sc_Sample_without : FnScope sc_Sample_without_N ["self", "indexes"] (defScope s_Sample_without) := ⟨rfl, rfl, rfl, by decide +kernel, rfl, by decide +kernel, by decide +kernel⟩
abbrev s_Sample_turned : Stmt := inClass (top 20) 4
abbrev sc_Sample_turned_N : List Str := ["self", "point", "label"]
theorem sc_Sample_turned : FnScope sc_Sample_turned_N ["self"] (defScope s_Sample_turned) := ⟨rfl, rfl, rfl, by decide +kernel, rfl, by decide +kernel, by decide +kernel⟩
abbrev s_Sample_add : Stmt := inClass (top 20) 10
abbrev sc_Sample_add_N : List Str := ["self", "other"]
theorem sc_Sample_add : FnScope sc_Sample_add_N ["self", "other"] (defScope s_Sample_add) := ⟨rfl, rfl, rfl, by decide +kernel, rfl, by decide +kernel, by decide +kernel⟩
abbrev s_Sample_eq : Stmt := inClass (top 20) 11
abbrev sc_Sample_eq_N : List Str := ["self", "other"]
theorem sc_Sample_eq : FnScope sc_Sample_eq_N ["self", "other"] (defScope s_Sample_eq) := ⟨rfl, rfl, rfl, by decide +kernel, rfl, by decide +kernel, by decide +kernel⟩
/-- at x an instance of C: p places, the rows ds -/
def Smp (K : PySem.W.Frag) (L : List Addr) (H : Hp) (x C : Addr) (p : Int) (ds : List PyData) : Prop := ∃ dx v, H x = some (.ins C dx [("places", .int p), ("_pairs", v)]) ∧ Dp K (W L H) v (.tuple ds)
structure SmpC (K : PySem.W.Frag) (C : Addr) : Prop where
  cl : Cls K C
  nP : NoAttr K C "places"
  nQ : NoAttr K C "_pairs"
  kS : PySem.W.kitOne K (.ref C) (.ref C) = some true
  ha : PySem.W.findIn K (.ref C) "__class__" = some (some (.builtin "object.__class__"))
  hn : PySem.W.specialIn K (.builtin "object.__class__") "__get__" = some (some (.builtin "getset_descriptor.__get__"))
  htk : PySem.W.takesIn K (.builtin "object.__class__") = some true
  hm : PySem.W.mroIn K C (.type "object") = some true
/-- an error class without attributes -/
structure UnC (K : PySem.W.Frag) (mg : Str → Option Value) (U : Addr) : Prop where
  gU : mg "UnlikePlaces" = some (.ref U)
  xU : PySem.W.excIn K U [.type "ValueError", .type "Exception", .type "BaseException", .type "object"] "ValueError.__new__" = true
  kU : PySem.W.keepIn K (.ref U) = true
  bU : PySem.W.subIn K (.ref U) (.type "BaseException") = some true
  tU : PySem.W.typeIn K (.ref U) = some (.type "type")
  sU : PySem.W.subIn K (.ref U) (.ref U) = some true
  iU : (PySem.W.clsIn K U).isSome = true
def Rws (p : Int) (ds : List PyData) : Prop := ds.length ≤ 20000 ∧ ∀ d ∈ ds, Rw p d
theorem Rws.fit {p : Int} {ds : List PyData} (h : Rws p ds) : fits 3 (.list ds) ∧ fits 3 (.tuple ds) := ⟨⟨by have := h.1; omega, fun d hd => rw_fits (h.2 d hd)⟩, ⟨by have := h.1; omega, fun d hd => rw_fits (h.2 d hd)⟩⟩
theorem Rws.sel {p : Int} {ds : List PyData} {c : Nat → Bool} (h : Rws p ds) : Rws p (sel c ds ds.length) := ⟨Nat.le_trans (sel_len _) h.1, fun d hd => h.2 d (sel_mem hd)⟩
def flip1 : PyData → PyData
  | .tuple [a, .bool b] => .tuple [a, .bool (!b)]
  | d => d
theorem Rws.flip {p : Int} {ds : List PyData} (h : Rws p ds) : Rws p (ds.map flip1) := ⟨by rw [List.length_map]; exact h.1, fun d hd => by
  obtain ⟨e, he, rfl⟩ := List.mem_map.mp hd
  obtain ⟨ns, b, rfl, h1, h2⟩ := h.2 e he
  exact ⟨ns, !b, rfl, h1, h2⟩⟩
theorem Rws.app {p : Int} {ds es : List PyData} (h : Rws p ds) (h2 : Rws p es) (hz : ds.length + es.length ≤ 20000) : Rws p (ds ++ es) := ⟨by rw [List.length_append]; exact hz, fun d hd => (List.mem_append.mp hd).elim (h.2 d) (h2.2 d)⟩
def spInit (K : PySem.W.Frag) (C : Addr) : Sp := fun vs H Q _ => ∃ x dx v p ds L, vs = [.ref x, .int p, v] ∧ H x = some (.ins C dx []) ∧ 1 ≤ p ∧ p ≤ 3 ∧ Hid (x :: L) H ∧ (Dp K (W (x :: L) H) v (.list ds) ∨ Dp K (W (x :: L) H) v (.tuple ds)) ∧ Rws p ds ∧
  ∀ H', (∀ a o, a ≠ x → H a = some o → H' a = some o) → Smp K (x :: L) H' x C p ds → Q .non H'
def spExamples (K : PySem.W.Frag) (C : Addr) : Sp := fun vs H Q _ => ∃ x p ds L, vs = [.ref x] ∧ Hid L H ∧ Smp K L H x C p ds ∧ ∀ t H', H t = none → Ex H H' → Gr K L H' t ds → Q (.ref t) H'
def Idx (K : PySem.W.Frag) (H : Hp) (a : Addr) (ns : List Int) (n : Nat) : Prop := (SqL K H a (ns.map .int) ∨ SqT K H a (ns.map .int)) ∧ ns.Nodup ∧ (∀ i ∈ ns, 0 ≤ i ∧ i < (n : Int)) ∧ ns.length ≤ 20000
def spChecked (K : PySem.W.Frag) (C : Addr) : Sp := fun vs H Q _ => ∃ x a p ds ns L, vs = [.ref x, .ref a] ∧ Smp K L H x C p ds ∧ Rws p ds ∧ Idx K H a ns ds.length ∧ ∀ t H', H t = none → Ex H H' → H' t = some (.lst (ns.map .int)) → Q (.ref t) H'
def spPart (K : PySem.W.Frag) (C : Addr) (c : List Int → Nat → Bool) : Sp := fun vs H Q _ => ∃ x a p ds ns L, vs = [.ref x, .ref a] ∧ Hid L H ∧ Smp K L H x C p ds ∧ 1 ≤ p ∧ p ≤ 3 ∧ Rws p ds ∧ Idx K H a ns ds.length ∧ ∀ y H', Ex H H' → Smp K L H' y C p (sel (c ns) ds ds.length) → Q (.ref y) H'
def spTurned (K : PySem.W.Frag) (C : Addr) : Sp := fun vs H Q _ => ∃ x p ds L, vs = [.ref x] ∧ Hid L H ∧ Smp K L H x C p ds ∧ 1 ≤ p ∧ p ≤ 3 ∧ Rws p ds ∧ ∀ y H', Ex H H' → Smp K L H' y C p (ds.map flip1) → Q (.ref y) H'
def spAdd (K : PySem.W.Frag) (C U : Addr) : Sp := fun vs H Q E => ∃ x y p q ds es L, vs = [.ref x, .ref y] ∧ Hid L H ∧ Smp K L H x C p ds ∧ Smp K L H y C q es ∧ 1 ≤ p ∧ p ≤ 3 ∧ Rws p ds ∧ Rws q es ∧ ds.length + es.length ≤ 20000 ∧
  (p = q → ∀ z H', Ex H H' → Smp K L H' z C p (ds ++ es) → Q (.ref z) H') ∧ (p ≠ q → ∀ H', Ex H H' → E (.ref U) none H')
section
variable {P : Program} {w : World} {K : PySem.W.Frag} {mg : Str → Option Value} {base : Heap} {C : Addr}
theorem funD_ok0 {x qual : Str} {params : Arguments} {body : List Stmt} {scope : Scope} {dvs : List V} {kws : List (Str × V)} {f : Addr} {fd : FuncData} {N ps : List Str} {k : Nat} {sp : Sp} (F : FunD K x qual params body scope dvs kws f fd) (S : FnScope N ps scope) (len : ∀ vs H Q E, sp vs H Q E → vs.length = ps.length)
    (hbody : ∀ (cdv : Value) (A : Around) (outer : List Env) (s : Shared) (H : Hp) (vs : List V) (Q : VK) (E : XK), Room k (A.deeper (envOfC qual scope s.heap.objs.size f cdv)) → sp vs H Q E →
      ∃ t, PSs (cxOf CX0 P w K mg base N qual scope f cdv A outer s H E).nox body t ∧ t { nx := fun _ H' => Q .non H', rt := Q } (start N vs) H) : FnOk P w K mg base CX0 (k + 1) f fd ps sp :=
  F.ok S len fun cdv A outer s H vs Q E hr h => by
    obtain ⟨t, h1, h2⟩ := hbody cdv A outer s H vs Q E hr h
    exact ⟨t, h1.nox, h2⟩
theorem ev_spCopy {L : List Addr} {σ : L2.St} {H : Hp} {te : TE} {v : V} {d : PyData} {p : Int} (h : Evl.Ev te σ H v) (hL : Hid L H) (hd : Dp K (W L H) v d) (hr : Rw p d) : EvD K L (tCallD (spCopy K) (tCons te tNil)) σ H d := fun H1 e Q q =>
  h H1 e _ fun H2 e2 => ⟨v, p, d, L, rfl, hid_ex (e.trans e2) hL, hd.up (w_ex (e.trans e2)), hr, fun v' H' e' hv => q v' H' (e2.trans e') hv⟩
theorem Smp.up {L : List Addr} {H H' : Hp} {x : Addr} {p : Int} {ds : List PyData} (h : Smp K L H x C p ds) (e : Ex H H') : Smp K L H' x C p ds := by
  obtain ⟨dx, v, h1, h2⟩ := h
  exact ⟨dx, v, e _ _ h1, h2.up (w_ex e)⟩
theorem Smp.low {L L2 : List Addr} {H : Hp} {x : Addr} {p : Int} {ds : List PyData} (h : Smp K L2 H x C p ds) (s : ∀ a ∈ L, a ∈ L2) : Smp K L H x C p ds := by
  obtain ⟨dx, v, h1, h2⟩ := h
  exact ⟨dx, v, h1, h2.up (w_sub2 s)⟩
theorem sfld_run {ta tv : TE} {f : Str} {D : Ends} {σ : L2.St} {H : Hp} (h : tv σ H fun y H1 => ta σ H1 fun x H2 => ∃ a C dx fs, x = .ref a ∧ H2 a = some (.ins C dx fs) ∧ Cls K C ∧ NoAttr K C f ∧ fs.length < 1000 ∧ D.nx σ (upd H2 a (.ins C dx (putF f y fs)))) : sFld K ta tv f D σ H := h
theorem ok_Sinit {f : Addr} {fd : FuncData} {T0 : Addr} (F : FunD K "__init__" "Sample.__init__" (defArgs s_Sample_init) (defBody s_Sample_init) (defScope s_Sample_init) [.ref T0] [] f fd) (T : TxF mg) (S : SmpC K C)
    (D_is_number_of_places : DefAt P w K mg base "is_number_of_places" 2 ["thing"] (spB K isN)) (D_is_row : DefAt P w K mg base "is_row" 1 ["thing"] (spB K isR)) (D_is_example : DefAt P w K mg base "is_example" 4 ["thing", "places"] (spBp K isX))
    (D_copied_example : DefAt P w K mg base "copied_example" 1 ["example"] (spCopy K)) : FnOk P w K mg base CX0 5 f fd ["self", "places", "examples"] (spInit K C) := by
  refine funD_ok0 F sc_Sample_init (fun vs H Q E h => ?_) (fun cdv A outer s H vs Q E hr h => ?_)
  · obtain ⟨_, _, _, _, _, _, rfl, _⟩ := h
    rfl
  · obtain ⟨x, dx, v, p, ds, L, rfl, hx, p1, p3, hL, hd, hR, k⟩ := h
    refine ⟨_, (pss_cons (ps_if (pt_not (pt_val (pe_callD D_is_number_of_places (by first | exact hr | exact hr.mono (by decide) | exact hr.mono (by omega)) (by rfl) (pa_cons (pv 1) pa_nil)))) (pss_one ps_never) pss_nil)
    (pss_cons (ps_if (pt_not (pt_val (pe_callD D_is_row (by first | exact hr | exact hr.mono (by decide) | exact hr.mono (by omega)) (by rfl) (pa_cons (pv 2) pa_nil)))) (pss_one ps_never) pss_nil)
    (pss_cons (ps_for PassesOwn.never rfl (pi_enumA (by rfl) T.m_enumerate (pa_cons (pv 2) pa_nil)) (pg_tup (by rfl) (pgs_cons (pg_name (i := 3) sc_Sample_init.nd rfl (by first | exact Or.inl rfl | exact Or.inr rfl)) (pgs_cons (pg_name (i := 4) sc_Sample_init.nd rfl (by first | exact Or.inl rfl | exact Or.inr rfl)) pgs_nil)))
      (pss_one (ps_if (pt_not (pt_val (pe_callD D_is_example (by first | exact hr | exact hr.mono (by decide) | exact hr.mono (by omega)) (by rfl) (pa_cons (pv 4) (pa_cons (pv 1) pa_nil))))) (pss_one ps_never) pss_nil)))
    (pss_cons (ps_fld (pv 0) (pv 1) rfl)
    (pss_one (ps_fld (pv 0) (pe_callTy call_tuple_of (by rfl) T.m_tuple (by decide +kernel) (pa_cons (pe_lc (own := [("example", 5)]) (g := gName 5) (tt := tYes) (by rfl) sc_Sample_init.nd (pi_seq (pv 2)) (blkOk_by (N := sc_Sample_init_N) (sc := defScope s_Sample_init) (by decide +kernel)) (fun _ _ _ _ _ => (pg_name (i := 5) sc_Sample_init.nd rfl (by first | exact Or.inl rfl | exact Or.inr rfl))) (fun _ _ _ _ _ => pts_nil) (fun _ _ _ _ _ => (pe_callD D_copied_example (by first | exact hr | exact hr.mono (by decide) | exact hr.mono (by omega)) (by rfl) (pa_cons (pv 5) pa_nil)))) pa_nil)) rfl)))))), ?_⟩
    have v1 : Evl.Ev (tVar 1) (start sc_Sample_init_N [.ref x, .int p, v]) H (.int p) := Evl.ev_var rfl
    have v2 : Evl.Ev (tVar 2) (start sc_Sample_init_N [.ref x, .int p, v]) H v := Evl.ev_var rfl
    have hN : isN (.int p) = true := by
      show (decide (1 ≤ p) && decide (p ≤ 3)) = true
      simp [p1, p3]
    obtain ⟨d0, hd0, hR0⟩ : ∃ d0, Dp K H v d0 ∧ isR d0 = true := hd.elim (fun z => ⟨_, z.up w_sub, rfl⟩) fun z => ⟨_, z.up w_sub, rfl⟩
    refine Evl.q_when (b := false) (Evl.et_is (Evl.et_not (Evl.et_B (ev_spB v1 (.int p)))) (by rw [hN]; rfl)) (fun z => by cases z) (fun _ H1 e1 => ?_)
    refine Evl.q_when (b := false) (Evl.et_is (Evl.et_not (Evl.et_B (ev_spB (v2.mono e1) (hd0.up e1)))) (by rw [hR0]; rfl)) (fun z => by cases z) (fun _ H2 e2 => ?_)
    have e12 := e1.trans e2
    obtain ⟨a, xs, rfl, hs, ha⟩ : ∃ a xs, v = .ref a ∧ (SqL K (W (x :: L) H) a xs ∨ SqT K (W (x :: L) H) a xs) ∧ DpAll K (W (x :: L) H) xs ds := by
      rcases hd with hd | hd
      · cases hd with
        | lst hs ha => exact ⟨_, _, rfl, .inl hs, ha⟩
      · cases hd with
        | tup hs ha => exact ⟨_, _, rfl, .inr hs, ha⟩
    have hs' : SqL K H a xs ∨ SqT K H a xs := hs.imp (Evl.ex_l w_sub) (Evl.ex_t w_sub)
    have hlen := dpa_len ha
    let Pv : Nat → L2.St → Hp → Prop := fun _ σ' H' => Ex H H' ∧ ∃ s3 s4, σ' = [some (.ref x), some (.int p), some (.ref a), s3, s4, none]
    have turn : ∀ (i : Nat) (y : V) (σ' : L2.St) (H3 H4 : Hp) (D : Ends) (u : TS), i < xs.length → Pv i σ' H3 → YPair (fun i => some (.int (i : Nat))) (fun i => xs[i]?) i H3 y H4 → gTup K 2 (gCons (gName 3) (gCons (gName 4) gNil)) y σ' H4 fun σ2 H5 =>
        tIfS (tNot (tB (tCallD (spBp K isX) (tCons (tVar 4) (tCons (tVar 1) tNil))))) tNever tNext { D with nx := Pv (i + 1), ct := Pv (i + 1), bk := D.nx } σ2 H5 := by
      intro i y σ' H3 H4 D u hi pv yp
      obtain ⟨e3, s3, s4, rfl⟩ := pv
      obtain ⟨Tt, u1, u2, rfl, hT, rfl, hu1, hu2⟩ := yp
      have hu2' : xs[i]? = some u2 := hu2
      obtain ⟨d, hd1, hd2⟩ := dpa_get ha hu2'
      have hrw := hR.2 d (List.mem_of_getElem? hd1)
      refine ⟨Tt, [u1, u2], rfl, SqT.of upd_same, rfl, u1, [u2], rfl, u2, [], rfl, rfl, ?_⟩
      have e4 := e3.trans (Ex.new (o := .tup [u1, u2]) hT)
      refine Evl.s_when (b := false) (Evl.et_is (Evl.et_not (Evl.et_B (ev_spBp (d := d) (p := p) (Evl.ev_var rfl) (Evl.ev_var rfl) ((hd2.up w_sub).up e4) ⟨2, rw_fits hrw⟩))) (by rw [rw_isX hrw]; rfl)) (fun z => by cases z) (fun _ H6 e6 => ?_)
      exact ⟨e4.trans e6, _, _, rfl⟩
    have fin : ∀ σ' H3, Pv xs.length σ' H3 → tSeq (sFld K (tVar 0) (tVar 1) "places") (sFld K (tVar 0) (tCB (fun xs H Q => ∃ p ys, xs = [.ref p] ∧ ((SqL K H p ys ∧ ∀ l, H l = none → Q (.ref l) (upd H l (.tup ys))) ∨ (SqT K H p ys ∧ Q (.ref p) H)))
        (tCons (tLc (iSeq K (tVar 2)) (gName 5) tYes (tCallD (spCopy K) (tCons (tVar 5) tNil)) [5]) tNil)) "_pairs") { nx := fun _ H' => Q .non H', rt := Q } σ' H3 := by
      rintro σ' H3 ⟨e3, s3, s4, rfl⟩
      refine ⟨_, rfl, _, rfl, x, C, dx, [], rfl, e3 x _ hx, S.cl, S.nP, by decide, ?_⟩
      have hLx : Hid (x :: L) (upd H3 x (.ins C dx (putF "places" (.int p) []))) := hid_upd (hid_ex e3 hL)
      have hW : W (x :: L) (upd H3 x (.ins C dx (putF "places" (.int p) []))) = W (x :: L) H3 := w_upd_in (List.mem_cons_self ..)
      have ha2 : DpAll K (W (x :: L) (upd H3 x (.ins C dx (putF "places" (.int p) [])))) xs ds := by
        rw [hW]
        exact ha.up (w_ex e3)
      have hs2 : SqL K (upd H3 x (.ins C dx (putF "places" (.int p) []))) a xs ∨ SqT K (upd H3 x (.ins C dx (putF "places" (.int p) []))) a xs := by
        have hs3 : SqL K (W (x :: L) (upd H3 x (.ins C dx (putF "places" (.int p) [])))) a xs ∨ SqT K (W (x :: L) (upd H3 x (.ins C dx (putF "places" (.int p) [])))) a xs := by
          rw [hW]
          exact hs.imp (Evl.ex_l (w_ex e3)) (Evl.ex_t (w_ex e3))
        exact hs3.imp (Evl.ex_l w_sub) (Evl.ex_t w_sub)
      have eg := eg_seq (K := K) (L := x :: L) (te := tCallD (spCopy K) (tCons (tVar 5) tNil)) (tl := tVar 2) (j := 5) (vs := [5]) (g := id) (σ := [some (.ref x), some (.int p), some (.ref a), s3, s4, none]) (Evl.ev_var rfl) hs2 ha2 hLx (by have := hR.1; omega) (fun _ => rfl)
        (fun L' y d H1 hd1 hL' e' hd' => ev_spCopy (Evl.ev_var rfl) hL' hd' (hR.2 d hd1))
      rw [List.map_id] at eg
      refine sfld_run (evd_tupG eg hLx _ (Ex.refl _) _ fun y H4 e4 hy => ?_)
      refine ⟨_, rfl, x, C, dx, _, rfl, e4 x _ upd_same, S.cl, S.nQ, by show 1 < 1000; omega, ?_⟩
      refine k _ (fun b o nb hb => ?_) ⟨dx, y, upd_same, ?_⟩
      · rw [upd_ne nb]
        refine e4 b o ?_
        rw [upd_ne nb]
        exact e3 b o hb
      · rw [w_upd_in (List.mem_cons_self ..)]
        exact hy
    refine ⟨_, rfl, a, xs, rfl, ?_⟩
    rcases hs' with x1 | x1
    · exact .inl ⟨Evl.ex_l e12 x1, for_it (walk_enum (xs := xs)) Pv ⟨e12, none, none, rfl⟩ (fun i σ' H3 _ pv => Evl.ex_l pv.1 x1) (fun i y σ' H3 H4 hi pv yp => turn i y σ' H3 H4 _ tNext hi pv yp) fin⟩
    · exact .inr ⟨Evl.ex_t e12 x1, for_it (walk_enumT (xs := xs)) Pv ⟨e12, none, none, rfl⟩ (fun i σ' H3 _ pv => Evl.ex_t pv.1 x1) (fun i y σ' H3 H4 hi pv yp => turn i y σ' H3 H4 _ tNext hi pv yp) fin⟩
theorem ok_Sexamples {f : Addr} {fd : FuncData} (F : Fun K "examples" "Sample.examples" s_Sample_examples f fd) (T : TxF mg) (S : SmpC K C) : FnOk P w K mg base CX0 1 f fd ["self"] (spExamples K C) := by
  refine F.ok sc_Sample_examples (fun vs H Q E h => ?_) (fun cdv A outer s H vs Q E hr h => ?_)
  · obtain ⟨_, _, _, _, rfl, _⟩ := h
    rfl
  · obtain ⟨x, p, ds, L, rfl, hL, hS, k⟩ := h
    refine ⟨_, (pss_one (ps_ret (pe_callTy call_list_of (by rfl) T.m_list (by decide +kernel) (pa_cons (pe_fld (pv 0) rfl) pa_nil)))), ?_⟩
    obtain ⟨dx, v, h1, h2⟩ := hS
    exact eg_list (ev_fld (v := v) (Evl.ev_var (v := .ref x) rfl) h1 S.cl S.nQ rfl) (.inr h2) hL _ (Ex.refl _) _ k
end
end U

set_option Elab.async false
set_option linter.all false
set_option maxRecDepth 100000
set_option maxHeartbeats 4000000
namespace U
open PySem PySem.Spec PyProof.Rows L2
open Evl (Ex)
open C8 (Met Mak pe_mt pe_mt0 pe_mk)
theorem inV_int (i : Int) : ∀ ns : List Int, inV (.int i) (ns.map V.int) = decide (i ∈ ns)
  | [] => rfl
  | n :: ns => by
    have q := inV_int i ns
    unfold inV at q ⊢
    rw [List.map_cons, List.any_cons, q]
    have e : eqV (.int n) (.int i) = decide (n = i) := by
      first | rfl | simp [eqV]
    rw [e]
    by_cases z : n = i
    · simp [z]
    · have z' : ¬ i = n := fun t => z t.symm
      simp [z, z']
theorem flat_ints : ∀ ns : List Int, (ns.map V.int).all flatV = true
  | [] => rfl
  | _ :: ns => by
    rw [List.map_cons, List.all_cons, flat_ints ns]
    rfl
/-- evaluates to a new instance -/
def EvS (K : PySem.W.Frag) (L : List Addr) (C : Addr) (p : Int) (ds : List PyData) (te : TE) (σ : L2.St) (H : Hp) : Prop := ∀ H1, Ex H H1 → ∀ Q : VK, (∀ y H2, Ex H1 H2 → Smp K L H2 y C p ds → Q (.ref y) H2) → te σ H1 Q
section
variable {P : Program} {w : World} {K : PySem.W.Frag} {mg : Str → Option Value} {base : Heap} {C : Addr} {L : List Addr} {σ : L2.St} {H H1 H' : Hp} {p : Int} {ds es : List PyData} {tp tl te : TE} {x y : Addr}
theorem mk_run (hp : Evl.Ev tp σ H (.int p)) (hd : EvD K L tl σ H (.list ds) ∨ EvD K L tl σ H (.tuple ds)) (hL : Hid L H) (p1 : 1 ≤ p) (p3 : p ≤ 3) (hR : Rws p ds) : EvS K L C p ds (tMake C (spInit K C) [] E0 (tCons tp (tCons tl tNil))) σ H := fun H1 e Q q => by
  refine hp H1 e _ fun H2 e2 => ?_
  have main : ∀ v H3, Ex H2 H3 → (Dp K (W L H3) v (.list ds) ∨ Dp K (W L H3) v (.tuple ds)) → ∀ x dx, H3 x = none → H3 dx = none → dx ≠ x → spInit K C [.ref x, .int p, v] (upd (upd H3 dx (.own x)) x (.ins C dx [])) (fun v H2 => v = .non ∧ Q (.ref x) H2) E0 := by
    intro v H3 e3 hv x dx hx hdx ne
    have ex2 : (upd H3 dx (.own x)) x = none := by rw [upd_ne (Ne.symm ne)]; exact hx
    have eN : Ex H3 (upd (upd H3 dx (.own x)) x (.ins C dx [])) := (Ex.new hdx).trans (Ex.new ex2)
    have hL3 : Hid L (upd (upd H3 dx (.own x)) x (.ins C dx [])) := hid_upd (hid_upd (hid_ex ((e.trans e2).trans e3) hL))
    refine ⟨x, dx, v, p, ds, L, rfl, upd_same, p1, p3, fun b hb => ?_, hv.imp (fun z => z.up (w_past hx eN)) (fun z => z.up (w_past hx eN)), hR, fun H' hk hS => ⟨rfl, q x H' ?_ (hS.low fun b hb => List.mem_cons_of_mem _ hb)⟩⟩
    · rcases List.mem_cons.mp hb with z | z
      · rw [z, upd_same]
        simp
      · exact hL3 b z
    · intro b o hb
      have hb3 := e3 b o (e2 b o hb)
      exact hk b o (ne_of_none hb3 hx) (eN b o hb3)
  rcases hd with hd | hd
  · exact hd H2 (e.trans e2) _ fun v H3 e3 hv => main v H3 e3 (.inl hv)
  · exact hd H2 (e.trans e2) _ fun v H3 e3 hv => main v H3 e3 (.inr hv)
theorem s_retS {D : Ends} (h : EvS K L C p ds te σ H) (k : ∀ y H1, Ex H H1 → Smp K L H1 y C p ds → D.rt (.ref y) H1) : tRet te D σ H := h H (Ex.refl H) _ k
theorem Smp.inv (h : Smp K L H x C p ds) : ∃ dx t xs, H x = some (.ins C dx [("places", .int p), ("_pairs", .ref t)]) ∧ SqT K H t xs ∧ DpAll K (W L H) xs ds ∧ Dp K (W L H) (.ref t) (.tuple ds) := by
  obtain ⟨dx, v, h1, h2⟩ := h
  have h2' := h2
  cases h2 with
  | @tup t xs _ hs ha => exact ⟨dx, t, xs, h1, Evl.ex_t w_sub hs, ha, h2'⟩
theorem ok_Schecked {f : Addr} {fd : FuncData} (F : Fun K "_checked" "Sample._checked" s_Sample_checked f fd) (T : TxF mg) (S : SmpC K C) (D_is_index_below : DefAt P w K mg base "is_index_below" 2 ["thing", "many"] (spBp K isIx)) : FnOk P w K mg base CX0 3 f fd ["self", "indexes"] (spChecked K C) := by
  refine F.ok sc_Sample_checked (fun vs H Q E h => ?_) (fun cdv A outer s H vs Q E hr h => ?_)
  · obtain ⟨_, _, _, _, _, _, rfl, _⟩ := h
    rfl
  · obtain ⟨x, a, p, ds, ns, L, rfl, hS, hR, ⟨hI, hnd, hin, hlen⟩, k⟩ := h
    refine ⟨_, (pss_cons (ps_set (i := 2) sc_Sample_checked.nd rfl (by first | exact Or.inl rfl | exact Or.inr rfl) (pe_lst pa_nil))
    (pss_cons (ps_for PassesOwn.never rfl (pi_seq (pv 1)) (pg_name (i := 3) sc_Sample_checked.nd rfl (by first | exact Or.inl rfl | exact Or.inr rfl))
      (pss_cons (ps_if (PW.pt (pw_or (pt_not (pt_val (pe_callD D_is_index_below (by first | exact hr | exact hr.mono (by decide) | exact hr.mono (by omega)) (by rfl) (pa_cons (pv 3) (pa_cons (pe_callB call_len_seq (by rfl) T.m_len (by decide +kernel) (pa_cons (pe_fld (pv 0) rfl) pa_nil)) pa_nil))))) (pw_or1 (pt_cmpR op_in_seq (pv 3) (pv 2) (by rfl))))) (pss_one ps_never) pss_nil)
      (pss_one (ps_expr (pe_bm PySem.F.plainAttrs_list PySem.F.slot_list_append PySem.F.type_list_append mt_append (pv 2) (pa_cons (pv 3) pa_nil))))))
    (pss_one (ps_ret (pv 2))))), ?_⟩
    obtain ⟨dx, t, xs, hx, hT, hA, _⟩ := hS.inv
    have lxs := dpa_len hA
    refine Evl.q_asgL (xs := []) (Evl.el_lst Evl.ea_nil (by decide)) fun l H1 hl e1 hl1 => ?_
    let Pv : Nat → L2.St → Hp → Prop := fun i σ' H' => Ex H H' ∧ H' l = some (.lst ((ns.take i).map V.int)) ∧ ∃ s3, σ' = [some (.ref x), some (.ref a), some (.ref l), s3]
    have turn : ∀ (i : Nat) (y : V) (σ' : L2.St) (H3 H4 : Hp) (D : Ends), i < (ns.map V.int).length → Pv i σ' H3 → YAt (ns.map V.int) i H3 y H4 → gName 3 y σ' H4 fun σ2 H5 =>
        tSeq (tIfS (tOr (tNot (tB (tCallD (spBp K isIx) (tCons (tVar 3) (tCons (tCB (fun xs H Q => ∃ p ys, xs = [V.ref p] ∧ (SqL K H p ys ∨ SqT K H p ys) ∧ Q (.int ys.length) H) (tCons (tFld K (tVar 0) "_pairs") tNil)) tNil))))) (tTest (tOp (rIn K false) (tVar 3) (tVar 2)))) tNever tNext)
          (tDrop (tBM K "list" rAppend (tVar 2) (tCons (tVar 3) tNil))) { D with nx := Pv (i + 1), ct := Pv (i + 1), bk := D.nx } σ2 H5 := by
      intro i y σ' H3 H4 D hi pv yp
      obtain ⟨e3, hl3, s3, rfl⟩ := pv
      obtain ⟨rfl, hy⟩ := yp
      rw [List.length_map] at hi
      rw [List.getElem?_map, List.getElem?_eq_getElem hi] at hy
      have ey : y = .int ns[i] := (Option.some.inj hy).symm
      subst ey
      have hmem : ns[i] ∈ ns := List.getElem_mem hi
      obtain ⟨b0, b1⟩ := hin _ hmem
      have hnot : ns[i] ∉ ns.take i := fun z => by
        obtain ⟨j, hj, ej⟩ := List.getElem_of_mem z
        rw [List.length_take] at hj
        rw [List.getElem_take] at ej
        have q := List.pairwise_iff_getElem.mp hnd j i (by omega) hi (by omega)
        exact q ej
      have w3 : Evl.Ev (tVar 3) [some (.ref x), some (.ref a), some (.ref l), some (.int ns[i])] H4 (.int ns[i]) := Evl.ev_var rfl
      have wl : Evl.Ev (tVar 2) [some (.ref x), some (.ref a), some (.ref l), some (.int ns[i])] H4 (.ref l) := Evl.ev_var rfl
      have ln : Evl.Ev (tCB (fun xs H Q => ∃ p ys, xs = [V.ref p] ∧ (SqL K H p ys ∨ SqT K H p ys) ∧ Q (.int ys.length) H) (tCons (tFld K (tVar 0) "_pairs") tNil)) [some (.ref x), some (.ref a), some (.ref l), some (.int ns[i])] H4 (.int (xs.length : Nat)) := ev_lenS (a := t) (xs := xs) (ev_fld (Evl.ev_var rfl) (e3 x _ hx) S.cl S.nQ rfl) (.inr (Evl.ex_t e3 hT))
      have ok : isIx ((xs.length : Nat) : Int) (.int ns[i]) = true := by
        show (decide (0 ≤ ns[i]) && decide (ns[i] < ((xs.length : Nat) : Int))) = true
        rw [decide_eq_true b0, decide_eq_true (show ns[i] < ((xs.length : Nat) : Int) by rw [lxs]; exact b1)]
        rfl
      refine Evl.q_when (b := false) (Evl.et_is (Evl.et_or (b := false) (Evl.et_is (Evl.et_not (Evl.et_B (ev_spBpq w3 ln (.int _) ⟨1, trivial⟩))) (by rw [ok]; try rfl)) fun _ => Evl.et_is (Evl.et_test (Evl.ev_op w3 wl (Evl.rv_isL (SqL.of hl3) rfl (flat_ints _)))) ?_) rfl) (fun z => by cases z) (fun _ H6 e6 => ?_)
      · rw [inV_int]
        exact decide_eq_false hnot
      · refine Evl.s_app (e6 l _ hl3) (wl.mono e6) (w3.mono e6) (by rw [List.length_map, List.length_take]; omega) fun H7 e7 => ?_
        refine ⟨Evl.Ex.mut ((e3.trans e6).trans e7) hl, ?_, _, rfl⟩
        have et : ns.take (i + 1) = ns.take i ++ [ns[i]] := by
          rw [List.take_add_one, List.getElem?_eq_getElem hi]
          rfl
        rw [upd_same, et, List.map_append]
        rfl
    have fin : ∀ σ' H3, Pv (ns.map V.int).length σ' H3 → tRet (tVar 2) { nx := fun _ H' => Q .non H', rt := Q } σ' H3 := by
      rintro σ' H3 ⟨e3, hl3, s3, rfl⟩
      rw [List.length_map, List.take_length] at hl3
      exact Evl.s_ret (Evl.ev_var rfl) fun H4 e4 => k l H4 hl (e3.trans e4) (e4 l _ hl3)
    refine ⟨_, rfl, a, rfl, ?_⟩
    have p0 : Pv 0 [some (.ref x), some (.ref a), some (.ref l), none] H1 := ⟨e1, hl1, none, rfl⟩
    rcases hI with hI | hI
    · exact .inl ⟨⟨_, Evl.ex_l e1 hI⟩, for_it (walk_list (xs := ns.map V.int)) Pv p0 (fun i σ' H3 _ pv => Evl.ex_l pv.1 hI) (fun i y σ' H3 H4 hi pv yp => turn i y σ' H3 H4 _ hi pv yp) fin⟩
    · exact .inr ⟨⟨_, Evl.ex_t e1 hI⟩, for_it (walk_tup (xs := ns.map V.int)) Pv p0 (fun i σ' H3 _ pv => Evl.ex_t pv.1 hI) (fun i y σ' H3 H4 hi pv yp => turn i y σ' H3 H4 _ hi pv yp) fin⟩
def cIn (ns : List Int) (i : Nat) : Bool := decide ((i : Int) ∈ ns)
def cOut (ns : List Int) (i : Nat) : Bool := !decide ((i : Int) ∈ ns)
theorem ok_Spart {f : Addr} {fd : FuncData} (F : Fun K "part" "Sample.part" s_Sample_part f fd) (T : TxF mg) (S : SmpC K C) (M_checked : Met P w K mg base 3 C "_checked" (spChecked K C) []) (N_Sample : Mak P w K mg base 5 "Sample" C (spInit K C) []) : FnOk P w K mg base CX0 7 f fd ["self", "indexes"] (spPart K C cIn) := by
  refine F.ok sc_Sample_part (fun vs H Q E h => ?_) (fun cdv A outer s H vs Q E hr h => ?_)
  · obtain ⟨_, _, _, _, _, _, rfl, _⟩ := h
    rfl
  · obtain ⟨x, a, p, ds, ns, L, rfl, hL, hS, p1, p3, hR, hI, k⟩ := h
    refine ⟨_, (pss_cons (ps_set (i := 2) sc_Sample_part.nd rfl (by first | exact Or.inl rfl | exact Or.inr rfl) (pe_mt M_checked hr (by decide) (pv 0) (pa_cons (pv 1) pa_nil)))
    (pss_one (ps_ret (pe_mk N_Sample hr (by decide) (by rfl) (pa_cons (pe_fld (pv 0) rfl) (pa_cons (pe_lc (own := [("index", 3), ("pair", 4)]) (g := gTup K 2 (gCons (gName 3) (gCons (gName 4) (gNil)))) (tt := tTest (tOp (rIn K false) (tVar 3) (tVar 2))) (by rfl) sc_Sample_part.nd (pi_enumA (by rfl) T.m_enumerate (pa_cons (pe_fld (pv 0) rfl) pa_nil)) (blkOk_by (N := sc_Sample_part_N) (sc := defScope s_Sample_part) (by decide +kernel)) (fun _ _ _ _ _ => (pg_tup (by rfl) (pgs_cons (pg_name (i := 3) sc_Sample_part.nd rfl (by first | exact Or.inl rfl | exact Or.inr rfl)) (pgs_cons (pg_name (i := 4) sc_Sample_part.nd rfl (by first | exact Or.inl rfl | exact Or.inr rfl)) pgs_nil)))) (fun _ _ _ _ _ => pts_one (pt_cmpR op_in_seq (pv 3) (pv 2) (by rfl))) (fun _ _ _ _ _ => (pv 4))) pa_nil)))))), ?_⟩
    obtain ⟨dx, t, xs, hx, hT, hA, _⟩ := hS.inv
    refine ⟨_, rfl, x, dx, _, rfl, hx, rfl, _, rfl, x, a, p, ds, ns, L, rfl, hS, hR, hI, fun l H1 hl e1 hl1 => ?_⟩
    have fl : ∀ {f : Str} {v : V} {H2 : Hp}, Ex H H2 → List.lookup f [("places", V.int p), ("_pairs", V.ref t)] = some v → NoAttr K C f → ∀ σ : L2.St, σ[0]? = some (some (.ref x)) → Evl.Ev (tFld K (tVar 0) f) σ H2 v := fun e hv n σ h0 => ev_fld (Evl.ev_var h0) (e x _ hx) S.cl n hv
    refine s_retS (mk_run (L := L) (p := p) (ds := sel (cIn ns) ds ds.length) (fl e1 rfl S.nP _ rfl) (.inl (EvG.dat (eg_enum (c := cIn ns) (Evl.ea_cons (fl e1 rfl S.nQ _ rfl) Evl.ea_nil) (.inr (Evl.ex_t e1 hT)) (hA.up (w_ex e1)) (hid_ex e1 hL) (by have := hR.1; omega) (fun _ _ => rfl) (fun y i H2 hi e2 => ?_) (fun _ _ => rfl)))) (hid_ex e1 hL) p1 p3 hR.sel) (fun y H2 e2 hy => k y H2 (e1.trans e2) hy)
    exact Evl.et_is (Evl.et_test (Evl.ev_op (Evl.ev_var rfl) (Evl.ev_var rfl) (Evl.rv_isL (SqL.of (e2 l _ hl1)) rfl (flat_ints _)))) (show inV (.int (i : Int)) (ns.map V.int) = cIn ns i from by unfold cIn; exact inV_int (i : Int) ns)
theorem ok_Swithout {f : Addr} {fd : FuncData} (F : Fun K "without" "Sample.without" s_Sample_without f fd) (T : TxF mg) (S : SmpC K C) (M_checked : Met P w K mg base 3 C "_checked" (spChecked K C) []) (N_Sample : Mak P w K mg base 5 "Sample" C (spInit K C) []) : FnOk P w K mg base CX0 7 f fd ["self", "indexes"] (spPart K C cOut) := by
  refine F.ok sc_Sample_without (fun vs H Q E h => ?_) (fun cdv A outer s H vs Q E hr h => ?_)
  · obtain ⟨_, _, _, _, _, _, rfl, _⟩ := h
    rfl
  · obtain ⟨x, a, p, ds, ns, L, rfl, hL, hS, p1, p3, hR, hI, k⟩ := h
    refine ⟨_, (pss_cons (ps_set (i := 2) sc_Sample_without.nd rfl (by first | exact Or.inl rfl | exact Or.inr rfl) (pe_mt M_checked hr (by decide) (pv 0) (pa_cons (pv 1) pa_nil)))
    (pss_one (ps_ret (pe_mk N_Sample hr (by decide) (by rfl) (pa_cons (pe_fld (pv 0) rfl) (pa_cons (pe_lc (own := [("index", 3), ("pair", 4)]) (g := gTup K 2 (gCons (gName 3) (gCons (gName 4) (gNil)))) (tt := tTest (tOp (rIn K true) (tVar 3) (tVar 2))) (by rfl) sc_Sample_without.nd (pi_enumA (by rfl) T.m_enumerate (pa_cons (pe_fld (pv 0) rfl) pa_nil)) (blkOk_by (N := sc_Sample_without_N) (sc := defScope s_Sample_without) (by decide +kernel)) (fun _ _ _ _ _ => (pg_tup (by rfl) (pgs_cons (pg_name (i := 3) sc_Sample_without.nd rfl (by first | exact Or.inl rfl | exact Or.inr rfl)) (pgs_cons (pg_name (i := 4) sc_Sample_without.nd rfl (by first | exact Or.inl rfl | exact Or.inr rfl)) pgs_nil)))) (fun _ _ _ _ _ => pts_one (pt_cmpR op_notIn_seq (pv 3) (pv 2) (by rfl))) (fun _ _ _ _ _ => (pv 4))) pa_nil)))))), ?_⟩
    obtain ⟨dx, t, xs, hx, hT, hA, _⟩ := hS.inv
    refine ⟨_, rfl, x, dx, _, rfl, hx, rfl, _, rfl, x, a, p, ds, ns, L, rfl, hS, hR, hI, fun l H1 hl e1 hl1 => ?_⟩
    have fl : ∀ {f : Str} {v : V} {H2 : Hp}, Ex H H2 → List.lookup f [("places", V.int p), ("_pairs", V.ref t)] = some v → NoAttr K C f → ∀ σ : L2.St, σ[0]? = some (some (.ref x)) → Evl.Ev (tFld K (tVar 0) f) σ H2 v := fun e hv n σ h0 => ev_fld (Evl.ev_var h0) (e x _ hx) S.cl n hv
    refine s_retS (mk_run (L := L) (p := p) (ds := sel (cOut ns) ds ds.length) (fl e1 rfl S.nP _ rfl) (.inl (EvG.dat (eg_enum (c := cOut ns) (Evl.ea_cons (fl e1 rfl S.nQ _ rfl) Evl.ea_nil) (.inr (Evl.ex_t e1 hT)) (hA.up (w_ex e1)) (hid_ex e1 hL) (by have := hR.1; omega) (fun _ _ => rfl) (fun y i H2 hi e2 => ?_) (fun _ _ => rfl)))) (hid_ex e1 hL) p1 p3 hR.sel) (fun y H2 e2 hy => k y H2 (e1.trans e2) hy)
    exact Evl.et_is (Evl.et_test (Evl.ev_op (Evl.ev_var rfl) (Evl.ev_var rfl) (Evl.rv_niL (SqL.of (e2 l _ hl1)) rfl (flat_ints _)))) (show (!inV (.int (i : Int)) (ns.map V.int)) = cOut ns i from by unfold cOut; exact congrArg not (inV_int (i : Int) ns))
theorem ok_Sturned {f : Addr} {fd : FuncData} (F : Fun K "turned" "Sample.turned" s_Sample_turned f fd) (T : TxF mg) (S : SmpC K C) (N_Sample : Mak P w K mg base 5 "Sample" C (spInit K C) []) : FnOk P w K mg base CX0 7 f fd ["self"] (spTurned K C) := by
  refine F.ok sc_Sample_turned (fun vs H Q E h => ?_) (fun cdv A outer s H vs Q E hr h => ?_)
  · obtain ⟨_, _, _, _, rfl, _⟩ := h
    rfl
  · obtain ⟨x, p, ds, L, rfl, hL, hS, p1, p3, hR, k⟩ := h
    refine ⟨_, (pss_one (ps_ret (pe_mk N_Sample hr (by decide) (by rfl) (pa_cons (pe_fld (pv 0) rfl) (pa_cons (pe_lc (own := [("point", 1), ("label", 2)]) (g := gTup K 2 (gCons (gName 1) (gCons (gName 2) (gNil)))) (tt := tYes) (by rfl) sc_Sample_turned.nd (pi_seq (pe_fld (pv 0) rfl)) (blkOk_by (N := sc_Sample_turned_N) (sc := defScope s_Sample_turned) (by decide +kernel)) (fun _ _ _ _ _ => (pg_tup (by rfl) (pgs_cons (pg_name (i := 1) sc_Sample_turned.nd rfl (by first | exact Or.inl rfl | exact Or.inr rfl)) (pgs_cons (pg_name (i := 2) sc_Sample_turned.nd rfl (by first | exact Or.inl rfl | exact Or.inr rfl)) pgs_nil)))) (fun _ _ _ _ _ => pts_nil) (fun _ _ _ _ _ => (pe_tup (pa_cons (pv 1) (pa_cons (pe_not (pv 2)) pa_nil))))) pa_nil))))), ?_⟩
    obtain ⟨dx, t, xs, hx, hT, hA, _⟩ := hS.inv
    have fl : ∀ {f : Str} {v : V}, List.lookup f [("places", V.int p), ("_pairs", V.ref t)] = some v → NoAttr K C f → ∀ σ : L2.St, σ[0]? = some (some (.ref x)) → Evl.Ev (tFld K (tVar 0) f) σ H v := fun hv n σ h0 => ev_fld (Evl.ev_var h0) hx S.cl n hv
    refine s_retS (mk_run (L := L) (p := p) (ds := ds.map flip1) (fl rfl S.nP _ rfl) (.inl (EvG.dat (eg_pairs (g := flip1) (fl rfl S.nQ _ rfl) (.inr hT) hA hL (by have := hR.1; omega) (fun d hd => ?_) (fun _ _ => rfl) (fun L' u1 u2 d1 d2 H1 hd hL' e1 r1 r2 => ?_)))) hL p1 p3 hR.flip) k
    · obtain ⟨ns, b, rfl, _⟩ := hR.2 d hd
      exact ⟨_, _, rfl⟩
    · obtain ⟨ns, b, e, _⟩ := hR.2 _ hd
      have e2 : d2 = .bool b := by
        injection e with e
        injection e with e0 e1
        injection e1 with e1
      subst e2
      cases r2
      exact evd_tup hL' (evds_cons (evd_var rfl r1) (evds_cons (evd_evB (Evl.ev_notV (Evl.ev_var rfl))) evds_nil)) (by show 2 ≤ 100000; omega)
end
end U

set_option Elab.async false
set_option linter.all false
set_option maxRecDepth 100000
set_option maxHeartbeats 4000000
namespace U
open PySem PySem.Spec PyProof.Rows L2
open Evl (Ex)
open C8 (Met Mak pe_mt pe_mt0 pe_mk)
/-- what the own == is asked: the same places and rows -/
def SameS (K : PySem.W.Frag) (C : Addr) (a b : Addr) (H : Hp) : Prop := ∃ L p ds, Smp K L H a C p ds ∧ Smp K L H b C p ds ∧ Rws p ds
theorem lay_all : ∀ {ds : List PyData}, (∀ d ∈ ds, d.canLay0 = true ∧ d.depth ≤ 2) → PyData.canLayAll0 ds = true ∧ PyData.depthAll ds ≤ 2
  | [], _ => ⟨rfl, Nat.zero_le _⟩
  | d :: ds, h => by
    obtain ⟨h1, h2⟩ := h d (List.mem_cons_self ..)
    obtain ⟨h3, h4⟩ := lay_all (ds := ds) fun e he => h e (List.mem_cons_of_mem _ he)
    exact ⟨by show (d.canLay0 && PyData.canLayAll0 ds) = true; rw [h1, h3]; rfl, by show max d.depth (PyData.depthAll ds) ≤ 2; omega⟩
theorem lay_ints : ∀ ns : List Int, PyData.canLayAll0 (ns.map .int) = true ∧ PyData.depthAll (ns.map .int) = 0
  | [] => ⟨rfl, rfl⟩
  | n :: ns => by
    obtain ⟨h1, h2⟩ := lay_ints ns
    exact ⟨by show (true && PyData.canLayAll0 (ns.map .int)) = true; rw [h1]; rfl, by show max 0 (PyData.depthAll (ns.map .int)) = 0; rw [h2]; rfl⟩
theorem Rws.shaped {p : Int} {ds : List PyData} (h : Rws p ds) : SeqAt.shaped (.tuple ds) = true ∧ SeqAt.shaped (.list ds) = true := by
  have q : ∀ d ∈ ds, d.canLay0 = true ∧ d.depth ≤ 2 := fun d hd => by
    obtain ⟨ns, b, rfl, _⟩ := h.2 d hd
    obtain ⟨h1, h2⟩ := lay_ints ns
    refine ⟨?_, ?_⟩
    · show (PyData.canLayAll0 (ns.map .int) && true) = true
      rw [h1]
      rfl
    · show max (PyData.depthAll (ns.map .int) + 1) 0 + 1 ≤ 2
      rw [h2]
      decide
  obtain ⟨h1, h2⟩ := lay_all q
  have e1 : PyData.canLay0 (.tuple ds) = true := h1
  have e2 : PyData.depth (.tuple ds) ≤ 64 := by show PyData.depthAll ds + 1 ≤ 64; omega
  have e3 : PyData.canLay0 (.list ds) = true := h1
  have e4 : PyData.depth (.list ds) ≤ 64 := by show PyData.depthAll ds + 1 ≤ 64; omega
  exact ⟨Bool.and_eq_true_iff.mpr ⟨e1, decide_eq_true e2⟩, Bool.and_eq_true_iff.mpr ⟨e3, decide_eq_true e4⟩⟩
section
variable {P : Program} {w : World} {K : PySem.W.Frag} {mg : Str → Option Value} {base : Heap} {C U : Addr}
theorem ev_isS {σ : L2.St} {H : Hp} {te : TE} {y dx : Addr} {fs : List (Str × V)} (S : SmpC K C) (h : Evl.Ev te σ H (.ref y)) (hy : H y = some (.ins C dx fs)) : Evl.Ev (tCB (rIsi K) (tCons te (tCons (tC (.ref C)) tNil))) σ H (.bl true) := fun H1 e1 Q q =>
  h H1 e1 _ fun H2 e2 => ⟨.ref y, .ref C, .ref C, .ref C, true, rfl, .own C, .base (.ins ((e1.trans e2) y _ hy) S.cl S.ha S.hn S.htk S.hm), S.kS, q H2 e2⟩
theorem ok_Seq {f : Addr} {fd : FuncData} (F : Fun K "__eq__" "Sample.__eq__" s_Sample_eq f fd) (T : TxF mg) (S : SmpC K C) (N_gC : mg "Sample" = some (.ref C)) : FnOk P w K mg base CX0 1 f fd ["self", "other"] (spEq (SameS K C)) := by
  refine F.ok sc_Sample_eq (fun vs H Q E h => ?_) (fun cdv A outer s H vs Q E hr h => ?_)
  · obtain ⟨_, _, rfl, _⟩ := h
    rfl
  · obtain ⟨a, b, rfl, ⟨L, p, ds, h1, h2, hR⟩, k⟩ := h
    refine ⟨_, (pss_one (ps_ret (pe_and (pe_callB call_isi (by rfl) T.m_isinstance (by decide +kernel) (pa_cons (pv 1) (pa_cons (pe_glob (v := .ref C) (by rfl) N_gC rfl) pa_nil))) (pe_and (pe_cmpR op_eq (pe_fld (pv 0) rfl) (pe_fld (pv 1) rfl) (nomark _)) (pe_one (pe_cmpR (op_eqD hr.units) (pe_fld (pv 0) rfl) (pe_fld (pv 1) rfl) (nomark _))))))), ?_⟩
    obtain ⟨dx, t, xs, hx, hT, hA, hD⟩ := h1.inv
    obtain ⟨dy, t2, ys, hy, hT2, hA2, hD2⟩ := h2.inv
    have va : Evl.Ev (tVar 0) (start sc_Sample_eq_N [.ref a, .ref b]) H (.ref a) := Evl.ev_var rfl
    have vb : Evl.Ev (tVar 1) (start sc_Sample_eq_N [.ref a, .ref b]) H (.ref b) := Evl.ev_var rfl
    have e1 : Evl.Ev (tOp rEq (tFld K (tVar 0) "places") (tFld K (tVar 1) "places")) (start sc_Sample_eq_N [.ref a, .ref b]) H (.bl true) := Evl.ev_is (Evl.ev_op (ev_fld va hx S.cl S.nP (v := .int p) rfl) (ev_fld vb hy S.cl S.nP (v := .int p) rfl) (Evl.rv_eq rfl)) (by simp)
    have e2 : Evl.Ev (tOp (rEqD K) (tFld K (tVar 0) "_pairs") (tFld K (tVar 1) "_pairs")) (start sc_Sample_eq_N [.ref a, .ref b]) H (.bl true) := Evl.ev_is (ev_eqD (ev_fld va hx S.cl S.nQ (v := .ref t) rfl) (ev_fld vb hy S.cl S.nQ (v := .ref t2) rfl) (hD.up w_sub) (hD2.up w_sub) hR.shaped.1 hR.shaped.1) (congrArg V.bl (PySem.SeqAt.eqv_refl _ (SeqAt.canLay_of_shaped hR.shaped.1)))
    exact Evl.s_ret (v := .bl true) (Evl.ev_andV (a := true) (b := true) (ev_isS S vb hy) fun _ => Evl.ev_andV (a := true) (b := true) e1 fun _ => e2) k
theorem ok_Sadd {f : Addr} {fd : FuncData} (F : Fun K "__add__" "Sample.__add__" s_Sample_add f fd) (T : TxF mg) (S : SmpC K C) (Y : UnC K mg U) (N_gC : mg "Sample" = some (.ref C)) (N_Sample : Mak P w K mg base 5 "Sample" C (spInit K C) []) : FnOk P w K mg base (L2.CX P w) 7 f fd ["self", "other"] (spAdd K C U) := by
  refine F.okX sc_Sample_add (fun vs H Q E h => ?_) (fun cdv A outer s H vs Q E hr h => ?_)
  · obtain ⟨_, _, _, _, _, _, _, rfl, _⟩ := h
    rfl
  · obtain ⟨x, y, p, q, ds, es, L, rfl, hL, h1, h2, p1, p3, hR, hR2, hz, k1, k2⟩ := h
    refine ⟨_, (pss_cons (ps_if (pt_not (pt_val (pe_callB call_isi (by rfl) T.m_isinstance (by decide +kernel) (pa_cons (pv 1) (pa_cons (pe_glob (v := .ref C) (by rfl) N_gC rfl) pa_nil))))) (pss_one ps_never) pss_nil)
    (pss_cons (ps_if (pt_cmpR op_ne (pe_fld (pv 0) rfl) (pe_fld (pv 1) rfl) (nomark _)) (pss_one (ps_raise rfl (takes_of rfl rfl rfl rfl) (pmk_own0 PySem.F.excBase_ValueError Y.xU Y.gU Y.kU (raises_own Y.bU Y.tU) (by rfl)))) pss_nil)
    (pss_one (ps_ret (pe_mk N_Sample hr (by decide) (by rfl) (pa_cons (pe_fld (pv 0) rfl) (pa_cons (pe_op op_catA (pe_fld (pv 0) rfl) (pe_fld (pv 1) rfl)) pa_nil))))))), ?_⟩
    obtain ⟨dx, t, xs, hx, hT, hA, hD⟩ := h1.inv
    obtain ⟨dy, t2, ys, hy, hT2, hA2, hD2⟩ := h2.inv
    have va : Evl.Ev (tVar 0) (start sc_Sample_add_N [.ref x, .ref y]) H (.ref x) := Evl.ev_var rfl
    have vb : Evl.Ev (tVar 1) (start sc_Sample_add_N [.ref x, .ref y]) H (.ref y) := Evl.ev_var rfl
    refine Evl.q_when (b := false) (Evl.et_is (Evl.et_not (Evl.et_B (ev_isS S vb hy))) rfl) (fun z => by cases z) (fun _ H1 e1 => ?_)
    refine Evl.q_when (b := !decide (V.int p = V.int q)) (Evl.et_test (Evl.ev_op (ev_fld (va.mono e1) (e1 x _ hx) S.cl S.nP (v := .int p) rfl) (ev_fld (vb.mono e1) (e1 y _ hy) S.cl S.nP (v := .int q) rfl) (Evl.rv_ne rfl))) (fun z H2 e2 => ?_) (fun z H2 e2 => ?_)
    · have ne : p ≠ q := fun e => by
        rw [e] at z
        simp at z
      exact k2 ne H2 (e1.trans e2)
    · have e : p = q := by simpa using z
      subst e
      have e12 := e1.trans e2
      have l1 := dpa_len hA
      have l2 := dpa_len hA2
      refine s_retS (mk_run (L := L) (p := p) (ds := ds ++ es) (ev_fld (va.mono e12) (e12 x _ hx) S.cl S.nP rfl) (.inr fun H3 e3 Q q => ?_) (hid_ex e12 hL) p1 p3 (hR.app hR2 hz)) (fun z H3 e3 hz => k1 rfl z H3 (e12.trans e3) hz)
      refine ev_fld (va.mono (e12.trans e3)) ((e12.trans e3) x _ hx) S.cl S.nQ (v := .ref t) rfl _ (Ex.refl _) _ fun H4 e4 => ?_
      refine ev_fld (vb.mono ((e12.trans e3).trans e4)) (((e12.trans e3).trans e4) y _ hy) S.cl S.nQ (v := .ref t2) rfl _ (Ex.refl _) _ fun H5 e5 => ?_
      have eA := ((e12.trans e3).trans e4).trans e5
      refine ⟨t, t2, xs, ys, rfl, rfl, Evl.ex_t eA hT, Evl.ex_t eA hT2, Evl.sz_of (by omega), fun z => ?_, fun z1 z2 => ?_, fun z1 z2 r hr => ?_⟩
      · have : ds = [] := by
          rw [z] at l1
          exact List.eq_nil_of_length_eq_zero l1.symm
        subst this
        exact q _ _ (e4.trans e5) (hD2.up (w_ex eA))
      · have : es = [] := by
          rw [z2] at l2
          exact List.eq_nil_of_length_eq_zero l2.symm
        subst this
        rw [List.append_nil] at q
        exact q _ _ (e4.trans e5) (hD.up (w_ex eA))
      · refine q _ _ ((e4.trans e5).trans (Ex.new hr)) (.tup (SqT.of (w_new (hid_ex eA hL) hr)) ?_)
        exact dpa_app (hA.up (w_ex (eA.trans (Ex.new hr)))) (hA2.up (w_ex (eA.trans (Ex.new hr))))
end
end U

set_option Elab.async false
set_option linter.all false
set_option maxRecDepth 100000
set_option maxHeartbeats 4000000
namespace U
open PySem PySem.Spec PyProof.Rows L2
open Evl (Ex)
abbrev s_mixed : Stmt := top 25
abbrev sc_mixed_N : List Str := ["_law_draws", "_law_things", "_law_left", "_law_k"]
theorem sc_mixed : FnScope sc_mixed_N ["_law_draws", "_law_things"] (defScope s_mixed) := ⟨rfl, rfl, rfl, by decide +kernel, rfl, by decide +kernel, by decide +kernel⟩
abbrev s_point : Stmt := top 27
abbrev sc_point_N : List Str := ["_law_draws", "_law_places", "_law_wide", "_law_k"]
theorem sc_point : FnScope sc_point_N ["_law_draws", "_law_places", "_law_wide"] (defScope s_point) := ⟨rfl, rfl, rfl, by decide +kernel, rfl, by decide +kernel, by decide +kernel⟩
abbrev s_rows : Stmt := top 28
abbrev sc_rows_N : List Str := ["_law_draws", "_law_places", "_law_most", "_law_wide", "_law_rows_here", "_law_k", "_law_point_here"]
theorem sc_rows : FnScope sc_rows_N ["_law_draws", "_law_places", "_law_most", "_law_wide"] (defScope s_rows) := ⟨rfl, rfl, rfl, by decide +kernel, rfl, by decide +kernel, by decide +kernel⟩
abbrev s_turned : Stmt := top 29
abbrev sc_turned_N : List Str := ["_law_rows_here", "_law_point_here", "_law_label"]
theorem sc_turned : FnScope sc_turned_N ["_law_rows_here"] (defScope s_turned) := ⟨rfl, rfl, rfl, by decide +kernel, rfl, by decide +kernel, by decide +kernel⟩
def spPoint (K : PySem.W.Frag) : Sp := fun vs H Q _ => ∃ (l : Addr) (p w : Int) (n : Nat) (L : List Addr), vs = [.ref l, .int p, .int w] ∧ Dr n H l ∧ n < 900000 ∧ l ∈ L ∧ Hid L H ∧ 1 ≤ p ∧ p ≤ 3 ∧ 0 ≤ w ∧ w ≤ 1000 ∧
  ∀ v ns H', ExB l H H' → Dr (n + 3) H' l → ((ns : List Int).length : Int) = p → Dp K (W L H') v (.tuple (ns.map .int)) → Q v H'
def spRows (K : PySem.W.Frag) : Sp := fun vs H Q _ => ∃ (l : Addr) (p m w : Int) (n : Nat) (L : List Addr), vs = [.ref l, .int p, .int m, .int w] ∧ Dr n H l ∧ n < 800000 ∧ l ∈ L ∧ Hid L H ∧ 1 ≤ p ∧ p ≤ 3 ∧ 0 ≤ m ∧ m ≤ 100 ∧ 0 ≤ w ∧ w ≤ 1000 ∧
  ∀ t ds H', ExB l H H' → Dr (n + 701) H' l → Gr K L H' t ds → (ds.length : Int) ≤ m → (∀ d ∈ ds, Rw p d) → Q (.ref t) H'
def spMixed (K : PySem.W.Frag) : Sp := fun vs H Q _ => ∃ (l a : Addr) (ns : List Int) (n : Nat), vs = [.ref l, .ref a] ∧ Dr n H l ∧ n < 900000 ∧ a ≠ l ∧ SqL K H a (ns.map .int) ∧ ns.length ≤ 100 ∧
  ∀ t ms H', ExB l H H' → Dr (n + 100) H' l → t ≠ l → (ms : List Int).Perm ns → H t = none → H' t = some (.lst (ms.map .int)) → Q (.ref t) H'
def spTurn (K : PySem.W.Frag) : Sp := fun vs H Q _ => ∃ (a : Addr) (p : Int) (ds : List PyData) (L : List Addr), vs = [.ref a] ∧ Hid L H ∧ Dp K (W L H) (.ref a) (.list ds) ∧ Rws p ds ∧ ∀ t H', H t = none → Ex H H' → Gr K L H' t (ds.map flip1) → Q (.ref t) H'
theorem erase_map : ∀ (l : List Int) (k : Nat), (l.map V.int).eraseIdx k = (l.eraseIdx k).map V.int
  | [], _ => rfl
  | _ :: _, 0 => rfl
  | a :: l, k + 1 => congrArg (V.int a :: ·) (erase_map l k)
theorem erase_perm : ∀ (l : List Int) (k : Nat) (h : k < l.length), (l[k] :: l.eraseIdx k).Perm l
  | _ :: _, 0, _ => List.Perm.refl _
  | a :: l, k + 1, h => (List.Perm.swap a (l[k]'(by simpa using h)) (l.eraseIdx k)).trans (List.Perm.cons a (erase_perm l k (by simpa using h)))
theorem dpa_ints {K : PySem.W.Frag} {H : Hp} : ∀ ns : List Int, DpAll K H (ns.map V.int) (ns.map PyData.int)
  | [] => .nil
  | n :: ns => .cons (.int n) (dpa_ints ns)
section
variable {P : Program} {w : World} {K : PySem.W.Frag} {mg : Str → Option Value} {base : Heap}
/-- one draw -/
theorem draw_run {σ : L2.St} {H : Hp} {tm : TE} {l : Addr} {n : Nat} {many : Int} {Q : VK} (h0 : σ[0]? = some (some (.ref l))) (hd : Dr n H l) (hn : n < 1000000) (hm : Evl.Ev tm σ H (.int many)) (m0 : 0 < many) (m1 : many < 1073741824)
    (k : ∀ r H', 0 ≤ r → r < many → Dr (n + 1) H' l → ExB l H H' → Q (.int r) H') : tCallD spDraw (tCons (tVar 0) (tCons tm tNil)) σ H Q :=
  ⟨_, h0, hm H (Ex.refl H) _ fun H1 e1 => ⟨l, many, n, rfl, hd.ex e1, hn, m0, m1, fun r o r0 r1 hd' => k r _ r0 r1 hd' ((ExB.of e1).trans ExB.upd)⟩⟩
theorem ok_point {f : Addr} {fd : FuncData} (F : Fun K "_law_point" "_law_point" s_point f fd) (T : TxF mg) (D_draw : DefAt P w K mg base "_law_draw" 1 ["_law_draws", "_law_many"] spDraw) : FnOk P w K mg base CX0 2 f fd ["_law_draws", "_law_places", "_law_wide"] (spPoint K) := by
  refine F.ok sc_point (fun vs H Q E h => ?_) (fun cdv A outer s H vs Q E hr h => ?_)
  · obtain ⟨_, _, _, _, _, rfl, _⟩ := h
    rfl
  · obtain ⟨l, p, w, n, L, rfl, hd, hn, hl, hL, p1, p3, w0, w1, k⟩ := h
    refine ⟨_, (pss_one (ps_ret (pe_callTy call_tuple_of (by rfl) T.m_tuple (by decide +kernel) (pa_cons (pe_lc (own := [("_law_k", 3)]) (g := gName 3) (tt := tYes) (by rfl) sc_point.nd (pi_range1 (by rfl) T.m_range (pa_cons (pv 1) pa_nil)) (blkOk_by (N := sc_point_N) (sc := defScope s_point) (by decide +kernel)) (fun _ _ _ _ _ => (pg_name (i := 3) sc_point.nd rfl (by first | exact Or.inl rfl | exact Or.inr rfl))) (fun _ _ _ _ _ => pts_nil) (fun _ _ _ _ _ => (pe_op op_sub (pe_callD D_draw (by first | exact hr | exact hr.mono (by decide) | exact hr.mono (by omega)) (by rfl) (pa_cons (pv 0) (pa_cons (pe_op op_add (pe_op op_mul pe_int (pv 2)) pe_int) pa_nil))) (pv 2)))) pa_nil)))), ?_⟩
    refine ⟨_, rfl, p, rfl, by omega, by omega, fun Dl hD => ?_⟩
    have hDl : Dl ≠ l := fun e => hd.ne (by rw [← e]; exact hD)
    let Pv : Nat → Hp → Prop := fun i H' => ExB l H H' ∧ Dr (n + i) H' l ∧ ∃ ns : List Int, ns.length = i ∧ H' Dl = some (.lst (ns.map V.int))
    refine lc_range (lo := 0) (n := p.toNat) Pv ⟨ExB.of (Ex.new hD), hd.ex (Ex.new hD), [], rfl, upd_same⟩ (fun i H2 hi pv => ?_) (fun H2 pv => ?_)
    · obtain ⟨e2, hd2, ns, hns, hl2⟩ := pv
      refine ⟨rfl, ?_⟩
      refine yes_lc (B := fun H3 => Pv (i + 1) H3) ?_
      refine draw_run (n := n + i) (many := 2 * w + 1) (by rfl) hd2 (by omega) (Evl.ev_op (Evl.ev_op Evl.ev_c (Evl.ev_var rfl) (Evl.rv_I (C := CMul) (g := fun i j => .int (i * j)) (i := 2) (j := w) (.inl ⟨by decide, by decide⟩))) Evl.ev_c (Evl.rv_I0 (g := fun i j => .int (i + j)))) (by omega) (by omega) fun r H3 r0 r1 hd3 e3 => ?_
      have h3 : H3 Dl = some (.lst (ns.map V.int)) := e3 Dl _ hDl hl2
      refine ⟨_, rfl, _, _, rfl, rfl, ns.map V.int, h3, Evl.sz_lt (by rw [List.length_map]; omega), ?_, ?_, ns ++ [r - w], ?_, ?_⟩
      · intro b o hb hbo
        have nb : b ≠ Dl := ne_of_none hbo hD
        rw [upd_ne nb]
        exact e3 b o hb (e2 b o hb hbo)
      · obtain ⟨x, y, z, q1, q2⟩ := hd3
        exact ⟨x, y, z, by rw [upd_ne (Ne.symm hDl)]; exact q1, q2⟩
      · rw [List.length_append, hns]
        rfl
      · rw [upd_same, List.map_append]
        rfl
    · obtain ⟨e2, hd2, ns, hns, hl2⟩ := pv
      have hDL : Dl ∉ L := hid_not hL hD
      refine ⟨Dl, ns.map V.int, rfl, .inl ⟨SqL.of hl2, fun r hr => ?_⟩⟩
      have hLr : r ∉ L := fun m => (e2.hid hd2.ne hL) r m hr
      refine k _ ns _ (e2.trans (ExB.of (Ex.new hr))) ((hd2.ex (Ex.new hr)).up (by omega)) (by omega) (.tup (SqT.of (w_of hLr upd_same)) (dpa_ints ns))
theorem ok_turned {f : Addr} {fd : FuncData} (F : Fun K "_law_turned" "_law_turned" s_turned f fd) (T : TxF mg) : FnOk P w K mg base CX0 1 f fd ["_law_rows_here"] (spTurn K) := by
  refine F.ok sc_turned (fun vs H Q E h => ?_) (fun cdv A outer s H vs Q E hr h => ?_)
  · obtain ⟨_, _, _, _, rfl, _⟩ := h
    rfl
  · obtain ⟨a, p, ds, L, rfl, hL, hD, hR, k⟩ := h
    refine ⟨_, (pss_one (ps_ret (pe_lc (own := [("_law_point_here", 1), ("_law_label", 2)]) (g := gTup K 2 (gCons (gName 1) (gCons (gName 2) (gNil)))) (tt := tYes) (by rfl) sc_turned.nd (pi_seq (pv 0)) (blkOk_by (N := sc_turned_N) (sc := defScope s_turned) (by decide +kernel)) (fun _ _ _ _ _ => (pg_tup (by rfl) (pgs_cons (pg_name (i := 1) sc_turned.nd rfl (by first | exact Or.inl rfl | exact Or.inr rfl)) (pgs_cons (pg_name (i := 2) sc_turned.nd rfl (by first | exact Or.inl rfl | exact Or.inr rfl)) pgs_nil)))) (fun _ _ _ _ _ => pts_nil) (fun _ _ _ _ _ => (pe_tup (pa_cons (pv 1) (pa_cons (pe_not (pv 2)) pa_nil))))))), ?_⟩
    cases hD with
    | @lst _ xs _ hs ha =>
      refine eg_pairs (K := K) (L := L) (g := flip1) (Evl.ev_var (v := .ref a) rfl) (.inl (Evl.ex_l w_sub hs)) ha hL (by have := hR.1; omega) (fun d hd => ?_) (fun _ _ => rfl) (fun L' u1 u2 d1 d2 H1 hd hL' e1 r1 r2 => ?_) H (Ex.refl H) _ k
      · obtain ⟨ns, b, rfl, _⟩ := hR.2 d hd
        exact ⟨_, _, rfl⟩
      · obtain ⟨ns, b, e, _⟩ := hR.2 _ hd
        have e2 : d2 = .bool b := by
          injection e with e
          injection e with e0 e1
          injection e1 with e1
        subst e2
        cases r2
        exact evd_tup hL' (evds_cons (evd_var rfl r1) (evds_cons (evd_evB (Evl.ev_notV (Evl.ev_var rfl))) evds_nil)) (by show 2 ≤ 100000; omega)
theorem ok_mixed {f : Addr} {fd : FuncData} (F : Fun K "_law_mixed" "_law_mixed" s_mixed f fd) (T : TxF mg) (D_draw : DefAt P w K mg base "_law_draw" 1 ["_law_draws", "_law_many"] spDraw) : FnOk P w K mg base CX0 2 f fd ["_law_draws", "_law_things"] (spMixed K) := by
  refine F.ok sc_mixed (fun vs H Q E h => ?_) (fun cdv A outer s H vs Q E hr h => ?_)
  · obtain ⟨_, _, _, _, rfl, _⟩ := h
    rfl
  · obtain ⟨l, a, ns, n, rfl, hd, hn, hal, hs, hz, k⟩ := h
    refine ⟨_, (pss_cons (ps_set (i := 2) sc_mixed.nd rfl (by first | exact Or.inl rfl | exact Or.inr rfl) (pe_callTy call_list_of (by rfl) T.m_list (by decide +kernel) (pa_cons (pv 1) pa_nil)))
    (pss_one (ps_ret (pe_lc (own := [("_law_k", 3)]) (g := gName 3) (tt := tYes) (te := tBM K "list" rPopAt (tVar 2) (tCons (tCallD spDraw (tCons (tVar 0) (tCons (tCB (Evl.rLenS K) (tCons (tVar 2) tNil)) tNil))) tNil)) (by rfl) sc_mixed.nd (pi_range1 (by rfl) T.m_range (pa_cons (pe_callB call_len_seq (by rfl) T.m_len (by decide +kernel) (pa_cons (pv 2) pa_nil)) pa_nil)) (blkOk_by (N := sc_mixed_N) (sc := defScope s_mixed) (by decide +kernel)) (fun _ _ _ _ _ => (pg_name (i := 3) sc_mixed.nd rfl (by first | exact Or.inl rfl | exact Or.inr rfl))) (fun _ _ _ _ _ => pts_nil) (fun _ _ _ _ _ => (pe_bm PySem.F.plainAttrs_list PySem.F.slot_list_pop PySem.F.type_list_pop mt_popAt (pv 2) (pa_cons (pe_callD D_draw (by first | exact hr | exact hr.mono (by decide) | exact hr.mono (by omega)) (by rfl) (pa_cons (pv 0) (pa_cons (pe_callB call_len_seq (by rfl) T.m_len (by decide +kernel) (pa_cons (pv 2) pa_nil)) pa_nil))) pa_nil))))))), ?_⟩
    refine ⟨_, rfl, a, _, rfl, .inl hs, fun c hc => ?_⟩
    have hcl : c ≠ l := fun e => hd.ne (by rw [← e]; exact hc)
    refine ⟨_, rfl, c, _, rfl, .inl (SqL.of upd_same), ((ns.map V.int).length : Int), rfl, by rw [List.length_map]; omega, by rw [List.length_map]; omega, fun Dl hD => ?_⟩
    have hDc : Dl ≠ c := fun e => by
      rw [e, upd_same] at hD
      cases hD
    have hD0 : H Dl = none := by rwa [upd_ne hDc] at hD
    have hDl : Dl ≠ l := fun e => hd.ne (by rw [← e]; exact hD0)
    let Pv : Nat → Hp → Prop := fun i H' => ExB l H H' ∧ Dr (n + i) H' l ∧ ∃ ms rest : List Int, ms.length = i ∧ (ms ++ rest).Perm ns ∧ H' c = some (.lst (rest.map V.int)) ∧ H' Dl = some (.lst (ms.map V.int))
    have e1 : Ex H (upd (upd H c (.lst (ns.map V.int))) Dl (.lst [])) := (Ex.new hc).trans (Ex.new hD)
    rw [Int.toNat_natCast, List.length_map]
    refine lc_range (lo := 0) (n := ns.length) Pv ⟨ExB.of e1, hd.ex e1, [], ns, rfl, List.Perm.refl _, by rw [upd_ne (Ne.symm hDc), upd_same], upd_same⟩ (fun i H2 hi pv => ?_) (fun H2 pv => ?_)
    · obtain ⟨e2, hd2, ms, rest, hms, hp, hc2, hl2⟩ := pv
      have hlen := hp.length_eq
      rw [List.length_append] at hlen
      refine ⟨rfl, ?_⟩
      refine yes_lc (B := fun H3 => Pv (i + 1) H3) ?_
      refine ⟨_, rfl, Or.inl ⟨rfl, _, SqL.of hc2⟩, ?_⟩
      refine draw_run (n := n + i) (many := (rest.length : Int)) (by rfl) hd2 (by omega) (Evl.ev_is (ev_lenS (Evl.ev_var rfl) (.inl (SqL.of hc2))) (by rw [List.length_map])) (by omega) (by omega) fun r H3 r0 r1 hd3 e3 => ?_
      have hc3 := e3 c _ hcl hc2
      have hl3 := e3 Dl _ hDl hl2
      have hr : r.toNat < rest.length := by omega
      refine ⟨c, rest.map V.int, r, r.toNat, .int rest[r.toNat], rfl, rfl, hc3, by omega, by omega, ?_, by rw [List.getElem?_map, List.getElem?_eq_getElem hr]; rfl, ?_⟩
      · unfold seqIndex?
        rw [List.length_map]
        have h1 : ¬ r < 0 := by omega
        simp only [if_neg h1]
        rw [if_pos (by simp; omega)]
      · refine ⟨ms.map V.int, by rw [upd_ne hDc]; exact hl3, Evl.sz_lt (by rw [List.length_map]; omega), ?_, ?_, ms ++ [rest[r.toNat]], rest.eraseIdx r.toNat, ?_, ?_, ?_, ?_⟩
        · intro b o hb hbo
          have nb : b ≠ Dl := ne_of_none hbo hD0
          have nb2 : b ≠ c := ne_of_none hbo hc
          rw [upd_ne nb, upd_ne nb2]
          exact e3 b o hb (e2 b o hb hbo)
        · obtain ⟨x, y, z, q1, q2⟩ := hd3
          exact ⟨x, y, z, by rw [upd_ne (Ne.symm hDl), upd_ne (Ne.symm hcl)]; exact q1, q2⟩
        · rw [List.length_append, hms]
          rfl
        · refine List.Perm.trans ?_ hp
          rw [List.append_assoc]
          exact List.Perm.append_left ms (erase_perm rest r.toNat hr)
        · rw [upd_ne (Ne.symm hDc), upd_same]
          rw [erase_map]
        · rw [upd_same, List.map_append]
          rfl
    · obtain ⟨e2, hd2, ms, rest, hms, hp, hc2, hl2⟩ := pv
      have hlen := hp.length_eq
      rw [List.length_append] at hlen
      have hr0 : rest = [] := List.eq_nil_of_length_eq_zero (by omega)
      subst hr0
      rw [List.append_nil] at hp
      exact k Dl ms H2 e2 (hd2.up (by omega)) hDl hp hD0 hl2
end
end U

set_option Elab.async false
set_option linter.all false
set_option maxRecDepth 100000
set_option maxHeartbeats 4000000
namespace U
open PySem PySem.Spec PyProof.Rows L2
open Evl (Ex)
section
variable {P : Program} {w : World} {K : PySem.W.Frag} {mg : Str → Option Value} {base : Heap}
theorem Dr.upd_ne {n : Nat} {H : Hp} {l t : Addr} {o : HO} (h : Dr n H l) (ne : t ≠ l) : Dr n (upd H t o) l := by
  obtain ⟨x, y, z, q1, q2⟩ := h
  exact ⟨x, y, z, by rw [L2.upd_ne (Ne.symm ne)]; exact q1, q2⟩
theorem Gr.exB {L : List Addr} {H H' : Hp} {l t : Addr} {ds : List PyData} (h : Gr K L H t ds) (e : ExB l H H') (m : l ∈ L) : Gr K L H' t ds := by
  obtain ⟨n, xs, h1, h2⟩ := h
  exact ⟨n, xs, e t _ (fun z => n (by rw [z]; exact m)) h1, h2.up (e.w (List.mem_cons_of_mem _ m))⟩
def spPickV (K : PySem.W.Frag) : Sp := fun vs H Q _ => ∃ (l t : Addr) (xs : List V) (n : Nat) (L : List Addr), vs = [.ref l, .ref t] ∧ Dr n H l ∧ n < 1000000 ∧ l ∈ L ∧ SqL K (W L H) t xs ∧ 0 < xs.length ∧ xs.length < 1073741824 ∧
  ∀ v o, v ∈ xs → Dr (n + 1) (upd H l o) l → Q v (upd H l o)
theorem ok_pickV {f : Addr} {fd : FuncData} (F : Fun K "_law_pick" "_law_pick" s_pick f fd) (T : TxB mg) (D_draw : DefAt P w K mg base "_law_draw" 1 ["_law_draws", "_law_many"] spDraw) : FnOk P w K mg base CX0 2 f fd ["_law_draws", "_law_things"] (spPickV K) := by
  refine F.ok sc_pick (fun vs H Q E h => ?_) (fun cdv A outer s H vs Q E hr h => ?_)
  · obtain ⟨_, _, _, _, _, rfl, _⟩ := h
    rfl
  · obtain ⟨l, t, xs, n, L, rfl, hd, hn, hL, hs, h0, h1, k⟩ := h
    refine ⟨_, (pss_one (ps_ret (pe_ix ix_list (pv 1) (pe_callD D_draw (by first | exact hr | exact hr.mono (by decide) | exact hr.mono (by omega)) (by rfl) (pa_cons (pv 0) (pa_cons (pe_callB call_len_seq (by rfl) T.m_len (by decide +kernel) (pa_cons (pv 1) pa_nil)) pa_nil))) (fun _ _ => rfl)))), ?_⟩
    refine ⟨_, rfl, _, rfl, _, rfl, t, xs, rfl, .inl (Evl.ex_l w_sub hs), ?_⟩
    refine ⟨l, _, n, rfl, hd, hn, by omega, by omega, fun r o r0 r1 hd' => ?_⟩
    have hr' : r.toNat < xs.length := by omega
    have er : ((r.toNat : Nat) : Int) = r := by omega
    refine ⟨t, xs, r, xs[r.toNat], rfl, rfl, Evl.ex_l (w_sub (L := L)) (by rw [w_upd_in hL]; exact hs), ?_, ?_⟩
    · have q := atI_nat (List.getElem?_eq_getElem hr')
      rw [er] at q
      exact q
    · exact k _ o (List.getElem_mem hr') hd'
theorem ok_rows {f : Addr} {fd : FuncData} (F : Fun K "_law_rows" "_law_rows" s_rows f fd) (T : TxF mg) (D_draw : DefAt P w K mg base "_law_draw" 1 ["_law_draws", "_law_many"] spDraw) (D_pick : DefAt P w K mg base "_law_pick" 2 ["_law_draws", "_law_things"] (spPickV K))
    (D_point : DefAt P w K mg base "_law_point" 2 ["_law_draws", "_law_places", "_law_wide"] (spPoint K)) : FnOk P w K mg base CX0 3 f fd ["_law_draws", "_law_places", "_law_most", "_law_wide"] (spRows K) := by
  refine F.ok sc_rows (fun vs H Q E h => ?_) (fun cdv A outer s H vs Q E hr h => ?_)
  · obtain ⟨_, _, _, _, _, _, rfl, _⟩ := h
    rfl
  · obtain ⟨l, p, m, wd, n, L, rfl, hd, hn, hl, hL, p1, p3, m0, m1, w0, w1, k⟩ := h
    refine ⟨_, (pss_cons (ps_set (i := 4) sc_rows.nd rfl (by first | exact Or.inl rfl | exact Or.inr rfl) (pe_lst pa_nil))
    (pss_cons (ps_for PassesOwn.never rfl (pi_range1 (by rfl) T.m_range (pa_cons (pe_callD D_draw (by first | exact hr | exact hr.mono (by decide) | exact hr.mono (by omega)) (by rfl) (pa_cons (pv 0) (pa_cons (pe_op op_add (pv 2) pe_int) pa_nil))) pa_nil)) (pg_name (i := 5) sc_rows.nd rfl (by first | exact Or.inl rfl | exact Or.inr rfl))
      (pss_cons (ps_set (i := 6) sc_rows.nd rfl (by first | exact Or.inl rfl | exact Or.inr rfl) (pe_callD D_point (by first | exact hr | exact hr.mono (by decide) | exact hr.mono (by omega)) (by rfl) (pa_cons (pv 0) (pa_cons (pv 1) (pa_cons (pv 3) pa_nil)))))
      (pss_cons (ps_if (PW.pt (pw_and (pt_cmpR (op_neD hr.units) (pv 4) (pe_lst pa_nil) (nomark _)) (pw_and1 (pt_cmpR op_eq (pe_callD D_draw (by first | exact hr | exact hr.mono (by decide) | exact hr.mono (by omega)) (by rfl) (pa_cons (pv 0) (pa_cons pe_int pa_nil))) pe_int (nomark _))))) (pss_one (ps_set (i := 6) sc_rows.nd rfl (by first | exact Or.inl rfl | exact Or.inr rfl) (pe_ix ix_tup (pe_callD D_pick (by first | exact hr | exact hr.mono (by decide) | exact hr.mono (by omega)) (by rfl) (pa_cons (pv 0) (pa_cons (pv 4) pa_nil))) pe_int (fun _ _ => rfl)))) pss_nil)
      (pss_one (ps_expr (pe_bm PySem.F.plainAttrs_list PySem.F.slot_list_append PySem.F.type_list_append mt_append (pv 4) (pa_cons (pe_tup (pa_cons (pv 6) (pa_cons (pe_cmpR op_eq (pe_callD D_draw (by first | exact hr | exact hr.mono (by decide) | exact hr.mono (by omega)) (by rfl) (pa_cons (pv 0) (pa_cons pe_int pa_nil))) pe_int (nomark _)) pa_nil))) pa_nil)))))))
    (pss_one (ps_ret (pv 4))))), ?_⟩
    refine Evl.q_asgL (xs := []) (Evl.el_lst Evl.ea_nil (by decide)) fun t H1 ht e1 ht1 => ?_
    have htl : t ≠ l := fun e => hd.ne (by rw [← e]; exact ht)
    have htL : t ∉ L := hid_not hL ht
    have lt : l ∈ t :: L := List.mem_cons_of_mem _ hl
    let Pv : Nat → L2.St → Hp → Prop := fun i σ' H' => ExB l H H' ∧ Dr (n + 1 + 7 * i) H' l ∧ (∃ ds : List PyData, ds.length = i ∧ Gr K L H' t ds ∧ ∀ d ∈ ds, Rw p d) ∧ ∃ s5 s6, σ' = [some (.ref l), some (.int p), some (.int m), some (.int wd), some (.ref t), s5, s6]
    refine draw_run (n := n) (many := m + 1) (by rfl) (hd.ex e1) (by omega) (Evl.ev_op (Evl.ev_var rfl) Evl.ev_c (Evl.rv_I0 (g := fun i j => .int (i + j)))) (by omega) (by omega) fun r H2 r0 r1 hd2 e2 => ⟨r, rfl, by omega, by omega, for_range (lo := 0) (n := r.toNat) Pv ?_ (fun i σ' H3 hi pv => ?_) (fun σ' H3 pv => ?_)⟩
    · refine ⟨(ExB.of e1).trans e2, hd2, ⟨[], rfl, ?_, fun _ z => nomatch z⟩, none, none, rfl⟩
      exact ⟨htL, [], e2 t _ htl ht1, .nil⟩
    · obtain ⟨e3, hd3, ⟨ds, hds, hg, hrw⟩, s5, s6, rfl⟩ := pv
      have hi100 : i < 101 := by omega
      -- the row is made and kept
      have app : ∀ (s5 : Option V) (v6 : V) (ns : List Int) (N : Nat) (H5 : Hp) (D : Ends), D.nx = Pv (i + 1) → ExB l H3 H5 → Dr N H5 l → N ≤ n + 1 + 7 * i + 6 → Gr K L H5 t ds → Dp K (W (t :: L) H5) v6 (.tuple (ns.map .int)) → (ns.length : Int) = p →
          tDrop (tBM K "list" rAppend (tVar 4) (tCons (tTup (tCons (tVar 6) (tCons (tOp rEq (tCallD spDraw (tCons (tVar 0) (tCons (tC (.int 2)) tNil))) (tC (.int 0))) tNil))) tNil)) D [some (.ref l), some (.int p), some (.int m), some (.int wd), some (.ref t), s5, some v6] H5 := by
        intro s5 v6 ns N H5 D hD e5 hd5 hN hg5 hv hns
        obtain ⟨_, xs, hx, hxs⟩ := id hg5
        have hlen := dpa_len hxs
        refine ⟨_, rfl, Or.inl ⟨rfl, xs, SqL.of hx⟩, _, rfl, ?_⟩
        refine draw_run (n := N) (many := 2) (by rfl) hd5 (by omega) Evl.ev_c (by omega) (by omega) fun q H6 q0 q1 hd6 e6 => ?_
        refine ⟨rfl, by show 2 ≤ sizeLine; decide, fun a ha => ?_⟩
        have g6 : Gr K L H6 t ds := hg5.exB e6 hl
        obtain ⟨_, xs6, hx6, hxs6⟩ := id g6
        have hlen6 := dpa_len hxs6
        have eN : Ex H6 (upd H6 a (.tup [v6, .bl (decide (V.int q = V.int 0))])) := Ex.new ha
        have hid6 : Hid (t :: L) H6 := fun b hb => by
          rcases List.mem_cons.mp hb with z | z
          · rw [z]
            exact g6.ne
          · exact (((e3.trans e5).trans e6).hid hd6.ne hL) b z
        refine ⟨t, xs6, .ref a, rfl, rfl, eN t _ hx6, Evl.sz_lt (by omega), ?_⟩
        show D.nx _ _
        rw [hD]
        refine ⟨?_, ?_, ⟨ds ++ [rowD ns (decide (V.int q = V.int 0))], by rw [List.length_append, hds]; rfl, ?_, ?_⟩, s5, some v6, rfl⟩
        · intro b o hb hbo
          have nb : b ≠ t := ne_of_none hbo ht
          rw [L2.upd_ne nb]
          exact eN b o (((e3.trans e5).trans e6) b o hb hbo)
        · exact ((hd6.ex eN).upd_ne htl).up (by omega)
        · refine gr_app htL (eN t _ hx6) (hxs6.up (w_ex eN)) (.tup (SqT.of (w_new hid6 ha)) (.cons ?_ (.cons (.bl _) .nil)))
          exact (hv.up (e6.w lt)).up (w_ex eN)
        · intro d hd
          rcases List.mem_append.mp hd with z | z
          · exact hrw d z
          · have : d = rowD ns (decide (V.int q = V.int 0)) := by simpa using z
            exact ⟨ns, _, this, hns, by omega⟩
      have hidt : ∀ {H5 : Hp}, ExB l H3 H5 → Dr 1000000 H5 l → Gr K L H5 t ds → Hid (t :: L) H5 := fun e5 hd5 g5 b hb => by
        rcases List.mem_cons.mp hb with z | z
        · rw [z]
          exact g5.ne
        · exact ((e3.trans e5).hid hd5.ne hL) b z
      refine ⟨_, rfl, _, rfl, _, rfl, l, p, wd, n + 1 + 7 * i, t :: L, rfl, hd3, by omega, lt, hidt (ExB.refl _ _) (hd3.up (by omega)) hg, p1, p3, w0, w1, fun v ns H4 e4 hd4 hns hv => ?_⟩
      have g4 : Gr K L H4 t ds := hg.exB e4 hl
      refine ⟨_, rfl, by show 0 ≤ sizeLine; exact Nat.zero_le _, fun q hq => ?_⟩
      have eq : Ex H4 (upd H4 q (.lst [])) := Ex.new hq
      have hRws : Rws p ds := ⟨by omega, hrw⟩
      refine ⟨.list ds, .list [], (g4.dp.up w_sub).up eq, .lst (SqL.of upd_same) .nil, hRws.shaped.2, by decide, _, rfl, ?_⟩
      have hdq : Dr (n + 1 + 7 * i + 3) (upd H4 q (.lst [])) l := hd4.ex eq
      refine ite2 (fun hb => ?_) (fun hb => ite2 (fun z => by cases z) fun _ => ?_)
      · have hne : 0 < ds.length := by
          rcases Nat.eq_zero_or_pos ds.length with z | z
          · have : ds = [] := List.eq_nil_of_length_eq_zero z
            subst this
            rw [PySem.SeqAt.eqv_refl _ (SeqAt.canLay_of_shaped hRws.shaped.2)] at hb
            cases hb
          · exact z
        refine draw_run (n := n + 1 + 7 * i + 3) (many := 6) (by rfl) hdq (by omega) Evl.ev_c (by omega) (by omega) fun c H5 c0 c1 hd5 e5 => ⟨rfl, _, rfl, ?_⟩
        have e45 : ExB l H3 H5 := (e4.trans (ExB.of eq)).trans e5
        have g5 : Gr K L H5 t ds := (g4.up eq).exB e5 hl
        refine ite2 (fun hc => ?_) (fun hc => ?_)
        · obtain ⟨_, ys, hy, hys⟩ := id g5
          have ylen := dpa_len hys
          refine ⟨_, rfl, _, rfl, l, t, ys, n + 1 + 7 * i + 3 + 1, L, rfl, hd5, by omega, hl, SqL.of (w_of htL hy), by omega, by omega, fun u o hum hd6 => ?_⟩
          obtain ⟨j, hj, rfl⟩ := List.getElem_of_mem hum
          obtain ⟨d, hd1, hd2⟩ := dpa_get hys (List.getElem?_eq_getElem hj)
          obtain ⟨ns2, b2, rfl, hns2, _⟩ := hrw d (List.mem_of_getElem? hd1)
          have e6 : ExB l H5 (upd H5 l o) := ExB.upd
          have hd3 := hd2.up (e6.w lt)
          generalize ys[j] = u at hd3 ⊢
          cases hd3 with
          | @tup a6 zs _ hs6 ha6 =>
            cases ha6 with
            | @cons v6 _ _ _ r6 rr6 =>
              cases rr6 with
              | @cons v7 _ _ _ r7 rr7 =>
                cases rr7
                refine ⟨a6, [v6, v7], 0, v6, rfl, rfl, Evl.ex_t w_sub hs6, rfl, ?_⟩
                exact app _ v6 ns2 (n + 1 + 7 * i + 3 + 1 + 1) _ _ rfl (e45.trans e6) hd6 (by omega) (g5.exB e6 hl) r6 hns2
        · exact app _ v ns (n + 1 + 7 * i + 3 + 1) H5 _ rfl e45 hd5 (by omega) g5 ((hv.up (w_ex eq)).up (e5.w lt)) hns
      · exact app _ v ns (n + 1 + 7 * i + 3) (upd H4 q (.lst [])) _ rfl (e4.trans (ExB.of eq)) hdq (by omega) (g4.up eq) (hv.up (w_ex eq)) hns
    · obtain ⟨e3, hd3, ⟨ds, hds, hg, hrw⟩, s5, s6, rfl⟩ := pv
      exact Evl.s_ret (Evl.ev_var rfl) fun H4 e4 => k t ds H4 (e3.trans (ExB.of e4)) ((hd3.ex e4).up (by omega)) (hg.up e4) (by omega) hrw
end
end U

set_option Elab.async false
set_option linter.all false
set_option maxRecDepth 100000
set_option maxHeartbeats 4000000
namespace U
open PySem PySem.Spec PyProof.Rows L2
open Evl (Ex)
open C8 (Met Mak pe_mt pe_mt0 pe_mk)
abbrev s_sum : Stmt := top 30
abbrev sc_sum_N : List Str := ["_law_one", "_law_other", "_law_found"]
theorem sc_sum : FnScope sc_sum_N ["_law_one", "_law_other"] (defScope s_sum) := ⟨rfl, rfl, rfl, by decide +kernel, rfl, by decide +kernel, by decide +kernel⟩
abbrev s_law : Stmt := top 31
abbrev sc_law_N : List Str := ["_law_script", "_law_turn", "_law_draws", "_law_places", "_law_more", "_law_rows_here", "_law_others", "_law_one", "_law_other", "_law_order", "_law_some", "_law_part", "_law_left", "_law_due", "_law_rest", "_law_turned_here", "_law_at", "_law_row"]
theorem sc_law : FnScope sc_law_N ["_law_script"] (defScope s_law) := ⟨rfl, rfl, rfl, by decide +kernel, rfl, by decide +kernel, by decide +kernel⟩
def spSum (K : PySem.W.Frag) (C : Addr) : Sp := fun vs H Q _ => ∃ x y p q ds es L, vs = [.ref x, .ref y] ∧ Hid L H ∧ Smp K L H x C p ds ∧ Smp K L H y C q es ∧ 1 ≤ p ∧ p ≤ 3 ∧ Rws p ds ∧ Rws q es ∧ ds.length + es.length ≤ 20000 ∧
  (p = q → ∀ t H', Ex H H' → Gr K L H' t (ds ++ es) → Q (.ref t) H') ∧ (p ≠ q → ∀ H', Ex H H' → Q .non H')
structure AddAt (P : Program) (w : World) (K : PySem.W.Frag) (mg : Str → Option Value) (base : Heap) (C U : Addr) : Prop where
  ex : ∃ (f : Addr) (fd : FuncData), FnOk P w K mg base (L2.CX P w) 7 f fd ["self", "other"] (spAdd K C U) ∧ PySem.W.findIn K (.ref C) "__add__" = some (some (.ref f)) ∧ PySem.W.isFn K (.ref f) = true ∧ PySem.W.selfFirst K C = true ∧ Binds K fd ["self", "other"] []
structure EqS (P : Program) (w : World) (K : PySem.W.Frag) (mg : Str → Option Value) (base : Heap) (C : Addr) : Prop where
  ex : ∃ (f : Addr) (fd : FuncData), FnOk P w K mg base CX0 1 f fd ["self", "other"] (spEq (SameS K C)) ∧ PySem.W.findIn K (.ref C) "__eq__" = some (some (.ref f)) ∧ PySem.W.isFn K (.ref f) = true ∧ Binds K fd ["self", "other"] []
theorem op_eqS {X : Cx} {C : Addr} (O : EqS X.prog X.w X.K X.mg X.base C) (hr : Room 1 X.A) : OpR X (compareOp .Eq) (rEqG (DIns C (SameS X.K C))) := by
  obtain ⟨f, fd, F, h1, h2, h3⟩ := O.ex
  exact op_eqG (rcG_ins (E := E0) F h1 h2 h3 pass0) hr
theorem pe_add {X : Cx} {C U : Addr} {W : WX} {a b : Expr} {ta tb : TE} {pos : Pos} (O : AddAt X.prog X.w X.K X.mg X.base C U) (hr : Room 7 X.A) (tk : Takes X W) (ha : PE X a ta) (hb : PE X b tb) : PE X (.BinOp a .Add b pos) (tOwn C (spAdd X.K C U) (WE W) ta tb) := by
  obtain ⟨f, fd, F, h1, h2, h3, h4⟩ := O.ex
  exact pe_own F hr h1 h2 h3 h4 (fun σ => passAt tk σ) ha hb
theorem exm_self {K : PySem.W.Frag} {mg : Str → Option Value} {S : Addr} (Y : UnC K mg S) : PySem.W.exmOne K (.ref S) (.ref S) = some true := by
  have e1 : (PySem.W.subIn K (.ref S) (.type "BaseException") == some true) = true := by rw [Y.bU] <;> rfl
  have e2 : ((PySem.W.clsIn K S).isSome && PySem.W.typeIn K (.ref S) == some (.type "type")) = true := by
    rw [Y.iU, Y.tU] <;> rfl
  show (if (PySem.W.subIn K (.ref S) (.type "BaseException") == some true) = true then (if ((PySem.W.clsIn K S).isSome && PySem.W.typeIn K (.ref S) == some (.type "type")) = true then PySem.W.subIn K (.ref S) (.ref S) else none) else none) = some true
  rw [if_pos e1, if_pos e2]
  exact Y.sU
section
variable {P : Program} {w : World} {K : PySem.W.Frag} {mg : Str → Option Value} {base : Heap} {C U : Addr}
theorem ok_sum {f : Addr} {fd : FuncData} (F : Fun K "_law_sum" "_law_sum" s_sum f fd) (Y : UnC K mg U) (O_add : AddAt P w K mg base C U) (M_examples : Met P w K mg base 1 C "examples" (spExamples K C) []) : FnOk P w K mg base CX0 8 f fd ["_law_one", "_law_other"] (spSum K C) := by
  refine F.ok sc_sum (fun vs H Q E h => ?_) (fun cdv A outer s H vs Q E hr h => ?_)
  · obtain ⟨_, _, _, _, _, _, _, rfl, _⟩ := h
    rfl
  · obtain ⟨x, y, p, q, ds, es, L, rfl, hL, h1, h2, p1, p3, hR, hR2, hz, k1, k2⟩ := h
    refine ⟨_, (pss_cons (ps_set (i := 2) sc_sum.nd rfl (by first | exact Or.inl rfl | exact Or.inr rfl) pe_non)
      (pss_cons (ps_try_only (c := .ref U) (tb := fun W => tAsg (tMeth C "examples" (spExamples K C) [] E0 (tOwn C (spAdd K C U) (WE W) (tVar 0) (tVar 1)) tNil) (gName 2)) (ts := fun _ _ _ => tAsg (tC .non) (gName 2)) (Wout := fun _ _ _ _ => False) rfl rfl ⟨rfl, by decide, Or.inl Y.gU⟩ takes_none5
        (fun W pn xe tk _ => pss_one (ps_set (i := 2) sc_sum.nd rfl (by first | exact Or.inl rfl | exact Or.inr rfl) (by exact (pe_mt0 M_examples hr (by decide) (by exact (pe_add O_add hr tk (pv 0) (pv 1)))))))
        (fun a oe cls d pn hz hf => pss_one (ps_set (i := 2) sc_sum.nd rfl (by first | exact Or.inl rfl | exact Or.inr rfl) pe_non)))
      (pss_one (ps_ret (pv 2))))), ?_⟩
    obtain ⟨dx, t, xs, hx, _⟩ := h1.inv
    obtain ⟨dy, t2, ys, hy, _⟩ := h2.inv
    refine ⟨_, rfl, _, rfl, x, y, dx, dy, _, _, rfl, rfl, hx, hy, x, y, p, q, ds, es, L, rfl, hL, h1, h2, p1, p3, hR, hR2, hz, fun e z H1 e1 hz1 => ⟨z, rfl, ?_⟩, fun ne H1 e1 => ?_⟩
    · obtain ⟨dz, v, hz2, hzd⟩ := id hz1
      refine ⟨z, dz, _, rfl, hz2, rfl, z, p, ds ++ es, L, rfl, hid_ex e1 hL, hz1, fun t H2 ht e2 g => ?_⟩
      exact Evl.s_ret (Evl.ev_var rfl) fun H3 e3 => k1 e t H3 ((e1.trans e2).trans e3) (g.up e3)
    · refine ⟨true, exm_self Y, fun _ a ha => ?_, fun z => nomatch z⟩
      exact Evl.s_ret (Evl.ev_var rfl) fun H3 e3 => k2 ne H3 (e1.trans e3)
end
end U

set_option Elab.async false
set_option linter.all false
set_option maxRecDepth 100000
set_option maxHeartbeats 8000000
namespace U
open PySem PySem.Spec PyProof.Rows L2
open Evl (Ex)
open C8 (Met Mak pe_mt pe_mt0 pe_mk)
section
variable {P : Program} {w : World} {K : PySem.W.Frag} {mg : Str → Option Value} {base : Heap} {C U : Addr} {L : List Addr} {σ : L2.St} {H H0 H' : Hp} {l x y t t2 : Addr} {p q : Int} {ds es : List PyData} {te tf ta tb : TE} {d : PyData} {n : Nat}
theorem Dr.notIns {dx : Addr} {fs : List (Str × V)} (hd : Dr n H l) (h : H x = some (.ins C dx fs)) : x ≠ l := fun e => by
  obtain ⟨a, b, c, q1, _⟩ := hd
  rw [e, q1] at h
  cases h
theorem Smp.exB (h : Smp K L H x C p ds) (hd : Dr n H l) (e : ExB l H H') (m : l ∈ L) : Smp K L H' x C p ds := by
  obtain ⟨dx, v, h1, h2⟩ := h
  exact ⟨dx, v, e _ _ (hd.notIns h1) h1, h2.up (e.w m)⟩
theorem exB_new (hl : H l = none) (e : Ex H H0) (b : ExB l H0 H') : Ex H H' := fun a o h => b a o (ne_of_none h hl) (e a o h)
theorem draw_runJ {j : Nat} {tm : TE} {many : Int} {Q : VK} (h0 : σ[j]? = some (some (.ref l))) (hd : Dr n H l) (hn : n < 1000000) (hm : Evl.Ev tm σ H (.int many)) (m0 : 0 < many) (m1 : many < 1073741824)
    (k : ∀ r H', 0 ≤ r → r < many → Dr (n + 1) H' l → ExB l H H' → Q (.int r) H') : tCallD spDraw (tCons (tVar j) (tCons tm tNil)) σ H Q :=
  ⟨_, h0, hm H (Ex.refl H) _ fun H1 e1 => ⟨l, many, n, rfl, hd.ex e1, hn, m0, m1, fun r o r0 r1 hd' => k r _ r0 r1 hd' ((ExB.of e1).trans ExB.upd)⟩⟩
theorem evS_var (h : Evl.Ev te σ H (.ref x)) (hS : Smp K L H x C p ds) : EvS K L C p ds te σ H := fun H1 e Q q => h H1 e _ fun H2 e2 => q x H2 e2 (hS.up (e.trans e2))
theorem eg_examples (h : Evl.Ev te σ H (.ref x)) (hS : Smp K L H x C p ds) (hL : Hid L H) : EvG K L (tMeth C "examples" (spExamples K C) [] E0 te tNil) σ H ds := fun H1 e Q q => h H1 e _ fun H2 e2 => by
  have hS2 := hS.up (e.trans e2)
  obtain ⟨dx, v, h1, h2⟩ := id hS2
  exact ⟨x, dx, _, rfl, h1, rfl, x, p, ds, L, rfl, hid_ex (e.trans e2) hL, hS2, fun t H3 ht e3 g => q t H3 (Evl.fresh_back e2 ht) (e2.trans e3) g⟩
theorem es_turned (h : Evl.Ev te σ H (.ref x)) (hS : Smp K L H x C p ds) (hL : Hid L H) (p1 : 1 ≤ p) (p3 : p ≤ 3) (hR : Rws p ds) : EvS K L C p (ds.map flip1) (tMeth C "turned" (spTurned K C) [] E0 te tNil) σ H := fun H1 e Q q => h H1 e _ fun H2 e2 => by
  have hS2 := hS.up (e.trans e2)
  obtain ⟨dx, v, h1, h2⟩ := id hS2
  exact ⟨x, dx, _, rfl, h1, rfl, x, p, ds, L, rfl, hid_ex (e.trans e2) hL, hS2, p1, p3, hR, fun y H3 e3 g => q y H3 (e2.trans e3) g⟩
theorem Idx.up {a : Addr} {ns : List Int} (h : Idx K H a ns n) (e : Ex H H') : Idx K H' a ns n := ⟨h.1.imp (Evl.ex_l e) (Evl.ex_t e), h.2⟩
theorem es_part {a : Addr} {m : Str} {c : List Int → Nat → Bool} {ns : List Int} (hm : List.lookup m [("places", V.int p), ("_pairs", V.non)] = none) (h : Evl.Ev te σ H (.ref x)) (ha : Evl.Ev ta σ H (.ref a)) (hS : Smp K L H x C p ds) (hL : Hid L H) (p1 : 1 ≤ p) (p3 : p ≤ 3) (hR : Rws p ds) (hI : Idx K H a ns ds.length) :
    EvS K L C p (sel (c ns) ds ds.length) (tMeth C m (spPart K C c) [] E0 te (tCons ta tNil)) σ H := fun H1 e Q q => h H1 e _ fun H2 e2 => by
  have hS2 := hS.up (e.trans e2)
  obtain ⟨dx, v, h1, h2⟩ := id hS2
  have hm' : List.lookup m [("places", V.int p), ("_pairs", v)] = none := by
    simp only [List.lookup] at hm ⊢
    split at hm
    · cases hm
    · split at hm
      · cases hm
      · rfl
  refine ⟨x, dx, _, rfl, h1, hm', ha H2 (e.trans e2) _ fun H3 e3 => ?_⟩
  have eA := (e.trans e2).trans e3
  exact ⟨x, a, p, ds, ns, L, rfl, hid_ex eA hL, hS.up eA, p1, p3, hR, hI.up eA, fun y H4 e4 g => q y H4 ((e2.trans e3).trans e4) g⟩
theorem evd_sum (h1 : Evl.Ev ta σ H (.ref x)) (h2 : Evl.Ev tb σ H (.ref y)) (hS : Smp K L H x C p ds) (hS2 : Smp K L H y C q es) (hL : Hid L H) (p1 : 1 ≤ p) (p3 : p ≤ 3) (hR : Rws p ds) (hR2 : Rws q es) (hz : ds.length + es.length ≤ 20000) :
    EvD K L (tCallD (spSum K C) (tCons ta (tCons tb tNil))) σ H (if p = q then .list (ds ++ es) else .none) := fun H1 e Q k => h1 H1 e _ fun H2 e2 => h2 H2 (e.trans e2) _ fun H3 e3 => by
  have eA := (e.trans e2).trans e3
  refine ⟨x, y, p, q, ds, es, L, rfl, hid_ex eA hL, hS.up eA, hS2.up eA, p1, p3, hR, hR2, hz, fun eq t H4 e4 g => ?_, fun ne H4 e4 => ?_⟩
  · refine k _ _ ((e2.trans e3).trans e4) ?_
    rw [if_pos eq]
    exact g.dp
  · refine k _ _ ((e2.trans e3).trans e4) ?_
    rw [if_neg ne]
    exact .non
theorem eg_turn (h : Evl.Ev te σ H (.ref t)) (g : Gr K L H t ds) (hL : Hid L H) (hR : Rws p ds) : EvG K L (tCallD (spTurn K) (tCons te tNil)) σ H (ds.map flip1) := fun H1 e Q q => h H1 e _ fun H2 e2 =>
  ⟨t, p, ds, L, rfl, hid_ex (e.trans e2) hL, (g.up (e.trans e2)).dp, hR, fun u H3 hu e3 g3 => q u H3 (Evl.fresh_back e2 hu) (e2.trans e3) g3⟩
theorem evd_catG (h1 : Evl.Ev ta σ H (.ref t)) (h2 : Evl.Ev tb σ H (.ref t2)) (g : Gr K L H t ds) (g2 : Gr K L H t2 es) (hL : Hid L H) (hz : ds.length + es.length ≤ 20000) : EvD K L (tOp rCat ta tb) σ H (.list (ds ++ es)) := fun H1 e Q q => h1 H1 e _ fun H2 e2 => h2 H2 (e.trans e2) _ fun H3 e3 => by
  have eA := (e.trans e2).trans e3
  obtain ⟨n1, xs, a1, a2⟩ := g.up eA
  obtain ⟨n2, ys, b1, b2⟩ := g2.up eA
  have l1 := dpa_len a2
  have l2 := dpa_len b2
  refine ⟨t, t2, xs, ys, rfl, rfl, a1, b1, Evl.sz_of (by omega), fun r hr => ?_⟩
  refine q _ _ ((e2.trans e3).trans (Ex.new hr)) (.lst (SqL.of (w_new (hid_ex eA hL) hr)) ?_)
  exact dpa_app ((a2.up w_cons).up (w_ex (Ex.new hr))) ((b2.up w_cons).up (w_ex (Ex.new hr)))
theorem evd_if {b : Bool} {tt : TT} (h : Evl.EvT tt σ H b) (h1 : b = true → EvD K L ta σ H d) (h2 : b = false → EvD K L tb σ H d) : EvD K L (tIf tt ta tb) σ H d := fun H1 e Q q => h H1 e _ fun H2 e2 => by
  cases b with
  | true =>
    rw [if_pos rfl]
    exact h1 rfl H2 (e.trans e2) Q fun v H3 e3 hv => q v H3 (e2.trans e3) hv
  | false =>
    rw [if_neg (by simp)]
    exact h2 rfl H2 (e.trans e2) Q fun v H3 e3 hv => q v H3 (e2.trans e3) hv
theorem ev_eqSS (h1 : EvS K L C p ds te σ H) (h2 : EvS K L C p ds tf σ H) (hR : Rws p ds) : Evl.Ev (tOp (rEqG (DIns C (SameS K C))) te tf) σ H (.bl true) := fun H1 e Q q => h1 H1 e _ fun y H2 e2 hy => h2 H2 (e.trans e2) _ fun z H3 e3 hz => by
  obtain ⟨dy, v, a1, a2⟩ := hy.up e3
  obtain ⟨dz, u, b1, b2⟩ := id hz
  exact ⟨⟨y, z, dy, dz, _, _, rfl, rfl, a1, b1, L, p, ds, hy.up e3, hz, hR⟩, fun H4 e4 => q H4 ((e2.trans e3).trans e4)⟩
theorem ev_same {n : Nat} (h1 : EvD K L te σ H d) (h2 : EvD K L tf σ H d) (hf : fits n d) : Evl.Ev (tCallD (spSame K n) (tCons te (tCons tf tNil))) σ H (.bl true) := fun H1 e Q q =>
  h1 H1 e _ fun v H2 e2 hv => h2 H2 (e.trans e2) _ fun w H3 e3 hw => ⟨v, w, d, rfl, (hv.up (w_ex e3)).up w_sub, hw.up w_sub, hf, fun H4 e4 => q H4 ((e2.trans e3).trans e4)⟩
theorem q_asgG {D : Ends} {tz : TS} {i : Nat} (h : EvG K L te σ H ds) (k : ∀ u H1, Ex H H1 → Gr K L H1 u ds → tz D (σ.set i (some (.ref u))) H1) : tSeq (tAsg te (gName i)) tz D σ H := h H (Ex.refl H) _ fun u H1 _ e g => k u H1 e g
theorem q_asgS {D : Ends} {tz : TS} {i : Nat} (h : EvS K L C p ds te σ H) (k : ∀ y H1, Ex H H1 → Smp K L H1 y C p ds → tz D (σ.set i (some (.ref y))) H1) : tSeq (tAsg te (gName i)) tz D σ H := h H (Ex.refl H) _ fun y H1 e g => k y H1 e g
theorem q_parS {D : Ends} {tz : TS} {i j : Nat} {q : Int} (h1 : EvS K L C p ds te σ H) (h2 : EvS K L C q es tf σ H) (k : ∀ y z H1, Ex H H1 → Smp K L H1 y C p ds → Smp K L H1 z C q es → tz D ((σ.set i (some (.ref y))).set j (some (.ref z))) H1) : tSeq (tPar i j (tCons te (tCons tf tNil))) tz D σ H :=
  h1 H (Ex.refl H) _ fun y H1 e1 s1 => h2 H1 e1 _ fun z H2 e2 s2 => ⟨_, _, rfl, k y z H2 (e1.trans e2) (s1.up e2) s2⟩
theorem q_parDraw {D : Ends} {tz : TS} {i j m : Nat} (h0 : σ[m]? = some (some (.ref l))) (hd : Dr n H l) (hn : n < 900000) (k : ∀ p q H', 1 ≤ p → p ≤ 3 → 1 ≤ q → q ≤ 3 → Dr (n + 2) H' l → ExB l H H' → tz D ((σ.set i (some (.int p))).set j (some (.int q))) H') :
    tSeq (tPar i j (tCons (tOp (rI0 fun i j => .int (i + j)) (tC (.int 1)) (tCallD spDraw (tCons (tVar m) (tCons (tC (.int 3)) tNil)))) (tCons (tOp (rI0 fun i j => .int (i + j)) (tC (.int 1)) (tCallD spDraw (tCons (tVar m) (tCons (tC (.int 3)) tNil)))) tNil))) tz D σ H :=
  draw_runJ (n := n) (many := 3) h0 hd (by omega) Evl.ev_c (by decide) (by decide) fun r H3 r0 r1 hd3 b3 => ⟨1, r, rfl, rfl, draw_runJ (n := n + 1) (many := 3) h0 hd3 (by omega) Evl.ev_c (by decide) (by decide) fun s H4 s0 s1 hd4 b4 =>
    ⟨1, s, rfl, rfl, _, _, rfl, k (1 + r) (1 + s) H4 (by omega) (by omega) (by omega) (by omega) hd4 (b3.trans b4)⟩⟩
theorem lstRg_run {m : Int} {Q : VK} (h : Evl.Ev ta σ H (.int m)) (h0 : 0 ≤ m) (h1 : m ≤ 16777216) (k : ∀ g H1, Ex H H1 → H1 g = none → Q (.ref g) (upd H1 g (.lst (rgV 0 m)))) : tLstRg (tRg1 ta) σ H Q :=
  h H (Ex.refl H) _ fun H1 e => ⟨m, rfl, RgOk.of_le (by decide) h1 (by decide) h0, fun g hg => k g H1 e hg⟩
theorem flip_flip (hR : Rws p ds) : (ds.map flip1).map flip1 = ds := by
  rw [List.map_map]
  have e : ∀ d ∈ ds, (flip1 ∘ flip1) d = d := fun d hd => by
    obtain ⟨ns, b, rfl, _⟩ := hR.2 d hd
    show PyData.tuple [.tuple (ns.map .int), .bool (!!b)] = .tuple [.tuple (ns.map .int), .bool b]
    rw [Bool.not_not]
  rw [List.map_congr_left e]
  exact List.map_id' _
theorem fits2 {A B : List PyData} (h1 : fits 3 (.list A)) (h2 : fits 3 (.list B)) : fits 4 (.list [.list A, .list B]) := ⟨by show 2 ≤ 40000; omega, fun e he => by
  rcases List.mem_cons.mp he with z | z
  · rw [z]
    exact h1
  · rw [List.mem_singleton.mp z]
    exact h2⟩
theorem cut_map (ms : List Int) (lo hi : Option Int) : ∃ os : List Int, cutV (ms.map V.int) lo hi = os.map V.int ∧ os.Sublist ms := by
  unfold cutV
  rw [← List.map_drop, ← List.map_take]
  exact ⟨_, rfl, (List.take_sublist _ _).trans (List.drop_sublist _ _)⟩
theorem range_ints (n : Nat) : rgV 0 (n : Int) = (((List.range n).map fun i => (0 : Int) + (i : Nat))).map V.int := by
  unfold rgV
  rw [List.map_map]
  congr 1
theorem hid1 {H : Hp} {l : Addr} (h : H l ≠ none) : Hid [l] H := fun a m => by
  rw [List.mem_singleton.mp m]
  exact h
theorem range_nodup (n : Nat) : ((List.range n).map fun i => (0 : Int) + (i : Nat)).Nodup := by
  refine List.pairwise_map.mpr (List.Pairwise.imp ?_ (List.nodup_range (n := n)))
  intro a b h e
  exact h (by omega)
end
end U

set_option Elab.async false
set_option linter.all false
set_option maxRecDepth 100000
set_option maxHeartbeats 8000000
namespace U
open PySem PySem.Spec PyProof.Rows L2
open Evl (Ex)
open C8 (Met Mak pe_mt pe_mt0 pe_mk)
def spLaw (K : PySem.W.Frag) : Sp := fun vs H Q _ => ∃ (a : Addr) (ns : List Int), vs = [.ref a] ∧ SqL K H a (ns.map V.int) ∧ ns.length ≤ 63 ∧ ∀ H', Q (.bl true) H'
section
variable {P : Program} {w : World} {K : PySem.W.Frag} {mg : Str → Option Value} {base : Heap} {C U : Addr}
theorem ok_law {f : Addr} {fd : FuncData} (F : Fun K "law" "law" s_law f fd) (T : TxF mg) (S : SmpC K C) (D_source : DefAt P w K mg base "_law_source" 1 ["_law_script", "_law_at"] (spSource K)) (D_draw : DefAt P w K mg base "_law_draw" 1 ["_law_draws", "_law_many"] spDraw)
    (D_rows : DefAt P w K mg base "_law_rows" 3 ["_law_draws", "_law_places", "_law_most", "_law_wide"] (spRows K)) (D_mixed : DefAt P w K mg base "_law_mixed" 2 ["_law_draws", "_law_things"] (spMixed K)) (D_turned : DefAt P w K mg base "_law_turned" 1 ["_law_rows_here"] (spTurn K))
    (D_same : DefAt P w K mg base "_law_same" 5 ["_law_found", "_law_due"] (spSame K 4)) (D_sum : DefAt P w K mg base "_law_sum" 8 ["_law_one", "_law_other"] (spSum K C)) (N_Sample : Mak P w K mg base 5 "Sample" C (spInit K C) [])
    (M_examples : Met P w K mg base 1 C "examples" (spExamples K C) []) (M_part : Met P w K mg base 7 C "part" (spPart K C cIn) []) (M_without : Met P w K mg base 7 C "without" (spPart K C cOut) []) (M_turned : Met P w K mg base 7 C "turned" (spTurned K C) []) (O_eq : EqS P w K mg base C) :
    FnOk P w K mg base CX0 9 f fd ["_law_script"] (spLaw K) := by
  refine F.ok sc_law (fun vs H Q E h => ?_) (fun cdv A outer s H vs Q E hr h => ?_)
  · obtain ⟨_, _, rfl, _⟩ := h
    rfl
  · obtain ⟨a, ns, rfl, hS, hlen, k⟩ := h
    refine ⟨_, (pss_cons (ps_for PassesOwn.never rfl (pi_range1 (by rfl) T.m_range (pa_cons pe_int pa_nil)) (pg_name (i := 1) sc_law.nd rfl (by first | exact Or.inl rfl | exact Or.inr rfl))
      (pss_cons (ps_set (i := 2) sc_law.nd rfl (by first | exact Or.inl rfl | exact Or.inr rfl) (pe_callD D_source (by first | exact hr | exact hr.mono (by decide) | exact hr.mono (by omega)) (by rfl) (pa_cons (pv 0) (pa_cons (pv 1) pa_nil))))
      (pss_cons (ps_par (i := 3) (j := 4) (by rfl) sc_law.nd rfl rfl (by decide) rfl rfl (pa_cons (pe_op op_add pe_int (pe_callD D_draw (by first | exact hr | exact hr.mono (by decide) | exact hr.mono (by omega)) (by rfl) (pa_cons (pv 2) (pa_cons pe_int pa_nil)))) (pa_cons (pe_op op_add pe_int (pe_callD D_draw (by first | exact hr | exact hr.mono (by decide) | exact hr.mono (by omega)) (by rfl) (pa_cons (pv 2) (pa_cons pe_int pa_nil)))) pa_nil)) (by rfl))
      (pss_cons (ps_par (i := 5) (j := 6) (by rfl) sc_law.nd rfl rfl (by decide) rfl rfl (pa_cons (pe_callD D_rows (by first | exact hr | exact hr.mono (by decide) | exact hr.mono (by omega)) (by rfl) (pa_cons (pv 2) (pa_cons (pv 3) (pa_cons pe_int (pa_cons pe_int pa_nil))))) (pa_cons (pe_callD D_rows (by first | exact hr | exact hr.mono (by decide) | exact hr.mono (by omega)) (by rfl) (pa_cons (pv 2) (pa_cons (pv 4) (pa_cons pe_int (pa_cons pe_int pa_nil))))) pa_nil)) (by rfl))
      (pss_cons (ps_par (i := 7) (j := 8) (by rfl) sc_law.nd rfl rfl (by decide) rfl rfl (pa_cons (pe_mk N_Sample hr (by decide) (by rfl) (pa_cons (pv 3) (pa_cons (pv 5) pa_nil))) (pa_cons (pe_mk N_Sample hr (by decide) (by rfl) (pa_cons (pv 4) (pa_cons (pv 6) pa_nil))) pa_nil)) (by rfl))
      (pss_cons (ps_if (pt_not (pt_val (pe_callD D_same (by first | exact hr | exact hr.mono (by decide) | exact hr.mono (by omega)) (by rfl) (pa_cons (pe_callD D_sum (by first | exact hr | exact hr.mono (by decide) | exact hr.mono (by omega)) (by rfl) (pa_cons (pv 7) (pa_cons (pv 8) pa_nil))) (pa_cons (pe_ifExp (pt_cmpR op_eq (pv 3) (pv 4) (nomark _)) (pe_op op_cat (pv 5) (pv 6)) pe_non) pa_nil))))) (pss_one (ps_ret pe_bl)) pss_nil)
      (pss_cons (ps_if (pt_not (pt_val (pe_callD D_same (by first | exact hr | exact hr.mono (by decide) | exact hr.mono (by omega)) (by rfl) (pa_cons (pe_callD D_sum (by first | exact hr | exact hr.mono (by decide) | exact hr.mono (by omega)) (by rfl) (pa_cons (pv 7) (pa_cons (pv 7) pa_nil))) (pa_cons (pe_op op_cat (pv 5) (pv 5)) pa_nil))))) (pss_one (ps_ret pe_bl)) pss_nil)
      (pss_cons (ps_set (i := 9) sc_law.nd rfl (by first | exact Or.inl rfl | exact Or.inr rfl) (pe_slice sl_list (pe_callD D_mixed (by first | exact hr | exact hr.mono (by decide) | exact hr.mono (by omega)) (by rfl) (pa_cons (pv 2) (pa_cons (pe_listRg (by rfl) (by rfl) T.m_list (prg_1 (by rfl) T.m_range (pe_callB call_len_seq (by rfl) T.m_len (by decide +kernel) (pa_cons (pv 5) pa_nil)))) pa_nil))) po_none (po_some (pe_callD D_draw (by first | exact hr | exact hr.mono (by decide) | exact hr.mono (by omega)) (by rfl) (pa_cons (pv 2) (pa_cons (pe_op op_add (pe_callB call_len_seq (by rfl) T.m_len (by decide +kernel) (pa_cons (pv 5) pa_nil)) pe_int) pa_nil))))))
      (pss_cons (ps_for PassesOwn.never rfl (pi_tup (pe_tup (pa_cons (pv 9) (pa_cons (pe_callTy call_tuple_of (by rfl) T.m_tuple (by decide +kernel) (pa_cons (pv 9) pa_nil)) pa_nil)))) (pg_name (i := 10) sc_law.nd rfl (by first | exact Or.inl rfl | exact Or.inr rfl))
        (pss_cons (ps_par (i := 11) (j := 12) (by rfl) sc_law.nd rfl rfl (by decide) rfl rfl (pa_cons (pe_mt M_part hr (by decide) (pv 7) (pa_cons (pv 10) pa_nil)) (pa_cons (pe_mt M_without hr (by decide) (pv 7) (pa_cons (pv 10) pa_nil)) pa_nil)) (by rfl))
        (pss_cons (ps_setLc (i := 13) (own := [("_law_at", 16), ("_law_row", 17)]) (g := gTup K 2 (gCons (gName 16) (gCons (gName 17) (gNil)))) (tt := tTest (tOp (rIn K false) (tVar 16) (tVar 9))) (by rfl) sc_law.nd rfl rfl (sw_true rfl rfl rfl (by decide +kernel)) (pi_enumA (by rfl) T.m_enumerate (pa_cons (pv 5) pa_nil)) (blkOk_by (N := sc_law_N) (sc := defScope s_law) (by decide +kernel)) (fun _ _ _ _ _ => (pg_tup (by rfl) (pgs_cons (pg_name (i := 16) sc_law.nd rfl (by first | exact Or.inl rfl | exact Or.inr rfl)) (pgs_cons (pg_name (i := 17) sc_law.nd rfl (by first | exact Or.inl rfl | exact Or.inr rfl)) pgs_nil)))) (fun _ _ _ _ _ => pts_one (pt_cmpR op_in_seq (pv 16) (pv 9) (by rfl))) (fun _ _ _ _ _ => (pv 17)))
        (pss_cons (ps_setLc (i := 14) (own := [("_law_at", 16), ("_law_row", 17)]) (g := gTup K 2 (gCons (gName 16) (gCons (gName 17) (gNil)))) (tt := tTest (tOp (rIn K true) (tVar 16) (tVar 9))) (by rfl) sc_law.nd rfl rfl (sw_true rfl rfl rfl (by decide +kernel)) (pi_enumA (by rfl) T.m_enumerate (pa_cons (pv 5) pa_nil)) (blkOk_by (N := sc_law_N) (sc := defScope s_law) (by decide +kernel)) (fun _ _ _ _ _ => (pg_tup (by rfl) (pgs_cons (pg_name (i := 16) sc_law.nd rfl (by first | exact Or.inl rfl | exact Or.inr rfl)) (pgs_cons (pg_name (i := 17) sc_law.nd rfl (by first | exact Or.inl rfl | exact Or.inr rfl)) pgs_nil)))) (fun _ _ _ _ _ => pts_one (pt_cmpR op_notIn_seq (pv 16) (pv 9) (by rfl))) (fun _ _ _ _ _ => (pv 17)))
        (pss_cons (ps_if (pt_not (pt_val (pe_callD D_same (by first | exact hr | exact hr.mono (by decide) | exact hr.mono (by omega)) (by rfl) (pa_cons (pe_lst (pa_cons (pe_mt0 M_examples hr (by decide) (pv 11)) (pa_cons (pe_mt0 M_examples hr (by decide) (pv 12)) pa_nil))) (pa_cons (pe_lst (pa_cons (pv 13) (pa_cons (pv 14) pa_nil))) pa_nil))))) (pss_one (ps_ret pe_bl)) pss_nil)
        (pss_one (ps_if (PW.pt (pw_or (pt_cmpR op_ne (pe_fld (pv 11) rfl) (pv 3) (nomark _)) (pw_or (pt_cmpR op_ne (pe_fld (pv 12) rfl) (pv 3) (nomark _)) (pw_or1 (pt_not (pt_cmpR (op_eqS O_eq (hr.mono (by decide))) (pv 11) (pe_mk N_Sample hr (by decide) (by rfl) (pa_cons (pv 3) (pa_cons (pv 13) pa_nil))) (nomark _))))))) (pss_one (ps_ret pe_bl)) pss_nil)))))))
      (pss_cons (ps_set (i := 15) sc_law.nd rfl (by first | exact Or.inl rfl | exact Or.inr rfl) (pe_mt0 M_turned hr (by decide) (pv 7)))
      (pss_cons (ps_if (PW.pt (pw_or (pt_not (pt_val (pe_callD D_same (by first | exact hr | exact hr.mono (by decide) | exact hr.mono (by omega)) (by rfl) (pa_cons (pe_mt0 M_examples hr (by decide) (pv 15)) (pa_cons (pe_callD D_turned (by first | exact hr | exact hr.mono (by decide) | exact hr.mono (by omega)) (by rfl) (pa_cons (pv 5) pa_nil)) pa_nil))))) (pw_or1 (pt_not (pt_cmpR (op_eqS O_eq (hr.mono (by decide))) (pe_mt0 M_turned hr (by decide) (pv 15)) (pv 7) (nomark _)))))) (pss_one (ps_ret pe_bl)) pss_nil)
      (pss_one (ps_if (pt_not (pt_val (pe_callD D_same (by first | exact hr | exact hr.mono (by decide) | exact hr.mono (by omega)) (by rfl) (pa_cons (pe_lst (pa_cons (pe_mt0 M_examples hr (by decide) (pv 7)) (pa_cons (pe_mt0 M_examples hr (by decide) (pv 8)) pa_nil))) (pa_cons (pe_lst (pa_cons (pv 5) (pa_cons (pv 6) pa_nil))) pa_nil))))) (pss_one (ps_ret pe_bl)) pss_nil)))))))))))))
    (pss_one (ps_ret pe_bl))), ?_⟩
    refine Evl.q_forR1 (n := 5) (Evl.ea_cons Evl.ev_c Evl.ea_nil) (by decide) (fun _ σ' H' => Ex H H' ∧ ∃ o1 o2 o3 o4 o5 o6 o7 o8 o9 o10 o11 o12 o13 o14 o15 o16 o17, σ' = [some (.ref a), o1, o2, o3, o4, o5, o6, o7, o8, o9, o10, o11, o12, o13, o14, o15, o16, o17])
      (fun H1 e => ⟨e, _, _, _, _, _, _, _, _, _, _, _, _, _, _, _, _, _, rfl⟩) ?_ ?_
    · rintro i σ' H1 hi ⟨e1, o1, o2, o3, o4, o5, o6, o7, o8, o9, o10, o11, o12, o13, o14, o15, o16, o17, rfl⟩
      refine ⟨_, rfl, _, rfl, a, ns, i, rfl, Evl.ex_l e1 hS, hlen, by omega, fun l o hl hd => ?_⟩
      have hl0 : H l = none := Evl.fresh_back e1 hl
      have e2 : Ex H (upd H1 l o) := e1.trans (Ex.new hl)
      generalize upd H1 l o = H2 at hd e2 ⊢
      have ml : l ∈ [l] := List.mem_singleton.mpr rfl
      refine q_parDraw (n := 0) (l := l) (by rfl) hd (by decide) fun p q H4 p1 p3 q1 q3 hd4 b4 => ?_
      refine ⟨_, rfl, _, rfl, l, p, 4, 9, 2, [l], rfl, hd4, by decide, ml, hid1 hd4.ne, by omega, by omega, by decide, by decide, by decide, by decide, fun t1 ds H5 b5 hd5 g5 hz5 hr5 => ?_⟩
      refine ⟨_, rfl, _, rfl, l, q, 4, 9, 703, [l], rfl, hd5, by decide, ml, hid1 hd5.ne, by omega, by omega, by decide, by decide, by decide, by decide, fun t2 es H6 b6 hd6 g6 hz6 hr6 => ⟨_, _, rfl, ?_⟩⟩
      have g5' : Gr K [l] H6 t1 ds := g5.exB b6 ml
      have e6 : Ex H H6 := exB_new hl0 e2 ((b4.trans b5).trans b6)
      have hR : Rws p ds := ⟨by omega, hr5⟩
      have hR2 : Rws q es := ⟨by omega, hr6⟩
      have hid6 : Hid [l] H6 := hid1 hd6.ne
      refine q_parS (L := [l]) (C := C) (p := p) (ds := ds) (q := q) (es := es) (mk_run (Evl.ev_var rfl) (.inl (evd_var rfl g5'.dp)) hid6 p1 p3 hR) (mk_run (Evl.ev_var rfl) (.inl (evd_var rfl g6.dp)) hid6 q1 q3 hR2) fun x1 x2 H7 e7 s1' s2' => ?_
      have hd7 := hd6.ex e7
      have hid7 : Hid [l] H7 := hid1 hd7.ne
      have gA := g5'.up e7
      have gB := g6.up e7
      have sA : Smp K [l] H7 x1 C p ds := s1'
      have sB : Smp K [l] H7 x2 C q es := s2'
      have e07 := e6.trans e7
      clear g5 g5' g6 s1' s2' hid6
      -- the sums
      refine Evl.q_when (b := false) (Evl.et_is (Evl.et_not (Evl.et_B (ev_same (K := K) (L := [l]) (n := 4) (d := if p = q then .list (ds ++ es) else .none) (evd_sum (Evl.ev_var rfl) (Evl.ev_var rfl) sA sB hid7 p1 p3 hR hR2 (by omega))
        (evd_if (b := decide (V.int p = V.int q)) (Evl.et_test (Evl.ev_op (Evl.ev_var rfl) (Evl.ev_var rfl) (Evl.rv_eq rfl))) (fun z => ?_) (fun z => ?_)) ?_))) rfl) (fun z => nomatch z) (fun _ H8 e8 => ?_)
      · have e : p = q := by simpa using z
        rw [if_pos e]
        exact evd_catG (Evl.ev_var rfl) (Evl.ev_var rfl) gA gB hid7 (by omega)
      · have e : ¬ p = q := by simpa using z
        rw [if_neg e]
        exact evd_non
      · split
        · rename_i e
          subst e
          exact fits_up (by decide) (hR.app hR2 (by omega)).fit.1
        · trivial
      refine Evl.q_when (b := false) (Evl.et_is (Evl.et_not (Evl.et_B (ev_same (K := K) (L := [l]) (n := 4) (d := if p = p then .list (ds ++ ds) else .none) (evd_sum (Evl.ev_var rfl) (Evl.ev_var rfl) (sA.up e8) (sA.up e8) (hid_ex e8 hid7) p1 p3 hR hR (by omega))
        ?_ ?_))) rfl) (fun z => nomatch z) (fun _ H9 e9 => ?_)
      · rw [if_pos rfl]
        exact evd_catG (Evl.ev_var rfl) (Evl.ev_var rfl) (gA.up e8) (gA.up e8) (hid_ex e8 hid7) (by omega)
      · rw [if_pos rfl]
        exact fits_up (by decide) (hR.app hR (by omega)).fit.1
      have e79 := e8.trans e9
      have hd9 := hd7.ex e79
      replace gA := gA.up e79
      replace gB := gB.up e79
      replace sA := sA.up e79
      replace sB := sB.up e79
      have e09 := e07.trans e79
      clear e8 e9 e79 e7
      -- the order
      obtain ⟨_, xs1, hx1, hxa1⟩ := id gA
      have hl1 := dpa_len hxa1
      have t1l : t1 ≠ l := fun e => gA.1 (by rw [e]; exact ml)
      refine ⟨_, rfl, ?_⟩
      refine lstRg_run (ev_lenS (xs := xs1) (Evl.ev_var (v := .ref t1) rfl) (.inl (SqL.of hx1))) (by omega) (by omega) fun g H10 e10 hg => ?_
      have hd10 := hd9.ex (e10.trans (Ex.new (o := .lst (rgV 0 (xs1.length : Int))) hg))
      have e9n := e10.trans (Ex.new (o := .lst (rgV 0 (xs1.length : Int))) hg)
      have gl : g ≠ l := fun e => (hd9.ex e10).ne (by rw [← e]; exact hg)
      refine ⟨l, g, ((List.range xs1.length).map fun i => (0 : Int) + (i : Nat)), 1404, rfl, hd10, by decide, gl, SqL.of (by rw [upd_same, range_ints]), by rw [List.length_map, List.length_range]; omega, fun tm ms H11 b11 hd11 tml hperm htm htm2 => ?_⟩
      generalize upd H10 g (.lst (rgV 0 (xs1.length : Int))) = H10' at hd10 e9n b11 htm ⊢
      refine draw_runJ (j := 2) (n := 1504) (many := (xs1.length : Int) + 1) (by rfl) hd11 (by decide) (Evl.ev_op (ev_lenS (K := K) (xs := xs1) (Evl.ev_var (v := .ref t1) rfl) (.inl (SqL.of (b11 t1 _ t1l (e9n t1 _ hx1))))) Evl.ev_c (Evl.rv_I0 (g := fun i j => .int (i + j)))) (by omega) (by omega) fun c H12 c0 c1 hd12 b12 => ⟨c, rfl, ?_⟩
      have tm12 := b12 tm _ tml htm2
      refine ⟨tm, _, rfl, SqL.of tm12, fun od hod => ?_⟩
      obtain ⟨os, hos, hsub⟩ := cut_map ms none (some c)
      rw [hos]
      have bA : ExB l H9 (upd H12 od (.lst (os.map V.int))) := (((ExB.of e9n).trans b11).trans b12).trans (ExB.of (Ex.new hod))
      have hdB : Dr 1505 (upd H12 od (.lst (os.map V.int))) l := hd12.ex (Ex.new hod)
      have hodB : (upd H12 od (.lst (os.map V.int))) od = some (.lst (os.map V.int)) := upd_same
      generalize upd H12 od (.lst (os.map V.int)) = HB at bA hdB hodB ⊢
      have hidB : Hid [l] HB := hid1 hdB.ne
      replace gA := gA.exB bA ml
      replace gB := gB.exB bA ml
      replace sA := sA.exB hd9 bA ml
      replace sB := sB.exB hd9 bA ml
      have eHB : Ex H HB := exB_new hl0 e09 bA
      have hosI : os.Nodup ∧ (∀ i ∈ os, 0 ≤ i ∧ i < (ds.length : Int)) ∧ os.length ≤ 20000 := by
        refine ⟨((hperm.nodup_iff).mpr (range_nodup _)).sublist hsub, fun z hz => ?_, ?_⟩
        · have hm := hperm.mem_iff.mp (hsub.subset hz)
          obtain ⟨j, hj, rfl⟩ := List.mem_map.mp hm
          have := List.mem_range.mp hj
          omega
        · have h1 := hsub.length_le
          have h2 := hperm.length_eq
          rw [List.length_map, List.length_range] at h2
          omega
      clear b4 b5 b6 hd hd4 hd5 hd6 hd7 hd9 hd10 hd11 hd12 e9n b11 b12 tm12 htm2 hid7 hx1 hxa1
      -- for some in (order, tuple(order))
      refine ⟨_, rfl, _, rfl, od, _, rfl, .inl ⟨SqL.of hodB, fun u hu => ⟨by show 2 ≤ sizeLine; decide, fun bt hbt => ?_⟩⟩⟩
      have eC : Ex HB (upd (upd HB u (.tup (os.map V.int))) bt (.tup [.ref od, .ref u])) := (Ex.new hu).trans (Ex.new hbt)
      have huC : (upd (upd HB u (.tup (os.map V.int))) bt (.tup [.ref od, .ref u])) u = some (.tup (os.map V.int)) := Ex.new hbt u _ upd_same
      have hbC : (upd (upd HB u (.tup (os.map V.int))) bt (.tup [.ref od, .ref u])) bt = some (.tup [.ref od, .ref u]) := upd_same
      generalize upd (upd HB u (.tup (os.map V.int))) bt (.tup [.ref od, .ref u]) = HC at eC huC hbC ⊢
      have hodC := eC od _ hodB
      replace gA := gA.up eC
      replace gB := gB.up eC
      replace sA := sA.up eC
      replace sB := sB.up eC
      have hidC : Hid [l] HC := hid_ex eC hidB
      have eHC := eHB.trans eC
      clear eC hodB hidB eHB hdB bA hu hbt hod
      let Pv : Nat → L2.St → Hp → Prop := fun _ σ' H' => Ex HC H' ∧ ∃ o10 o11 o12 o13 o14 o15 o16 o17, σ' = [some (.ref a), some (.int (i : Int)), some (.ref l), some (.int p), some (.int q), some (.ref t1), some (.ref t2), some (.ref x1), some (.ref x2), some (.ref od), o10, o11, o12, o13, o14, o15, o16, o17]
      refine ⟨bt, rfl, ⟨_, SqT.of hbC⟩, for_it (walk_tup (xs := [.ref od, .ref u])) Pv ⟨Ex.refl _, _, _, _, _, _, _, _, _, rfl⟩ (fun i σ' H' _ pv => Evl.ex_t pv.1 (SqT.of hbC)) (fun j y σ' H13 H14 hj pv yp => ?_) (fun σ' H13 pv => ?_)⟩
      · obtain ⟨e13, o10, o11, o12, o13, o14, o15, o16, o17, rfl⟩ := pv
        obtain ⟨rfl, hy⟩ := yp
        obtain ⟨z, rfl, hz⟩ : ∃ z, y = .ref z ∧ (SqL K H14 z (os.map V.int) ∨ SqT K H14 z (os.map V.int)) := by
          match j, hy, hj with
          | 0, hy, _ => exact ⟨od, (Option.some.inj hy).symm, .inl (SqL.of (e13 od _ hodC))⟩
          | 1, hy, _ => exact ⟨u, (Option.some.inj hy).symm, .inr (SqT.of (e13 u _ huC))⟩
          | j + 2, _, hj => exact absurd hj (by simp)
        have hI : Idx K H14 z os ds.length := ⟨hz, hosI⟩
        have hid14 := hid_ex e13 hidC
        refine q_parS (L := [l]) (C := C) (es_part (c := cIn) (ns := os) rfl (Evl.ev_var rfl) (Evl.ev_var rfl) (sA.up e13) hid14 p1 p3 hR hI) (es_part (c := cOut) (ns := os) rfl (Evl.ev_var rfl) (Evl.ev_var rfl) (sA.up e13) hid14 p1 p3 hR hI) fun y1 y2 H15 e15 sP sW => ?_
        have e15' := e13.trans e15
        obtain ⟨_, xs, hxs, hxa⟩ := gA.up e15'
        refine q_asgG (K := K) (L := [l]) (eg_enum (c := cIn os) (Evl.ea_cons (Evl.ev_var (v := .ref t1) rfl) Evl.ea_nil) (.inl (SqL.of hxs)) (hxa.up w_cons) (hid_ex e15' hidC) (by have := hR.1; omega) (fun _ _ => rfl)
          (fun y i H2 hi e2 => Evl.et_is (Evl.et_test (Evl.ev_op (Evl.ev_var rfl) (Evl.ev_var (v := .ref od) rfl) (Evl.rv_isL (SqL.of (e2 od _ (e15' od _ hodC))) rfl (flat_ints _)))) (inV_int _ _)) (fun _ _ => rfl)) fun u1 H16 e16 gD => ?_
        have e16' := e15'.trans e16
        refine q_asgG (K := K) (L := [l]) (eg_enum (c := cOut os) (Evl.ea_cons (Evl.ev_var (v := .ref t1) rfl) Evl.ea_nil) (.inl (SqL.of (e16 t1 _ hxs))) ((hxa.up w_cons).up (w_ex e16)) (hid_ex e16' hidC) (by have := hR.1; omega) (fun _ _ => rfl)
          (fun y i H2 hi e2 => Evl.et_is (Evl.et_test (Evl.ev_op (Evl.ev_var rfl) (Evl.ev_var (v := .ref od) rfl) (Evl.rv_niL (SqL.of (e2 od _ (e16' od _ hodC))) rfl (flat_ints _)))) (congrArg not (inV_int _ _))) (fun _ _ => rfl)) fun u2 H17 e17 gW => ?_
        have e17' := e16'.trans e17
        have hid17 := hid_ex e17' hidC
        have sP' := (sP.up e16).up e17
        have sW' := (sW.up e16).up e17
        have gD' := gD.up e17
        refine Evl.q_when (b := false) (Evl.et_is (Evl.et_not (Evl.et_B (ev_same (K := K) (L := [l]) (n := 4) (d := .list [.list (sel (cIn os) ds ds.length), .list (sel (cOut os) ds ds.length)])
          (evd_lst hid17 (evds_cons (eg_examples (Evl.ev_var rfl) sP' hid17).dat (evds_cons (eg_examples (Evl.ev_var rfl) sW' hid17).dat evds_nil)) (by show 2 ≤ 100000; omega))
          (evd_lst hid17 (evds_cons (evd_var rfl gD'.dp) (evds_cons (evd_var rfl gW.dp) evds_nil)) (by show 2 ≤ 100000; omega)) (fits2 hR.sel.fit.1 hR.sel.fit.1)))) rfl) (fun z => nomatch z) (fun _ H18 e18 => ?_)
        have e18' := e17'.trans e18
        have hid18 := hid_ex e18' hidC
        have sP2 := sP'.up e18
        have sW2 := sW'.up e18
        obtain ⟨dp, vp, hP, _⟩ := id sP2
        obtain ⟨dw, vw, hW, _⟩ := id sW2
        refine Evl.s_when (b := false) (Evl.et_is (Evl.et_or (a := false) (b := false) (Evl.et_is (Evl.et_test (Evl.ev_op (ev_fld (Evl.ev_var rfl) hP S.cl S.nP (v := .int p) rfl) (Evl.ev_var (v := .int p) rfl) (Evl.rv_ne rfl))) (by simp)) fun _ =>
          Evl.et_or (a := false) (b := false) (Evl.et_is (Evl.et_test (Evl.ev_op (ev_fld (Evl.ev_var rfl) hW S.cl S.nP (v := .int p) rfl) (Evl.ev_var (v := .int p) rfl) (Evl.rv_ne rfl))) (by simp)) fun _ =>
          Evl.et_is (Evl.et_not (Evl.et_test (ev_eqSS (L := [l]) (evS_var (Evl.ev_var rfl) sP2) (mk_run (Evl.ev_var rfl) (.inl (evd_var rfl (gD'.up e18).dp)) hid18 p1 p3 hR.sel) hR.sel))) rfl) rfl) (fun z => nomatch z) (fun _ H19 e19 => ?_)
        exact ⟨e18'.trans e19, _, _, _, _, _, _, _, _, rfl⟩
      · obtain ⟨e13, o10, o11, o12, o13, o14, o15, o16, o17, rfl⟩ := pv
        have hid13 := hid_ex e13 hidC
        refine q_asgS (L := [l]) (es_turned (Evl.ev_var rfl) (sA.up e13) hid13 p1 p3 hR) fun y3 H15 e15 sT => ?_
        have e15' := e13.trans e15
        have hid15 := hid_ex e15' hidC
        have eT : EvS K [l] C p ds (tMeth C "turned" (spTurned K C) [] E0 (tVar 15) tNil) [some (.ref a), some (.int (i : Int)), some (.ref l), some (.int p), some (.int q), some (.ref t1), some (.ref t2), some (.ref x1), some (.ref x2), some (.ref od), o10, o11, o12, o13, o14, some (.ref y3), o16, o17] H15 := by
          have z := es_turned (L := [l]) (te := tVar 15) (σ := [some (.ref a), some (.int (i : Int)), some (.ref l), some (.int p), some (.int q), some (.ref t1), some (.ref t2), some (.ref x1), some (.ref x2), some (.ref od), o10, o11, o12, o13, o14, some (.ref y3), o16, o17]) (Evl.ev_var (v := .ref y3) rfl) sT hid15 p1 p3 hR.flip
          rw [flip_flip hR] at z
          exact z
        refine Evl.q_when (b := false) (Evl.et_is (Evl.et_or (a := false) (b := false) (Evl.et_is (Evl.et_not (Evl.et_B (ev_same (K := K) (L := [l]) (n := 4) (d := .list (ds.map flip1)) (eg_examples (Evl.ev_var rfl) sT hid15).dat (eg_turn (Evl.ev_var rfl) (gA.up e15') hid15 hR).dat (fits_up (by decide) hR.flip.fit.1)))) rfl) fun _ =>
          Evl.et_is (Evl.et_not (Evl.et_test (ev_eqSS (L := [l]) eT (evS_var (Evl.ev_var rfl) (sA.up e15')) hR))) rfl) rfl) (fun z => nomatch z) (fun _ H16 e16 => ?_)
        have e16' := e15'.trans e16
        have hid16 := hid_ex e16' hidC
        refine Evl.s_when (b := false) (Evl.et_is (Evl.et_not (Evl.et_B (ev_same (K := K) (L := [l]) (n := 4) (d := .list [.list ds, .list es])
          (evd_lst hid16 (evds_cons (eg_examples (Evl.ev_var rfl) (sA.up e16') hid16).dat (evds_cons (eg_examples (Evl.ev_var rfl) (sB.up e16') hid16).dat evds_nil)) (by show 2 ≤ 100000; omega))
          (evd_lst hid16 (evds_cons (evd_var rfl (gA.up e16').dp) (evds_cons (evd_var rfl (gB.up e16').dp) evds_nil)) (by show 2 ≤ 100000; omega)) (fits2 hR.fit.1 hR2.fit.1)))) rfl) (fun z => nomatch z) (fun _ H17 e17 => ?_)
        exact ⟨eHC.trans (e16'.trans e17), _, _, _, _, _, _, _, _, _, _, _, _, _, _, _, _, _, rfl⟩
    · rintro σ' H' ⟨e, o1, o2, o3, o4, o5, o6, o7, o8, o9, o10, o11, o12, o13, o14, o15, o16, o17, rfl⟩
      exact Evl.s_ret Evl.ev_c fun H2 e2 => k H2
end
end U

set_option Elab.async false
set_option linter.all false
set_option maxRecDepth 100000
set_option maxHeartbeats 8000000
namespace U
open PySem PySem.Spec PyProof.Rows L2
open Evl (Ex)
open C8 (Met Mak)
theorem kit_self {K : PySem.W.Frag} {C : Addr} : PySem.W.kitOne K (.ref C) (.ref C) = some true := by
  unfold PySem.W.kitOne
  rw [if_pos (by simp)]
theorem all_mk {l : PySem.W.OpenLaw} {w : World} {K : PySem.W.Frag} {h : Heap} {mg : Str → Option Value} {fa C U T0 E0 fF_is_integer fF_is_label fF_is_row fF_is_row_of fF_is_index_below fF_is_number_of_places fF_is_point fF_is_example fF_copied_example fL_source fL_draw fL_pick fL_mixed fL_same fL_point fL_rows fL_turned fL_sum fL_law fM_init fM_examples fM_checked fM_part fM_without fM_turned fM_add fM_eq : Addr} {ocT : Value} {odT : Option Addr} {nT : Nat} {slT : Array (Option Value)} {tL tM : Tok}
   {ocF_is_integer kVF_is_integer dcF_is_integer pmF_is_integer cdF_is_integer ctF_is_integer : Value} {odF_is_integer anF_is_integer : Option Addr} {slF_is_integer : Array (Option Value)} {ocF_is_label kVF_is_label dcF_is_label pmF_is_label cdF_is_label ctF_is_label : Value} {odF_is_label anF_is_label : Option Addr} {slF_is_label : Array (Option Value)} {ocF_is_row kVF_is_row dcF_is_row pmF_is_row cdF_is_row ctF_is_row : Value} {odF_is_row anF_is_row : Option Addr} {slF_is_row : Array (Option Value)} {ocF_is_row_of kVF_is_row_of dcF_is_row_of pmF_is_row_of cdF_is_row_of ctF_is_row_of : Value} {odF_is_row_of anF_is_row_of : Option Addr} {slF_is_row_of : Array (Option Value)} {ocF_is_index_below kVF_is_index_below dcF_is_index_below pmF_is_index_below cdF_is_index_below ctF_is_index_below : Value} {odF_is_index_below anF_is_index_below : Option Addr} {slF_is_index_below : Array (Option Value)} {ocF_is_number_of_places kVF_is_number_of_places dcF_is_number_of_places pmF_is_number_of_places cdF_is_number_of_places ctF_is_number_of_places : Value} {odF_is_number_of_places anF_is_number_of_places : Option Addr} {slF_is_number_of_places : Array (Option Value)} {ocF_is_point kVF_is_point dcF_is_point pmF_is_point cdF_is_point ctF_is_point : Value} {odF_is_point anF_is_point : Option Addr} {slF_is_point : Array (Option Value)} {ocF_is_example kVF_is_example dcF_is_example pmF_is_example cdF_is_example ctF_is_example : Value} {odF_is_example anF_is_example : Option Addr} {slF_is_example : Array (Option Value)} {ocF_copied_example kVF_copied_example dcF_copied_example pmF_copied_example cdF_copied_example ctF_copied_example : Value} {odF_copied_example anF_copied_example : Option Addr} {slF_copied_example : Array (Option Value)} {ocL_source kVL_source dcL_source pmL_source cdL_source ctL_source : Value} {odL_source anL_source : Option Addr} {slL_source : Array (Option Value)} {ocL_draw kVL_draw dcL_draw pmL_draw cdL_draw ctL_draw : Value} {odL_draw anL_draw : Option Addr} {slL_draw : Array (Option Value)} {ocL_pick kVL_pick dcL_pick pmL_pick cdL_pick ctL_pick : Value} {odL_pick anL_pick : Option Addr} {slL_pick : Array (Option Value)} {ocL_mixed kVL_mixed dcL_mixed pmL_mixed cdL_mixed ctL_mixed : Value} {odL_mixed anL_mixed : Option Addr} {slL_mixed : Array (Option Value)} {ocL_same kVL_same dcL_same pmL_same cdL_same ctL_same : Value} {odL_same anL_same : Option Addr} {slL_same : Array (Option Value)} {ocL_point kVL_point dcL_point pmL_point cdL_point ctL_point : Value} {odL_point anL_point : Option Addr} {slL_point : Array (Option Value)} {ocL_rows kVL_rows dcL_rows pmL_rows cdL_rows ctL_rows : Value} {odL_rows anL_rows : Option Addr} {slL_rows : Array (Option Value)} {ocL_turned kVL_turned dcL_turned pmL_turned cdL_turned ctL_turned : Value} {odL_turned anL_turned : Option Addr} {slL_turned : Array (Option Value)} {ocL_sum kVL_sum dcL_sum pmL_sum cdL_sum ctL_sum : Value} {odL_sum anL_sum : Option Addr} {slL_sum : Array (Option Value)} {ocL_law kVL_law dcL_law pmL_law cdL_law ctL_law : Value} {odL_law anL_law : Option Addr} {slL_law : Array (Option Value)} {ocM_init kVM_init dcM_init pmM_init cdM_init ctM_init : Value} {odM_init anM_init : Option Addr} {slM_init : Array (Option Value)} {ocM_examples kVM_examples dcM_examples pmM_examples cdM_examples ctM_examples : Value} {odM_examples anM_examples : Option Addr} {slM_examples : Array (Option Value)} {ocM_checked kVM_checked dcM_checked pmM_checked cdM_checked ctM_checked : Value} {odM_checked anM_checked : Option Addr} {slM_checked : Array (Option Value)} {ocM_part kVM_part dcM_part pmM_part cdM_part ctM_part : Value} {odM_part anM_part : Option Addr} {slM_part : Array (Option Value)} {ocM_without kVM_without dcM_without pmM_without cdM_without ctM_without : Value} {odM_without anM_without : Option Addr} {slM_without : Array (Option Value)} {ocM_turned kVM_turned dcM_turned pmM_turned cdM_turned ctM_turned : Value} {odM_turned anM_turned : Option Addr} {slM_turned : Array (Option Value)} {ocM_add kVM_add dcM_add pmM_add cdM_add ctM_add : Value} {odM_add anM_add : Option Addr} {slM_add : Array (Option Value)} {ocM_eq kVM_eq dcM_eq pmM_eq cdM_eq ctM_eq : Value} {odM_eq anM_eq : Option Addr} {slM_eq : Array (Option Value)} (X : K.In h) (G : h.Ns mainGlobals mg) (hfa : mg "law" = some (.ref fa))
    (aF_is_integer : PySem.W.nsIn K mainGlobals "is_integer" = some (some (.ref fF_is_integer)))
    (lF_is_integer : K.lookup fF_is_integer = some ⟨ocF_is_integer, odF_is_integer, .func (PySem.W.fnOf "is_integer" "is_integer" (defArgs s_is_integer) (defBody s_is_integer) (defScope s_is_integer) .none kVF_is_integer dcF_is_integer pmF_is_integer anF_is_integer cdF_is_integer ctF_is_integer), slF_is_integer⟩)
    (cF_is_integer : PySem.W.codeIn K cdF_is_integer "is_integer" = true)
    (kF_is_integer : PySem.W.keepIn K (.ref fF_is_integer) = true)
    (aF_is_label : PySem.W.nsIn K mainGlobals "is_label" = some (some (.ref fF_is_label)))
    (lF_is_label : K.lookup fF_is_label = some ⟨ocF_is_label, odF_is_label, .func (PySem.W.fnOf "is_label" "is_label" (defArgs s_is_label) (defBody s_is_label) (defScope s_is_label) .none kVF_is_label dcF_is_label pmF_is_label anF_is_label cdF_is_label ctF_is_label), slF_is_label⟩)
    (cF_is_label : PySem.W.codeIn K cdF_is_label "is_label" = true)
    (kF_is_label : PySem.W.keepIn K (.ref fF_is_label) = true)
    (aF_is_row : PySem.W.nsIn K mainGlobals "is_row" = some (some (.ref fF_is_row)))
    (lF_is_row : K.lookup fF_is_row = some ⟨ocF_is_row, odF_is_row, .func (PySem.W.fnOf "is_row" "is_row" (defArgs s_is_row) (defBody s_is_row) (defScope s_is_row) .none kVF_is_row dcF_is_row pmF_is_row anF_is_row cdF_is_row ctF_is_row), slF_is_row⟩)
    (cF_is_row : PySem.W.codeIn K cdF_is_row "is_row" = true)
    (kF_is_row : PySem.W.keepIn K (.ref fF_is_row) = true)
    (aF_is_row_of : PySem.W.nsIn K mainGlobals "is_row_of" = some (some (.ref fF_is_row_of)))
    (lF_is_row_of : K.lookup fF_is_row_of = some ⟨ocF_is_row_of, odF_is_row_of, .func (PySem.W.fnOf "is_row_of" "is_row_of" (defArgs s_is_row_of) (defBody s_is_row_of) (defScope s_is_row_of) .none kVF_is_row_of dcF_is_row_of pmF_is_row_of anF_is_row_of cdF_is_row_of ctF_is_row_of), slF_is_row_of⟩)
    (cF_is_row_of : PySem.W.codeIn K cdF_is_row_of "is_row_of" = true)
    (kF_is_row_of : PySem.W.keepIn K (.ref fF_is_row_of) = true)
    (aF_is_index_below : PySem.W.nsIn K mainGlobals "is_index_below" = some (some (.ref fF_is_index_below)))
    (lF_is_index_below : K.lookup fF_is_index_below = some ⟨ocF_is_index_below, odF_is_index_below, .func (PySem.W.fnOf "is_index_below" "is_index_below" (defArgs s_is_index_below) (defBody s_is_index_below) (defScope s_is_index_below) .none kVF_is_index_below dcF_is_index_below pmF_is_index_below anF_is_index_below cdF_is_index_below ctF_is_index_below), slF_is_index_below⟩)
    (cF_is_index_below : PySem.W.codeIn K cdF_is_index_below "is_index_below" = true)
    (kF_is_index_below : PySem.W.keepIn K (.ref fF_is_index_below) = true)
    (aF_is_number_of_places : PySem.W.nsIn K mainGlobals "is_number_of_places" = some (some (.ref fF_is_number_of_places)))
    (lF_is_number_of_places : K.lookup fF_is_number_of_places = some ⟨ocF_is_number_of_places, odF_is_number_of_places, .func (PySem.W.fnOf "is_number_of_places" "is_number_of_places" (defArgs s_is_number_of_places) (defBody s_is_number_of_places) (defScope s_is_number_of_places) .none kVF_is_number_of_places dcF_is_number_of_places pmF_is_number_of_places anF_is_number_of_places cdF_is_number_of_places ctF_is_number_of_places), slF_is_number_of_places⟩)
    (cF_is_number_of_places : PySem.W.codeIn K cdF_is_number_of_places "is_number_of_places" = true)
    (kF_is_number_of_places : PySem.W.keepIn K (.ref fF_is_number_of_places) = true)
    (aF_is_point : PySem.W.nsIn K mainGlobals "is_point" = some (some (.ref fF_is_point)))
    (lF_is_point : K.lookup fF_is_point = some ⟨ocF_is_point, odF_is_point, .func (PySem.W.fnOf "is_point" "is_point" (defArgs s_is_point) (defBody s_is_point) (defScope s_is_point) .none kVF_is_point dcF_is_point pmF_is_point anF_is_point cdF_is_point ctF_is_point), slF_is_point⟩)
    (cF_is_point : PySem.W.codeIn K cdF_is_point "is_point" = true)
    (kF_is_point : PySem.W.keepIn K (.ref fF_is_point) = true)
    (aF_is_example : PySem.W.nsIn K mainGlobals "is_example" = some (some (.ref fF_is_example)))
    (lF_is_example : K.lookup fF_is_example = some ⟨ocF_is_example, odF_is_example, .func (PySem.W.fnOf "is_example" "is_example" (defArgs s_is_example) (defBody s_is_example) (defScope s_is_example) .none kVF_is_example dcF_is_example pmF_is_example anF_is_example cdF_is_example ctF_is_example), slF_is_example⟩)
    (cF_is_example : PySem.W.codeIn K cdF_is_example "is_example" = true)
    (kF_is_example : PySem.W.keepIn K (.ref fF_is_example) = true)
    (aF_copied_example : PySem.W.nsIn K mainGlobals "copied_example" = some (some (.ref fF_copied_example)))
    (lF_copied_example : K.lookup fF_copied_example = some ⟨ocF_copied_example, odF_copied_example, .func (PySem.W.fnOf "copied_example" "copied_example" (defArgs s_copied_example) (defBody s_copied_example) (defScope s_copied_example) .none kVF_copied_example dcF_copied_example pmF_copied_example anF_copied_example cdF_copied_example ctF_copied_example), slF_copied_example⟩)
    (cF_copied_example : PySem.W.codeIn K cdF_copied_example "copied_example" = true)
    (kF_copied_example : PySem.W.keepIn K (.ref fF_copied_example) = true)
    (aL_source : PySem.W.nsIn K mainGlobals "_law_source" = some (some (.ref fL_source)))
    (lL_source : K.lookup fL_source = some ⟨ocL_source, odL_source, .func (PySem.W.fnOf "_law_source" "_law_source" (defArgs s_source) (defBody s_source) (defScope s_source) .none kVL_source dcL_source pmL_source anL_source cdL_source ctL_source), slL_source⟩)
    (cL_source : PySem.W.codeIn K cdL_source "_law_source" = true)
    (kL_source : PySem.W.keepIn K (.ref fL_source) = true)
    (aL_draw : PySem.W.nsIn K mainGlobals "_law_draw" = some (some (.ref fL_draw)))
    (lL_draw : K.lookup fL_draw = some ⟨ocL_draw, odL_draw, .func (PySem.W.fnOf "_law_draw" "_law_draw" (defArgs s_draw) (defBody s_draw) (defScope s_draw) .none kVL_draw dcL_draw pmL_draw anL_draw cdL_draw ctL_draw), slL_draw⟩)
    (cL_draw : PySem.W.codeIn K cdL_draw "_law_draw" = true)
    (kL_draw : PySem.W.keepIn K (.ref fL_draw) = true)
    (aL_pick : PySem.W.nsIn K mainGlobals "_law_pick" = some (some (.ref fL_pick)))
    (lL_pick : K.lookup fL_pick = some ⟨ocL_pick, odL_pick, .func (PySem.W.fnOf "_law_pick" "_law_pick" (defArgs s_pick) (defBody s_pick) (defScope s_pick) .none kVL_pick dcL_pick pmL_pick anL_pick cdL_pick ctL_pick), slL_pick⟩)
    (cL_pick : PySem.W.codeIn K cdL_pick "_law_pick" = true)
    (kL_pick : PySem.W.keepIn K (.ref fL_pick) = true)
    (aL_mixed : PySem.W.nsIn K mainGlobals "_law_mixed" = some (some (.ref fL_mixed)))
    (lL_mixed : K.lookup fL_mixed = some ⟨ocL_mixed, odL_mixed, .func (PySem.W.fnOf "_law_mixed" "_law_mixed" (defArgs s_mixed) (defBody s_mixed) (defScope s_mixed) .none kVL_mixed dcL_mixed pmL_mixed anL_mixed cdL_mixed ctL_mixed), slL_mixed⟩)
    (cL_mixed : PySem.W.codeIn K cdL_mixed "_law_mixed" = true)
    (kL_mixed : PySem.W.keepIn K (.ref fL_mixed) = true)
    (aL_same : PySem.W.nsIn K mainGlobals "_law_same" = some (some (.ref fL_same)))
    (lL_same : K.lookup fL_same = some ⟨ocL_same, odL_same, .func (PySem.W.fnOf "_law_same" "_law_same" (defArgs s_same) (defBody s_same) (defScope s_same) .none kVL_same dcL_same pmL_same anL_same cdL_same ctL_same), slL_same⟩)
    (cL_same : PySem.W.codeIn K cdL_same "_law_same" = true)
    (kL_same : PySem.W.keepIn K (.ref fL_same) = true)
    (aL_point : PySem.W.nsIn K mainGlobals "_law_point" = some (some (.ref fL_point)))
    (lL_point : K.lookup fL_point = some ⟨ocL_point, odL_point, .func (PySem.W.fnOf "_law_point" "_law_point" (defArgs s_point) (defBody s_point) (defScope s_point) .none kVL_point dcL_point pmL_point anL_point cdL_point ctL_point), slL_point⟩)
    (cL_point : PySem.W.codeIn K cdL_point "_law_point" = true)
    (kL_point : PySem.W.keepIn K (.ref fL_point) = true)
    (aL_rows : PySem.W.nsIn K mainGlobals "_law_rows" = some (some (.ref fL_rows)))
    (lL_rows : K.lookup fL_rows = some ⟨ocL_rows, odL_rows, .func (PySem.W.fnOf "_law_rows" "_law_rows" (defArgs s_rows) (defBody s_rows) (defScope s_rows) .none kVL_rows dcL_rows pmL_rows anL_rows cdL_rows ctL_rows), slL_rows⟩)
    (cL_rows : PySem.W.codeIn K cdL_rows "_law_rows" = true)
    (kL_rows : PySem.W.keepIn K (.ref fL_rows) = true)
    (aL_turned : PySem.W.nsIn K mainGlobals "_law_turned" = some (some (.ref fL_turned)))
    (lL_turned : K.lookup fL_turned = some ⟨ocL_turned, odL_turned, .func (PySem.W.fnOf "_law_turned" "_law_turned" (defArgs s_turned) (defBody s_turned) (defScope s_turned) .none kVL_turned dcL_turned pmL_turned anL_turned cdL_turned ctL_turned), slL_turned⟩)
    (cL_turned : PySem.W.codeIn K cdL_turned "_law_turned" = true)
    (kL_turned : PySem.W.keepIn K (.ref fL_turned) = true)
    (aL_sum : PySem.W.nsIn K mainGlobals "_law_sum" = some (some (.ref fL_sum)))
    (lL_sum : K.lookup fL_sum = some ⟨ocL_sum, odL_sum, .func (PySem.W.fnOf "_law_sum" "_law_sum" (defArgs s_sum) (defBody s_sum) (defScope s_sum) .none kVL_sum dcL_sum pmL_sum anL_sum cdL_sum ctL_sum), slL_sum⟩)
    (cL_sum : PySem.W.codeIn K cdL_sum "_law_sum" = true)
    (kL_sum : PySem.W.keepIn K (.ref fL_sum) = true)
    (aL_law : PySem.W.nsIn K mainGlobals "law" = some (some (.ref fL_law)))
    (lL_law : K.lookup fL_law = some ⟨ocL_law, odL_law, .func (PySem.W.fnOf "law" "law" (defArgs s_law) (defBody s_law) (defScope s_law) .none kVL_law dcL_law pmL_law anL_law cdL_law ctL_law), slL_law⟩)
    (cL_law : PySem.W.codeIn K cdL_law "law" = true)
    (kL_law : PySem.W.keepIn K (.ref fL_law) = true)
    (aC : PySem.W.nsIn K mainGlobals "Sample" = some (some (.ref C)))
    (pg : PySem.W.plainGet K C Str.empty = true)
    (hd : PySem.W.hasDictIn K C = true)
    (po : PySem.W.plainOver K C = true)
    (sa : PySem.W.findIn K (.ref C) "__setattr__" = some (some (.builtin "object.__setattr__")))
    (mk : PySem.W.makesIn K C = true)
    (kc : PySem.W.keepIn K (.ref C) = true)
    (nP : PySem.W.findIn K (.ref C) "places" = some none)
    (nQ : PySem.W.findIn K (.ref C) "_pairs" = some none)
    (ha : PySem.W.findIn K (.ref C) "__class__" = some (some (.builtin "object.__class__")))
    (hn : PySem.W.specialIn K (.builtin "object.__class__") "__get__" = some (some (.builtin "getset_descriptor.__get__")))
    (ht : PySem.W.takesIn K (.builtin "object.__class__") = some true)
    (hm : PySem.W.mroIn K C (.type "object") = some true)
    (sf : PySem.W.selfFirst K C = true)
    (aU : PySem.W.nsIn K mainGlobals "UnlikePlaces" = some (some (.ref U)))
    (xU : PySem.W.excIn K U [.type "ValueError", .type "Exception", .type "BaseException", .type "object"] "ValueError.__new__" = true)
    (kU : PySem.W.keepIn K (.ref U) = true)
    (bU : PySem.W.subIn K (.ref U) (.type "BaseException") = some true)
    (tU : PySem.W.typeIn K (.ref U) = some (.type "type"))
    (sU : PySem.W.subIn K (.ref U) (.ref U) = some true)
    (iU : PySem.W.isClsIn K U = true)
    (cL : PySem.W.nsIn K mainGlobals "LEAST_PLACES" = some (some (.int 1 tL)))
    (cM : PySem.W.nsIn K mainGlobals "MOST_PLACES" = some (some (.int 3 tM)))
    (aM_init : PySem.W.findIn K (.ref C) "__init__" = some (some (.ref fM_init)))
    (iM_init : PySem.W.isFn K (.ref fM_init) = true)
    (lM_init : K.lookup fM_init = some ⟨ocM_init, odM_init, .func (PySem.W.fnOf "__init__" "Sample.__init__" (defArgs s_Sample_init) (defBody s_Sample_init) (defScope s_Sample_init) (.ref T0) kVM_init dcM_init pmM_init anM_init cdM_init ctM_init), slM_init⟩)
    (cM_init : PySem.W.codeIn K cdM_init "Sample.__init__" = true)
    (kM_init : PySem.W.keepIn K (.ref fM_init) = true)
    (aM_examples : PySem.W.findIn K (.ref C) "examples" = some (some (.ref fM_examples)))
    (iM_examples : PySem.W.isFn K (.ref fM_examples) = true)
    (lM_examples : K.lookup fM_examples = some ⟨ocM_examples, odM_examples, .func (PySem.W.fnOf "examples" "Sample.examples" (defArgs s_Sample_examples) (defBody s_Sample_examples) (defScope s_Sample_examples) .none kVM_examples dcM_examples pmM_examples anM_examples cdM_examples ctM_examples), slM_examples⟩)
    (cM_examples : PySem.W.codeIn K cdM_examples "Sample.examples" = true)
    (kM_examples : PySem.W.keepIn K (.ref fM_examples) = true)
    (aM_checked : PySem.W.findIn K (.ref C) "_checked" = some (some (.ref fM_checked)))
    (iM_checked : PySem.W.isFn K (.ref fM_checked) = true)
    (lM_checked : K.lookup fM_checked = some ⟨ocM_checked, odM_checked, .func (PySem.W.fnOf "_checked" "Sample._checked" (defArgs s_Sample_checked) (defBody s_Sample_checked) (defScope s_Sample_checked) .none kVM_checked dcM_checked pmM_checked anM_checked cdM_checked ctM_checked), slM_checked⟩)
    (cM_checked : PySem.W.codeIn K cdM_checked "Sample._checked" = true)
    (kM_checked : PySem.W.keepIn K (.ref fM_checked) = true)
    (aM_part : PySem.W.findIn K (.ref C) "part" = some (some (.ref fM_part)))
    (iM_part : PySem.W.isFn K (.ref fM_part) = true)
    (lM_part : K.lookup fM_part = some ⟨ocM_part, odM_part, .func (PySem.W.fnOf "part" "Sample.part" (defArgs s_Sample_part) (defBody s_Sample_part) (defScope s_Sample_part) .none kVM_part dcM_part pmM_part anM_part cdM_part ctM_part), slM_part⟩)
    (cM_part : PySem.W.codeIn K cdM_part "Sample.part" = true)
    (kM_part : PySem.W.keepIn K (.ref fM_part) = true)
    (aM_without : PySem.W.findIn K (.ref C) "without" = some (some (.ref fM_without)))
    (iM_without : PySem.W.isFn K (.ref fM_without) = true)
    (lM_without : K.lookup fM_without = some ⟨ocM_without, odM_without, .func (PySem.W.fnOf "without" "Sample.without" (defArgs s_Sample_without) (defBody s_Sample_without) (defScope s_Sample_without) .none kVM_without dcM_without pmM_without anM_without cdM_without ctM_without), slM_without⟩)
    (cM_without : PySem.W.codeIn K cdM_without "Sample.without" = true)
    (kM_without : PySem.W.keepIn K (.ref fM_without) = true)
    (aM_turned : PySem.W.findIn K (.ref C) "turned" = some (some (.ref fM_turned)))
    (iM_turned : PySem.W.isFn K (.ref fM_turned) = true)
    (lM_turned : K.lookup fM_turned = some ⟨ocM_turned, odM_turned, .func (PySem.W.fnOf "turned" "Sample.turned" (defArgs s_Sample_turned) (defBody s_Sample_turned) (defScope s_Sample_turned) .none kVM_turned dcM_turned pmM_turned anM_turned cdM_turned ctM_turned), slM_turned⟩)
    (cM_turned : PySem.W.codeIn K cdM_turned "Sample.turned" = true)
    (kM_turned : PySem.W.keepIn K (.ref fM_turned) = true)
    (aM_add : PySem.W.findIn K (.ref C) "__add__" = some (some (.ref fM_add)))
    (iM_add : PySem.W.isFn K (.ref fM_add) = true)
    (lM_add : K.lookup fM_add = some ⟨ocM_add, odM_add, .func (PySem.W.fnOf "__add__" "Sample.__add__" (defArgs s_Sample_add) (defBody s_Sample_add) (defScope s_Sample_add) .none kVM_add dcM_add pmM_add anM_add cdM_add ctM_add), slM_add⟩)
    (cM_add : PySem.W.codeIn K cdM_add "Sample.__add__" = true)
    (kM_add : PySem.W.keepIn K (.ref fM_add) = true)
    (aM_eq : PySem.W.findIn K (.ref C) "__eq__" = some (some (.ref fM_eq)))
    (iM_eq : PySem.W.isFn K (.ref fM_eq) = true)
    (lM_eq : K.lookup fM_eq = some ⟨ocM_eq, odM_eq, .func (PySem.W.fnOf "__eq__" "Sample.__eq__" (defArgs s_Sample_eq) (defBody s_Sample_eq) (defScope s_Sample_eq) .none kVM_eq dcM_eq pmM_eq anM_eq cdM_eq ctM_eq), slM_eq⟩)
    (cM_eq : PySem.W.codeIn K cdM_eq "Sample.__eq__" = true)
    (kM_eq : PySem.W.keepIn K (.ref fM_eq) = true)
    (lT : K.lookup T0 = some ⟨ocT, odT, .seq #[.ref E0] nT, slT⟩)
    (z_len : PySem.W.nsIn K mainGlobals "len" = some none)
    (z_int : PySem.W.nsIn K mainGlobals "int" = some none)
    (z_isinstance : PySem.W.nsIn K mainGlobals "isinstance" = some none)
    (z_list : PySem.W.nsIn K mainGlobals "list" = some none)
    (z_tuple : PySem.W.nsIn K mainGlobals "tuple" = some none)
    (z_bool : PySem.W.nsIn K mainGlobals "bool" = some none)
    (z_all : PySem.W.nsIn K mainGlobals "all" = some none)
    (z_zip : PySem.W.nsIn K mainGlobals "zip" = some none)
    (z_range : PySem.W.nsIn K mainGlobals "range" = some none)
    (z_enumerate : PySem.W.nsIn K mainGlobals "enumerate" = some none) :
    ∃ fd : FuncData, (∀ (s : Shared) (v : Value), BindsTo s fd ⟨[v], []⟩ [("_law_script", v)]) ∧ ∀ base : Heap, K.In base → base.Ns mainGlobals mg → FnOk l.prog w K mg base CX0 9 fa fd ["_law_script"] (spLaw K) := by
  have e := hfa.symm.trans (PySem.W.mg_of X G aL_law)
  cases e
  have M : ∀ {x : Str} {f : Addr}, PySem.W.nsIn K mainGlobals x = some (some (.ref f)) → mg x = some (.ref f) := fun q => PySem.W.mg_of X G q
  have T : TxF mg := { m_len := PySem.W.mg_none_of X G z_len, m_int := PySem.W.mg_none_of X G z_int, m_isinstance := PySem.W.mg_none_of X G z_isinstance, m_list := PySem.W.mg_none_of X G z_list, m_tuple := PySem.W.mg_none_of X G z_tuple, m_bool := PySem.W.mg_none_of X G z_bool, m_all := PySem.W.mg_none_of X G z_all, m_zip := PySem.W.mg_none_of X G z_zip, m_range := PySem.W.mg_none_of X G z_range, m_enumerate := PySem.W.mg_none_of X G z_enumerate, c_LEAST_PLACES := ⟨_, PySem.W.mg_of X G cL⟩, c_MOST_PLACES := ⟨_, PySem.W.mg_of X G cM⟩ }
  have c : Cls K C := ⟨pg, hd, po, sa⟩
  have S : SmpC K C := ⟨c, nP, nQ, kit_self, ha, hn, ht, hm⟩
  have Y : UnC K mg U := ⟨M aU, xU, kU, bU, tU, sU, iU⟩
  have GF_is_integer := fun_mk (st := s_is_integer) lF_is_integer cF_is_integer kF_is_integer
  have bF_is_integer := GF_is_integer.binds (ps := ["thing"]) fun _ _ _ _ _ _ us hl => match us, hl with | [_], _ => rfl
  have GF_is_label := fun_mk (st := s_is_label) lF_is_label cF_is_label kF_is_label
  have bF_is_label := GF_is_label.binds (ps := ["thing"]) fun _ _ _ _ _ _ us hl => match us, hl with | [_], _ => rfl
  have GF_is_row := fun_mk (st := s_is_row) lF_is_row cF_is_row kF_is_row
  have bF_is_row := GF_is_row.binds (ps := ["thing"]) fun _ _ _ _ _ _ us hl => match us, hl with | [_], _ => rfl
  have GF_is_row_of := fun_mk (st := s_is_row_of) lF_is_row_of cF_is_row_of kF_is_row_of
  have bF_is_row_of := GF_is_row_of.binds (ps := ["thing", "many"]) fun _ _ _ _ _ _ us hl => match us, hl with | [_, _], _ => rfl
  have GF_is_index_below := fun_mk (st := s_is_index_below) lF_is_index_below cF_is_index_below kF_is_index_below
  have bF_is_index_below := GF_is_index_below.binds (ps := ["thing", "many"]) fun _ _ _ _ _ _ us hl => match us, hl with | [_, _], _ => rfl
  have GF_is_number_of_places := fun_mk (st := s_is_number_of_places) lF_is_number_of_places cF_is_number_of_places kF_is_number_of_places
  have bF_is_number_of_places := GF_is_number_of_places.binds (ps := ["thing"]) fun _ _ _ _ _ _ us hl => match us, hl with | [_], _ => rfl
  have GF_is_point := fun_mk (st := s_is_point) lF_is_point cF_is_point kF_is_point
  have bF_is_point := GF_is_point.binds (ps := ["thing", "places"]) fun _ _ _ _ _ _ us hl => match us, hl with | [_, _], _ => rfl
  have GF_is_example := fun_mk (st := s_is_example) lF_is_example cF_is_example kF_is_example
  have bF_is_example := GF_is_example.binds (ps := ["thing", "places"]) fun _ _ _ _ _ _ us hl => match us, hl with | [_, _], _ => rfl
  have GF_copied_example := fun_mk (st := s_copied_example) lF_copied_example cF_copied_example kF_copied_example
  have bF_copied_example := GF_copied_example.binds (ps := ["example"]) fun _ _ _ _ _ _ us hl => match us, hl with | [_], _ => rfl
  have GL_source := fun_mk (st := s_source) lL_source cL_source kL_source
  have bL_source := GL_source.binds (ps := ["_law_script", "_law_at"]) fun _ _ _ _ _ _ us hl => match us, hl with | [_, _], _ => rfl
  have GL_draw := fun_mk (st := s_draw) lL_draw cL_draw kL_draw
  have bL_draw := GL_draw.binds (ps := ["_law_draws", "_law_many"]) fun _ _ _ _ _ _ us hl => match us, hl with | [_, _], _ => rfl
  have GL_pick := fun_mk (st := s_pick) lL_pick cL_pick kL_pick
  have bL_pick := GL_pick.binds (ps := ["_law_draws", "_law_things"]) fun _ _ _ _ _ _ us hl => match us, hl with | [_, _], _ => rfl
  have GL_mixed := fun_mk (st := s_mixed) lL_mixed cL_mixed kL_mixed
  have bL_mixed := GL_mixed.binds (ps := ["_law_draws", "_law_things"]) fun _ _ _ _ _ _ us hl => match us, hl with | [_, _], _ => rfl
  have GL_same := fun_mk (st := s_same) lL_same cL_same kL_same
  have bL_same := GL_same.binds (ps := ["_law_found", "_law_due"]) fun _ _ _ _ _ _ us hl => match us, hl with | [_, _], _ => rfl
  have GL_point := fun_mk (st := s_point) lL_point cL_point kL_point
  have bL_point := GL_point.binds (ps := ["_law_draws", "_law_places", "_law_wide"]) fun _ _ _ _ _ _ us hl => match us, hl with | [_, _, _], _ => rfl
  have GL_rows := fun_mk (st := s_rows) lL_rows cL_rows kL_rows
  have bL_rows := GL_rows.binds (ps := ["_law_draws", "_law_places", "_law_most", "_law_wide"]) fun _ _ _ _ _ _ us hl => match us, hl with | [_, _, _, _], _ => rfl
  have GL_turned := fun_mk (st := s_turned) lL_turned cL_turned kL_turned
  have bL_turned := GL_turned.binds (ps := ["_law_rows_here"]) fun _ _ _ _ _ _ us hl => match us, hl with | [_], _ => rfl
  have GL_sum := fun_mk (st := s_sum) lL_sum cL_sum kL_sum
  have bL_sum := GL_sum.binds (ps := ["_law_one", "_law_other"]) fun _ _ _ _ _ _ us hl => match us, hl with | [_, _], _ => rfl
  have GL_law := fun_mk (st := s_law) lL_law cL_law kL_law
  have GM_examples := fun_mk (st := s_Sample_examples) lM_examples cM_examples kM_examples
  have bM_examples := GM_examples.binds (ps := ["self"]) fun _ _ _ _ _ _ us hl => match us, hl with | [_], _ => rfl
  have GM_checked := fun_mk (st := s_Sample_checked) lM_checked cM_checked kM_checked
  have bM_checked := GM_checked.binds (ps := ["self", "indexes"]) fun _ _ _ _ _ _ us hl => match us, hl with | [_, _], _ => rfl
  have GM_part := fun_mk (st := s_Sample_part) lM_part cM_part kM_part
  have bM_part := GM_part.binds (ps := ["self", "indexes"]) fun _ _ _ _ _ _ us hl => match us, hl with | [_, _], _ => rfl
  have GM_without := fun_mk (st := s_Sample_without) lM_without cM_without kM_without
  have bM_without := GM_without.binds (ps := ["self", "indexes"]) fun _ _ _ _ _ _ us hl => match us, hl with | [_, _], _ => rfl
  have GM_turned := fun_mk (st := s_Sample_turned) lM_turned cM_turned kM_turned
  have bM_turned := GM_turned.binds (ps := ["self"]) fun _ _ _ _ _ _ us hl => match us, hl with | [_], _ => rfl
  have GM_add := fun_mk (st := s_Sample_add) lM_add cM_add kM_add
  have bM_add := GM_add.binds (ps := ["self", "other"]) fun _ _ _ _ _ _ us hl => match us, hl with | [_, _], _ => rfl
  have GM_eq := fun_mk (st := s_Sample_eq) lM_eq cM_eq kM_eq
  have bM_eq := GM_eq.binds (ps := ["self", "other"]) fun _ _ _ _ _ _ us hl => match us, hl with | [_, _], _ => rfl
  have GD : FunD K "__init__" "Sample.__init__" (defArgs s_Sample_init) (defBody s_Sample_init) (defScope s_Sample_init) [.ref E0] [] fM_init _ := ⟨⟨_, _, _, _, _, _, _, _, _, _, rfl, lM_init, cM_init, .inr ⟨by simp, T0, _, [.ref E0], nT, rfl, lT, rfl, .cons rfl .nil⟩, .inl rfl⟩, kM_init⟩
  obtain ⟨dsv, hdv, bInit⟩ := GD.binds1 (ps := ["self", "places", "examples"]) 3 1 (by simp) rfl (fun T kV doc pm an cdv ct us its h1 h2 => match us, its, h1, h2 with | [_, _, _], [_], _, _ => ⟨_, rfl, rfl⟩)
  cases hdv
  refine ⟨PySem.W.fnOf "law" "law" (defArgs s_law) (defBody s_law) (defScope s_law) .none kVL_law dcL_law pmL_law anL_law cdL_law ctL_law, fun s v => .of_eq rfl, fun base _ _ => ?_⟩
  have D_is_integer : DefAt l.prog w K mg base "is_integer" 1 ["thing"] (spB K isI) := ⟨_, _, ok_is_integer GF_is_integer T, M aF_is_integer, kF_is_integer, bF_is_integer⟩
  have D_is_label : DefAt l.prog w K mg base "is_label" 1 ["thing"] (spB K isL) := ⟨_, _, ok_is_label GF_is_label T, M aF_is_label, kF_is_label, bF_is_label⟩
  have D_is_row : DefAt l.prog w K mg base "is_row" 1 ["thing"] (spB K isR) := ⟨_, _, ok_is_row GF_is_row T, M aF_is_row, kF_is_row, bF_is_row⟩
  have D_is_row_of : DefAt l.prog w K mg base "is_row_of" 2 ["thing", "many"] (spBp K isO) := ⟨_, _, ok_is_row_of GF_is_row_of T D_is_row, M aF_is_row_of, kF_is_row_of, bF_is_row_of⟩
  have D_ix : DefAt l.prog w K mg base "is_index_below" 2 ["thing", "many"] (spBp K isIx) := ⟨_, _, ok_is_index_below GF_is_index_below T D_is_integer, M aF_is_index_below, kF_is_index_below, bF_is_index_below⟩
  have D_num : DefAt l.prog w K mg base "is_number_of_places" 2 ["thing"] (spB K isN) := ⟨_, _, ok_is_number_of_places GF_is_number_of_places T D_is_integer, M aF_is_number_of_places, kF_is_number_of_places, bF_is_number_of_places⟩
  have D_is_point : DefAt l.prog w K mg base "is_point" 3 ["thing", "places"] (spBp K isP) := ⟨_, _, ok_is_point GF_is_point T D_is_integer D_is_row_of, M aF_is_point, kF_is_point, bF_is_point⟩
  have D_is_example : DefAt l.prog w K mg base "is_example" 4 ["thing", "places"] (spBp K isX) := ⟨_, _, ok_is_example GF_is_example T D_is_row_of D_is_point D_is_label, M aF_is_example, kF_is_example, bF_is_example⟩
  have D_copied : DefAt l.prog w K mg base "copied_example" 1 ["example"] (spCopy K) := ⟨_, _, ok_copied_example GF_copied_example T, M aF_copied_example, kF_copied_example, bF_copied_example⟩
  have N_Sample : Mak l.prog w K mg base 5 "Sample" C (spInit K C) [] := ⟨_, _, _, _, ⟨mk, aM_init, iM_init, kc⟩, ok_Sinit GD T S D_num D_is_row D_is_example D_copied, M aC, bInit, .nil⟩
  have M_examples : Met l.prog w K mg base 1 C "examples" (spExamples K C) [] := ⟨_, _, _, _, c, ⟨aM_examples, iM_examples, kM_examples⟩, ok_Sexamples GM_examples T S, bM_examples, .nil⟩
  have M_checked : Met l.prog w K mg base 3 C "_checked" (spChecked K C) [] := ⟨_, _, _, _, c, ⟨aM_checked, iM_checked, kM_checked⟩, ok_Schecked GM_checked T S D_ix, bM_checked, .nil⟩
  have M_part : Met l.prog w K mg base 7 C "part" (spPart K C cIn) [] := ⟨_, _, _, _, c, ⟨aM_part, iM_part, kM_part⟩, ok_Spart GM_part T S M_checked N_Sample, bM_part, .nil⟩
  have M_without : Met l.prog w K mg base 7 C "without" (spPart K C cOut) [] := ⟨_, _, _, _, c, ⟨aM_without, iM_without, kM_without⟩, ok_Swithout GM_without T S M_checked N_Sample, bM_without, .nil⟩
  have M_turned : Met l.prog w K mg base 7 C "turned" (spTurned K C) [] := ⟨_, _, _, _, c, ⟨aM_turned, iM_turned, kM_turned⟩, ok_Sturned GM_turned T S N_Sample, bM_turned, .nil⟩
  have O_add : AddAt l.prog w K mg base C U := ⟨_, _, ok_Sadd GM_add T S Y (M aC) N_Sample, aM_add, iM_add, sf, bM_add⟩
  have O_eq : EqS l.prog w K mg base C := ⟨_, _, ok_Seq GM_eq T S (M aC), aM_eq, iM_eq, bM_eq⟩
  have D0 : DefAt l.prog w K mg base "_law_source" 1 ["_law_script", "_law_at"] (spSource K) := ⟨_, _, ok_source GL_source T.toTxB, M aL_source, kL_source, bL_source⟩
  have D1 : DefAt l.prog w K mg base "_law_draw" 1 ["_law_draws", "_law_many"] spDraw := ⟨_, _, ok_draw GL_draw T.toTxB, M aL_draw, kL_draw, bL_draw⟩
  have D2 : DefAt l.prog w K mg base "_law_pick" 2 ["_law_draws", "_law_things"] (spPickV K) := ⟨_, _, ok_pickV GL_pick T.toTxB D1, M aL_pick, kL_pick, bL_pick⟩
  have D3 : ∀ n, DefAt l.prog w K mg base "_law_same" n ["_law_found", "_law_due"] (spPrev K n) := fun n => by
    induction n with
    | zero => exact ⟨_, _, ⟨fun _ _ _ _ h => h.elim, fun _ _ _ _ _ _ _ _ _ _ _ _ _ h => h.elim⟩, M aL_same, kL_same, bL_same⟩
    | succ n ih => exact ⟨_, _, same_body GL_same T.toTxB n ih, M aL_same, kL_same, bL_same⟩
  have D4 : DefAt l.prog w K mg base "_law_point" 2 ["_law_draws", "_law_places", "_law_wide"] (spPoint K) := ⟨_, _, ok_point GL_point T D1, M aL_point, kL_point, bL_point⟩
  have D5 : DefAt l.prog w K mg base "_law_rows" 3 ["_law_draws", "_law_places", "_law_most", "_law_wide"] (spRows K) := ⟨_, _, ok_rows GL_rows T D1 D2 D4, M aL_rows, kL_rows, bL_rows⟩
  have D6 : DefAt l.prog w K mg base "_law_mixed" 2 ["_law_draws", "_law_things"] (spMixed K) := ⟨_, _, ok_mixed GL_mixed T D1, M aL_mixed, kL_mixed, bL_mixed⟩
  have D7 : DefAt l.prog w K mg base "_law_turned" 1 ["_law_rows_here"] (spTurn K) := ⟨_, _, ok_turned GL_turned T, M aL_turned, kL_turned, bL_turned⟩
  have D8 : DefAt l.prog w K mg base "_law_sum" 8 ["_law_one", "_law_other"] (spSum K C) := ⟨_, _, ok_sum GL_sum Y O_add M_examples, M aL_sum, kL_sum, bL_sum⟩
  exact ok_law GL_law T S D0 D1 D5 D6 D7 (D3 5) D8 N_Sample M_examples M_part M_without M_turned O_eq
theorem walk {l : PySem.W.OpenLaw} {q : Program} {loose : List Str} {XP : (Str → Option Value) → Heap → Prop} {YP : World → Heap → Prop} {d : DefRec} {K : Params → PySem.W.Frag} (hn : l.most = some 63) (hdf : d.params.defaults = [])
    (hY : ∀ (w : World) (h : Heap), YP w h → (K w.params).In h)
    (F : ∀ (w : World) (mg : Str → Option Value) (fa : Addr) (h : Heap), (K w.params).In h → h.Ns mainGlobals mg → mg d.name = some (.ref fa) →
      ∃ fd : FuncData, (∀ (s : Shared) (u : Value), BindsTo s fd ⟨[u], []⟩ [("_law_script", u)]) ∧ ∀ base : Heap, (K w.params).In base → base.Ns mainGlobals mg → FnOk l.prog w (K w.params) mg base CX0 9 fa fd ["_law_script"] (spLaw (K w.params))) :
    PySem.W.WalkO q loose XP YP l.row.toRowW d [] (fun f vs => PySem.call f vs) :=
  L2.walk_of (n := 63) (k := 9) (x := "_law_script") (CX := fun _ => CX0) (sp := fun w => spLaw (K w.params)) hn (by decide) hdf ⟨rfl, by decide, by decide⟩ hY F (fun _ _ a ns hl _ hS => ⟨a, ns, rfl, hS, hl, fun _ => rfl⟩) fun _ _ _ _ _ z => z
end U

set_option Elab.async false
open PySem PySem.W PyProof.Rows in
set_option maxRecDepth 100000 in
set_option maxHeartbeats 0 in
theorem PySem.Challenge.cw_toldenough_k04_samples_changed_holds : PySem.Challenge.rw_toldenough_k04_samples_changed.Holds := by
  w_on; o_law; k_head; (case hw => w_witness2)
  k_fill
  refine U.walk (l := PySem.Challenge.rw_toldenough_k04_samples_changed) rfl rfl (fun w h Y => PySem.W.kIn_of Y) ?F
  case F =>
    intro w mg fa h KX G hmg
    refine' U.all_mk KX G hmg ?aF_is_integer ?lF_is_integer ?cF_is_integer ?kF_is_integer ?aF_is_label ?lF_is_label ?cF_is_label ?kF_is_label ?aF_is_row ?lF_is_row ?cF_is_row ?kF_is_row ?aF_is_row_of ?lF_is_row_of ?cF_is_row_of ?kF_is_row_of ?aF_is_index_below ?lF_is_index_below ?cF_is_index_below ?kF_is_index_below ?aF_is_number_of_places ?lF_is_number_of_places ?cF_is_number_of_places ?kF_is_number_of_places ?aF_is_point ?lF_is_point ?cF_is_point ?kF_is_point ?aF_is_example ?lF_is_example ?cF_is_example ?kF_is_example ?aF_copied_example ?lF_copied_example ?cF_copied_example ?kF_copied_example ?aL_source ?lL_source ?cL_source ?kL_source ?aL_draw ?lL_draw ?cL_draw ?kL_draw ?aL_pick ?lL_pick ?cL_pick ?kL_pick ?aL_mixed ?lL_mixed ?cL_mixed ?kL_mixed ?aL_same ?lL_same ?cL_same ?kL_same ?aL_point ?lL_point ?cL_point ?kL_point ?aL_rows ?lL_rows ?cL_rows ?kL_rows ?aL_turned ?lL_turned ?cL_turned ?kL_turned ?aL_sum ?lL_sum ?cL_sum ?kL_sum ?aL_law ?lL_law ?cL_law ?kL_law ?aC ?pg ?hd ?po ?sa ?mk ?kc ?nP ?nQ ?ha ?hn ?ht ?hm ?sf ?aU ?xU ?kU ?bU ?tU ?sU ?iU ?cL ?cM ?aM_init ?iM_init ?lM_init ?cM_init ?kM_init ?aM_examples ?iM_examples ?lM_examples ?cM_examples ?kM_examples ?aM_checked ?iM_checked ?lM_checked ?cM_checked ?kM_checked ?aM_part ?iM_part ?lM_part ?cM_part ?kM_part ?aM_without ?iM_without ?lM_without ?cM_without ?kM_without ?aM_turned ?iM_turned ?lM_turned ?cM_turned ?kM_turned ?aM_add ?iM_add ?lM_add ?cM_add ?kM_add ?aM_eq ?iM_eq ?lM_eq ?cM_eq ?kM_eq ?lT ?z_len ?z_int ?z_isinstance ?z_list ?z_tuple ?z_bool ?z_all ?z_zip ?z_range ?z_enumerate
    (case aF_is_integer => k_is)
    (case lF_is_integer => k_is)
    (case cF_is_integer => k_is)
    (case kF_is_integer => k_is)
    (case aF_is_label => k_is)
    (case lF_is_label => k_is)
    (case cF_is_label => k_is)
    (case kF_is_label => k_is)
    (case aF_is_row => k_is)
    (case lF_is_row => k_is)
    (case cF_is_row => k_is)
    (case kF_is_row => k_is)
    (case aF_is_row_of => k_is)
    (case lF_is_row_of => k_is)
    (case cF_is_row_of => k_is)
    (case kF_is_row_of => k_is)
    (case aF_is_index_below => k_is)
    (case lF_is_index_below => k_is)
    (case cF_is_index_below => k_is)
    (case kF_is_index_below => k_is)
    (case aF_is_number_of_places => k_is)
    (case lF_is_number_of_places => k_is)
    (case cF_is_number_of_places => k_is)
    (case kF_is_number_of_places => k_is)
    (case aF_is_point => k_is)
    (case lF_is_point => k_is)
    (case cF_is_point => k_is)
    (case kF_is_point => k_is)
    (case aF_is_example => k_is)
    (case lF_is_example => k_is)
    (case cF_is_example => k_is)
    (case kF_is_example => k_is)
    (case aF_copied_example => k_is)
    (case lF_copied_example => k_is)
    (case cF_copied_example => k_is)
    (case kF_copied_example => k_is)
    (case aL_source => k_is)
    (case lL_source => k_is)
    (case cL_source => k_is)
    (case kL_source => k_is)
    (case aL_draw => k_is)
    (case lL_draw => k_is)
    (case cL_draw => k_is)
    (case kL_draw => k_is)
    (case aL_pick => k_is)
    (case lL_pick => k_is)
    (case cL_pick => k_is)
    (case kL_pick => k_is)
    (case aL_mixed => k_is)
    (case lL_mixed => k_is)
    (case cL_mixed => k_is)
    (case kL_mixed => k_is)
    (case aL_same => k_is)
    (case lL_same => k_is)
    (case cL_same => k_is)
    (case kL_same => k_is)
    (case aL_point => k_is)
    (case lL_point => k_is)
    (case cL_point => k_is)
    (case kL_point => k_is)
    (case aL_rows => k_is)
    (case lL_rows => k_is)
    (case cL_rows => k_is)
    (case kL_rows => k_is)
    (case aL_turned => k_is)
    (case lL_turned => k_is)
    (case cL_turned => k_is)
    (case kL_turned => k_is)
    (case aL_sum => k_is)
    (case lL_sum => k_is)
    (case cL_sum => k_is)
    (case kL_sum => k_is)
    (case aL_law => k_is)
    (case lL_law => k_is)
    (case cL_law => k_is)
    (case kL_law => k_is)
    (case aC => k_is)
    (case pg => k_is)
    (case hd => k_is)
    (case po => k_is)
    (case sa => k_is)
    (case mk => k_is)
    (case kc => k_is)
    (case nP => k_is)
    (case nQ => k_is)
    (case ha => k_is)
    (case hn => k_is)
    (case ht => k_is)
    (case hm => k_is)
    (case sf => k_is)
    (case aU => k_is)
    (case xU => k_exc)
    (case kU => k_is)
    (case bU => k_is)
    (case tU => k_is)
    (case sU => k_is)
    (case iU => k_is)
    (case cL => k_is)
    (case cM => k_is)
    (case aM_init => k_is)
    (case iM_init => k_is)
    (case lM_init => k_is)
    (case cM_init => k_is)
    (case kM_init => k_is)
    (case aM_examples => k_is)
    (case iM_examples => k_is)
    (case lM_examples => k_is)
    (case cM_examples => k_is)
    (case kM_examples => k_is)
    (case aM_checked => k_is)
    (case iM_checked => k_is)
    (case lM_checked => k_is)
    (case cM_checked => k_is)
    (case kM_checked => k_is)
    (case aM_part => k_is)
    (case iM_part => k_is)
    (case lM_part => k_is)
    (case cM_part => k_is)
    (case kM_part => k_is)
    (case aM_without => k_is)
    (case iM_without => k_is)
    (case lM_without => k_is)
    (case cM_without => k_is)
    (case kM_without => k_is)
    (case aM_turned => k_is)
    (case iM_turned => k_is)
    (case lM_turned => k_is)
    (case cM_turned => k_is)
    (case kM_turned => k_is)
    (case aM_add => k_is)
    (case iM_add => k_is)
    (case lM_add => k_is)
    (case cM_add => k_is)
    (case kM_add => k_is)
    (case aM_eq => k_is)
    (case iM_eq => k_is)
    (case lM_eq => k_is)
    (case cM_eq => k_is)
    (case kM_eq => k_is)
    (case lT => k_is)
    (case z_len => k_is)
    (case z_int => k_is)
    (case z_isinstance => k_is)
    (case z_list => k_is)
    (case z_tuple => k_is)
    (case z_bool => k_is)
    (case z_all => k_is)
    (case z_zip => k_is)
    (case z_range => k_is)
    (case z_enumerate => k_is)


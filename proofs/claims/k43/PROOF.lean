import PyProof.Rows.All
import Wide.All
import OpenK.AllK
import Wide.FinOn
import PyProof.EqAt
import PyProof.EqKinds
import PyProof.TupleCall
import HandS.Base
import HandS.Call
import HandS.List
import HandS.Comp
import HandS.Ends
import HandS.Dict
import HandS.Iter
import HandS.Words
import HandS.WordsList
import HandS.Evl
import HandS.Zip
import HandS.IsInst
import HandS.Walk
import KE.GoesEnum
import KE.GoesMore
import HandS.Exc
import HandS.ExcOwn
import HandS.ExcInit
import HandS.ExcValue
import KE.KExcIs
import HandS.ExcField
import HandS.OwnEq
import HandS.TupAny
import HandS.Codes
import HandS.TryOnly
import HandS.WordsExc
import KE.KOpsOwn
import PySem.Challenge.RW_toldenough_k43_texts_of_kinds_refused
import HandS.Defaults
import HandS.FStr
import HandS.Text
import HandS.Flow
import HandS.Steps
import HandS.Style
set_option Elab.async false
set_option linter.all false
set_option maxRecDepth 100000
set_option maxHeartbeats 2000000
namespace U
open PySem L2
open Evl (Ex)
/-! ### heaps with hidden cells -/
/-- H without the cells of L -/
def W (L : List Addr) (H : Hp) : Hp := fun a => if a ∈ L then none else H a
/-- the hidden cells stand in H -/
def Hid (L : List Addr) (H : Hp) : Prop := ∀ a ∈ L, H a ≠ none
section
variable {L : List Addr} {H H' H2 : Hp} {a p : Addr} {o u : HO}
theorem w_in (h : W L H a = some o) : H a = some o ∧ a ∉ L := by
  unfold W at h
  by_cases e : a ∈ L
  · rw [if_pos e] at h
    cases h
  · rw [if_neg e] at h
    exact ⟨h, e⟩
theorem w_of (n : a ∉ L) (h : H a = some o) : W L H a = some o := by
  unfold W
  rw [if_neg n]
  exact h
theorem w_sub : Ex (W L H) H := fun a o h => (w_in h).1
theorem w_ex (e : Ex H H') : Ex (W L H) (W L H') := fun a o h => w_of (w_in h).2 (e a o (w_in h).1)
theorem w_nil : W [] H = H := by
  funext a
  unfold W
  rw [if_neg (by simp)]
theorem hid_nil : Hid [] H := fun _ h => by cases h
theorem hid_ex (e : Ex H H') (h : Hid L H) : Hid L H' := fun a m z => by
  cases q : H a with
  | none => exact h a m q
  | some o =>
    have r := e a o q
    rw [z] at r
    cases r
theorem hid_not (h : Hid L H) (n : H p = none) : p ∉ L := fun m => h p m n
theorem w_new (h : Hid L H) (n : H p = none) : W L (upd H p o) p = some o := w_of (hid_not h n) upd_same
theorem w_upd_in (m : p ∈ L) : W L (upd H p o) = W L H := by
  funext a
  unfold W
  by_cases e : a ∈ L
  · rw [if_pos e, if_pos e]
  · rw [if_neg e, if_neg e, upd_ne (fun z => e (by rw [z]; exact m))]
theorem w_sub2 {L2 : List Addr} (s : ∀ a ∈ L, a ∈ L2) : Ex (W L2 H) (W L H) := fun a o h => w_of (fun m => (w_in h).2 (s a m)) (w_in h).1
theorem hid_upd (h : Hid L H) : Hid L (upd H p o) := fun a m z => by
  by_cases e : a = p
  · rw [e, upd_same] at z
    cases z
  · rw [upd_ne e] at z
    exact h a m z
end
/-! ### data that stands -/
section
variable {K : PySem.W.Frag} {H H' : Hp}
mutual
theorem dp_mono (e : Ex H H') : ∀ (d : PyData) (v : V), Dp K H v d → Dp K H' v d
  | .none, _, h => by cases h; exact .non
  | .bool _, _, h => by cases h; exact .bl _
  | .int _, _, h => by cases h; exact .int _
  | .str _, _, h => by cases h; exact .str _
  | .list ds, _, h => by
    cases h with
    | lst hs ha => exact .lst (Evl.ex_l e hs) (dpa_mono e ds _ ha)
  | .tuple ds, _, h => by
    cases h with
    | tup hs ha => exact .tup (Evl.ex_t e hs) (dpa_mono e ds _ ha)
  | .dict _, _, h => by cases h
theorem dpa_mono (e : Ex H H') : ∀ (ds : List PyData) (vs : List V), DpAll K H vs ds → DpAll K H' vs ds
  | [], _, h => by cases h; exact .nil
  | d :: ds, _, h => by
    cases h with
    | cons h1 h2 => exact .cons (dp_mono e d _ h1) (dpa_mono e ds _ h2)
end
theorem _root_.L2.Dp.up {v : V} {d : PyData} (h : Dp K H v d) (e : Ex H H') : Dp K H' v d := dp_mono e d v h
theorem _root_.L2.DpAll.up {vs : List V} {ds : List PyData} (h : DpAll K H vs ds) (e : Ex H H') : DpAll K H' vs ds := dpa_mono e ds vs h
theorem dpa_len : ∀ {vs : List V} {ds : List PyData}, DpAll K H vs ds → vs.length = ds.length
  | _, _, .nil => rfl
  | _, _, .cons _ t => congrArg Nat.succ (dpa_len t)
theorem dpa_get : ∀ {vs : List V} {ds : List PyData} {i : Nat} {v : V}, DpAll K H vs ds → vs[i]? = some v → ∃ d, ds[i]? = some d ∧ Dp K H v d
  | _, _, _, _, .nil, e => by simp at e
  | _, _, 0, _, .cons r _, e => by simp at e; subst e; exact ⟨_, rfl, r⟩
  | _, _, i + 1, x, .cons _ t, e => by
    obtain ⟨d, h1, h2⟩ := dpa_get (i := i) (v := x) t (by simpa using e)
    exact ⟨d, by simpa using h1, h2⟩
theorem dpa_get2 : ∀ {vs : List V} {ds : List PyData} {i : Nat} {d : PyData}, DpAll K H vs ds → ds[i]? = some d → ∃ v, vs[i]? = some v ∧ Dp K H v d
  | _, _, _, _, .nil, e => by simp at e
  | _, _, 0, _, .cons r _, e => by simp at e; subst e; exact ⟨_, rfl, r⟩
  | _, _, i + 1, x, .cons _ t, e => by
    obtain ⟨v, h1, h2⟩ := dpa_get2 (i := i) (d := x) t (by simpa using e)
    exact ⟨v, by simpa using h1, h2⟩
theorem dpa_app : ∀ {vs ws : List V} {ds es : List PyData}, DpAll K H vs ds → DpAll K H ws es → DpAll K H (vs ++ ws) (ds ++ es)
  | _, _, _, _, .nil, h => h
  | _, _, _, _, .cons r t, h => .cons r (dpa_app t h)
/-- the type's name -/
def tyOf : PyData → String
  | .none => "NoneType"
  | .bool _ => "bool"
  | .int _ => "int"
  | .str _ => "str"
  | .list _ => "list"
  | .tuple _ => "tuple"
  | .dict _ => "dict"
theorem dp_ty {v : V} {d : PyData} (h : Dp K H v d) : TyX K H v (.type (tyOf d)) := by
  cases h with
  | non => exact .base .non
  | bl b => exact .base (.bl b)
  | int i => exact .base (.int i)
  | str x => exact .base (.str x)
  | lst hs ha =>
    rcases hs with (h | ⟨o, h⟩) | ⟨o, its, n, h, c, _⟩
    · exact .base (.lst h)
    · exact .base (.frz h)
    · exact .kList h c
  | tup hs ha =>
    rcases hs with (h | ⟨o, h⟩) | ⟨o, its, n, h, c, _⟩
    · exact .base (.tup h)
    · exact .fTuple h
    · exact .kTuple h c
/-- isinstance of data: one class, several classes -/
def kitsB (a : String) : List String → Option Bool
  | [] => some false
  | n :: ns => match kitB a n with
    | some true => some true
    | some false => kitsB a ns
    | none => none
theorem kitsB_ok {a : String} : ∀ {ns : List String} {b : Bool}, kitsB a ns = some b → PySem.W.kitAny K (.type a) (ns.map Value.type) = some b
  | [], _, h => h
  | n :: ns, b, h => by
    unfold kitsB at h
    cases q : kitB a n with
    | none => rw [q] at h; cases h
    | some c =>
      rw [q] at h
      cases c with
      | true =>
        cases h
        exact kitAny_cons (kit_ty q) (fun z => by cases z) fun _ => rfl
      | false => exact kitAny_cons (kit_ty q) (fun _ => kitsB_ok h) fun z => by cases z
theorem tys_cls : ∀ {ns : List String}, Paired ClsV (ns.map V.ty) (ns.map Value.type)
  | [] => .nil
  | n :: _ => .cons (.ty n) tys_cls
end
/-! ### what isinstance answers -/
theorem isi_NoneType_list : kitB "NoneType" "list" = some false := by decide +kernel
theorem isi_NoneType_tuple : kitB "NoneType" "tuple" = some false := by decide +kernel
theorem isi_NoneType_bool : kitB "NoneType" "bool" = some false := by decide +kernel
theorem isi_NoneType_int : kitB "NoneType" "int" = some false := by decide +kernel
theorem isi_NoneType_str : kitB "NoneType" "str" = some false := by decide +kernel
theorem isi_NoneType_list_tuple : kitsB "NoneType" ["list", "tuple"] = some false := by decide +kernel
theorem isi_NoneType_bool_int : kitsB "NoneType" ["bool", "int"] = some false := by decide +kernel
theorem isi_NoneType_bool_int_list_tuple : kitsB "NoneType" ["bool", "int", "list", "tuple"] = some false := by decide +kernel
theorem isi_bool_list : kitB "bool" "list" = some false := by decide +kernel
theorem isi_bool_tuple : kitB "bool" "tuple" = some false := by decide +kernel
theorem isi_bool_bool : kitB "bool" "bool" = some true := by decide +kernel
theorem isi_bool_int : kitB "bool" "int" = some true := by decide +kernel
theorem isi_bool_str : kitB "bool" "str" = some false := by decide +kernel
theorem isi_bool_list_tuple : kitsB "bool" ["list", "tuple"] = some false := by decide +kernel
theorem isi_bool_bool_int : kitsB "bool" ["bool", "int"] = some true := by decide +kernel
theorem isi_bool_bool_int_list_tuple : kitsB "bool" ["bool", "int", "list", "tuple"] = some true := by decide +kernel
theorem isi_int_list : kitB "int" "list" = some false := by decide +kernel
theorem isi_int_tuple : kitB "int" "tuple" = some false := by decide +kernel
theorem isi_int_bool : kitB "int" "bool" = some false := by decide +kernel
theorem isi_int_int : kitB "int" "int" = some true := by decide +kernel
theorem isi_int_str : kitB "int" "str" = some false := by decide +kernel
theorem isi_int_list_tuple : kitsB "int" ["list", "tuple"] = some false := by decide +kernel
theorem isi_int_bool_int : kitsB "int" ["bool", "int"] = some true := by decide +kernel
theorem isi_int_bool_int_list_tuple : kitsB "int" ["bool", "int", "list", "tuple"] = some true := by decide +kernel
theorem isi_str_list : kitB "str" "list" = some false := by decide +kernel
theorem isi_str_tuple : kitB "str" "tuple" = some false := by decide +kernel
theorem isi_str_bool : kitB "str" "bool" = some false := by decide +kernel
theorem isi_str_int : kitB "str" "int" = some false := by decide +kernel
theorem isi_str_str : kitB "str" "str" = some true := by decide +kernel
theorem isi_str_list_tuple : kitsB "str" ["list", "tuple"] = some false := by decide +kernel
theorem isi_str_bool_int : kitsB "str" ["bool", "int"] = some false := by decide +kernel
theorem isi_str_bool_int_list_tuple : kitsB "str" ["bool", "int", "list", "tuple"] = some false := by decide +kernel
theorem isi_list_list : kitB "list" "list" = some true := by decide +kernel
theorem isi_list_tuple : kitB "list" "tuple" = some false := by decide +kernel
theorem isi_list_bool : kitB "list" "bool" = some false := by decide +kernel
theorem isi_list_int : kitB "list" "int" = some false := by decide +kernel
theorem isi_list_str : kitB "list" "str" = some false := by decide +kernel
theorem isi_list_list_tuple : kitsB "list" ["list", "tuple"] = some true := by decide +kernel
theorem isi_list_bool_int : kitsB "list" ["bool", "int"] = some false := by decide +kernel
theorem isi_list_bool_int_list_tuple : kitsB "list" ["bool", "int", "list", "tuple"] = some true := by decide +kernel
theorem isi_tuple_list : kitB "tuple" "list" = some false := by decide +kernel
theorem isi_tuple_tuple : kitB "tuple" "tuple" = some true := by decide +kernel
theorem isi_tuple_bool : kitB "tuple" "bool" = some false := by decide +kernel
theorem isi_tuple_int : kitB "tuple" "int" = some false := by decide +kernel
theorem isi_tuple_str : kitB "tuple" "str" = some false := by decide +kernel
theorem isi_tuple_list_tuple : kitsB "tuple" ["list", "tuple"] = some true := by decide +kernel
theorem isi_tuple_bool_int : kitsB "tuple" ["bool", "int"] = some false := by decide +kernel
theorem isi_tuple_bool_int_list_tuple : kitsB "tuple" ["bool", "int", "list", "tuple"] = some true := by decide +kernel
theorem isi_dict_list : kitB "dict" "list" = some false := by decide +kernel
theorem isi_dict_tuple : kitB "dict" "tuple" = some false := by decide +kernel
theorem isi_dict_bool : kitB "dict" "bool" = some false := by decide +kernel
theorem isi_dict_int : kitB "dict" "int" = some false := by decide +kernel
theorem isi_dict_str : kitB "dict" "str" = some false := by decide +kernel
theorem isi_dict_list_tuple : kitsB "dict" ["list", "tuple"] = some false := by decide +kernel
theorem isi_dict_bool_int : kitsB "dict" ["bool", "int"] = some false := by decide +kernel
theorem isi_dict_bool_int_list_tuple : kitsB "dict" ["bool", "int", "list", "tuple"] = some false := by decide +kernel
/-! ### readings -/
section
variable {K : PySem.W.Frag} {σ : L2.St} {H : Hp} {te tb : TE} {v w : V} {d e : PyData} {b : Bool}
theorem ev_isi {n : String} (h : Evl.Ev te σ H v) (hd : Dp K H v d) (hb : kitB (tyOf d) n = some b) : Evl.Ev (tCB (rIsi K) (tCons te (tCons (tC (.ty n)) tNil))) σ H (.bl b) := fun H1 e1 Q q =>
  h H1 e1 _ fun H2 e2 => ⟨v, .ty n, _, _, b, rfl, .ty n, dp_ty (Dp.up hd (e1.trans e2)), kit_ty hb, q H2 e2⟩
theorem ev_isi2 {m n : String} (h : Evl.Ev te σ H v) (hd : Dp K H v d) (hb : kitsB (tyOf d) [m, n] = some b) : Evl.Ev (tCB (rIsiT K) (tCons te (tCons (tTup (tCons (tC (.ty m)) (tCons (tC (.ty n)) tNil))) tNil))) σ H (.bl b) := fun H1 e1 Q q =>
  h H1 e1 _ fun H2 e2 => ⟨by show 2 ≤ sizeLine; decide, fun p hp => ⟨v, p, _, _, _, b, rfl, upd_same, tys_cls (ns := [m, n]), dp_ty (Dp.up hd ((e1.trans e2).trans (Ex.new hp))), kitsB_ok hb, q _ (e2.trans (Ex.new hp))⟩⟩
theorem ev_isi4 {m n k l : String} (h : Evl.Ev te σ H v) (hd : Dp K H v d) (hb : kitsB (tyOf d) [m, n, k, l] = some b) :
    Evl.Ev (tCB (rIsiT K) (tCons te (tCons (tTup (tCons (tC (.ty m)) (tCons (tC (.ty n)) (tCons (tC (.ty k)) (tCons (tC (.ty l)) tNil))))) tNil))) σ H (.bl b) := fun H1 e1 Q q =>
  h H1 e1 _ fun H2 e2 => ⟨by show 4 ≤ sizeLine; decide, fun p hp => ⟨v, p, _, _, _, b, rfl, upd_same, tys_cls (ns := [m, n, k, l]), dp_ty (Dp.up hd ((e1.trans e2).trans (Ex.new hp))), kitsB_ok hb, q _ (e2.trans (Ex.new hp))⟩⟩
theorem ev_eqD (h : Evl.Ev te σ H v) (h2 : Evl.Ev tb σ H w) (hd : Dp K H v d) (he : Dp K H w e) (sd : SeqAt.shaped d = true) (se : SeqAt.shaped e = true) : Evl.Ev (tOp (rEqD K) te tb) σ H (.bl (PyData.eqv d e)) := fun H1 e1 Q q =>
  h H1 e1 _ fun H2 e2 => h2 H2 (e1.trans e2) _ fun H3 e3 => ⟨d, e, Dp.up hd ((e1.trans e2).trans e3), Dp.up he ((e1.trans e2).trans e3), sd, se, q H3 (e2.trans e3)⟩
theorem ev_eqB {a c : Bool} (h : Evl.Ev te σ H (.bl a)) (h2 : Evl.Ev tb σ H (.bl c)) : Evl.Ev (tOp rEq te tb) σ H (.bl (decide (V.bl a = V.bl c))) := Evl.ev_op h h2 (Evl.rv_eq rfl)
theorem ev_neB {a c : Bool} (h : Evl.Ev te σ H (.bl a)) (h2 : Evl.Ev tb σ H (.bl c)) : Evl.Ev (tOp rNe te tb) σ H (.bl (!decide (V.bl a = V.bl c))) := Evl.ev_op h h2 (Evl.rv_ne rfl)
theorem ev_lenS {a : Addr} {xs : List V} (ha : Evl.Ev te σ H (.ref a)) (h : SqL K H a xs ∨ SqT K H a xs) : Evl.Ev (tCB (fun xs H Q => ∃ p ys, xs = [.ref p] ∧ (SqL K H p ys ∨ SqT K H p ys) ∧ Q (.int ys.length) H) (tCons te tNil)) σ H (.int (xs.length : Int)) := fun H1 e Q q =>
  ha H1 e _ fun H2 e2 => ⟨a, xs, rfl, h.imp (Evl.ex_l (e.trans e2)) (Evl.ex_t (e.trans e2)), q H2 e2⟩
end
/-! ### defs of the text, found by their names -/
structure DefAt (P : Program) (w : World) (K : PySem.W.Frag) (mg : Str → Option Value) (base : Heap) (x : Str) (k : Nat) (ps : List Str) (sp : Sp) : Prop where
  ex : ∃ f fd, FnOk P w K mg base CX0 k f fd ps sp ∧ mg x = some (.ref f) ∧ PySem.W.keepIn K (.ref f) = true ∧ Binds K fd ps []
theorem DefAt.imp {P : Program} {w : World} {K : PySem.W.Frag} {mg : Str → Option Value} {base : Heap} {x : Str} {k : Nat} {ps : List Str} {sp sp' : Sp} (D : DefAt P w K mg base x k ps sp) (h : ∀ vs H Q E, sp' vs H Q E → sp vs H Q E) : DefAt P w K mg base x k ps sp' := by
  obtain ⟨f, fd, F, r⟩ := D.ex
  exact ⟨f, fd, F.imp h, r⟩
theorem DefAt.mono {P : Program} {w : World} {K : PySem.W.Frag} {mg : Str → Option Value} {base : Heap} {x : Str} {k j : Nat} {ps : List Str} {sp : Sp} (D : DefAt P w K mg base x k ps sp) (h : k ≤ j) : DefAt P w K mg base x j ps sp := by
  obtain ⟨f, fd, F, r⟩ := D.ex
  exact ⟨f, fd, F.mono h, r⟩
def tCallD (sp : Sp) (t : TA) : TE := fun σ H Q => t σ H fun vs H1 => sp vs H1 Q E0
theorem pe_callD {X : Cx} {x : Str} {k : Nat} {ps : List Str} {sp : Sp} {p pos : Pos} {e : Expr} {es : List Expr} {t : TA} (D : DefAt X.prog X.w X.K X.mg X.base x k ps sp) (hr : Room k X.A) (hg : Gl X x) (ha : PA X (e :: es) t)
    (hdb : (x == ("__debug__" : Str)) = false := by decide) (he : starEach (e :: es) X.env = (false, eval e X.env) :: starEach es X.env := by rfl) (hpl : (backTo pos (starEach es X.env)).any (·.1) = false := by rfl) :
    PE X (.Call (.Name x p) (e :: es) [] pos) (tCallD sp t) := by
  obtain ⟨f, fd, F, hm, hk, hb⟩ := D.ex
  refine ⟨fun pins s σ H Q I h => (pe_call (E := E0) F hr hg hm hk hb .nil pass0 ha hdb he hpl).run pins s σ H Q I ?_⟩
  have e1 : (fun (vs : List V) (H1 : Hp) => sp (vs ++ []) H1 Q E0) = fun vs H1 => sp vs H1 Q E0 := by
    funext vs H1
    rw [List.append_nil]
  show t σ H fun vs H1 => sp (vs ++ []) H1 Q E0
  rw [e1]
  exact h
/-! ### draws -/
/-- at l the draws: three numbers; at most n drawn by the second way -/
def Dr (n : Nat) (H : Hp) (l : Addr) : Prop := ∃ x y z : Int, H l = some (.lst [.int x, .int y, .int z]) ∧ 0 ≤ x ∧ 0 ≤ y ∧ y ≤ 1099511627776 ∧ 0 ≤ z ∧ z ≤ (n : Int)
theorem Dr.up {n m : Nat} {H : Hp} {l : Addr} (h : Dr n H l) (e : n ≤ m) : Dr m H l := by
  obtain ⟨x, y, z, h1, h2, h3, h4, h5, h6⟩ := h
  exact ⟨x, y, z, h1, h2, h3, h4, h5, by omega⟩
theorem Dr.ne {n : Nat} {H : Hp} {l : Addr} (h : Dr n H l) : H l ≠ none := by
  obtain ⟨x, y, z, h1, _⟩ := h
  rw [h1]
  simp
theorem Dr.ex {n : Nat} {H H' : Hp} {l : Addr} (h : Dr n H l) (e : Ex H H') : Dr n H' l := by
  obtain ⟨x, y, z, h1, h2⟩ := h
  exact ⟨x, y, z, e _ _ h1, h2⟩
/-- all but the cell l stays -/
def ExB (l : Addr) (H H' : Hp) : Prop := ∀ a o, a ≠ l → H a = some o → H' a = some o
theorem ExB.refl (l : Addr) (H : Hp) : ExB l H H := fun _ _ _ h => h
theorem ExB.of {l : Addr} {H H' : Hp} (e : Ex H H') : ExB l H H' := fun a o _ h => e a o h
theorem ExB.trans {l : Addr} {H H1 H2 : Hp} (a : ExB l H H1) (b : ExB l H1 H2) : ExB l H H2 := fun c o n h => b c o n (a c o n h)
theorem ExB.upd {l : Addr} {H : Hp} {o : HO} : ExB l H (upd H l o) := fun a u n h => by
  rw [upd_ne n]
  exact h
theorem ExB.w {l : Addr} {L : List Addr} {H H' : Hp} (e : ExB l H H') (m : l ∈ L) : Ex (W L H) (W L H') := fun a o h => by
  obtain ⟨h1, n⟩ := w_in h
  exact w_of n (e a o (fun z => n (by rw [z]; exact m)) h1)
theorem ExB.hid {l : Addr} {L : List Addr} {H H' : Hp} (e : ExB l H H') (hl : H' l ≠ none) (h : Hid L H) : Hid L H' := fun a m => by
  by_cases q : a = l
  · rw [q]
    exact hl
  · intro z
    cases r : H a with
    | none => exact h a m r
    | some o =>
      have t := e a o q r
      rw [z] at t
      cases t
def spSource (K : PySem.W.Frag) : Sp := fun vs H Q _ => ∃ (s : Addr) (ns : List Int) (i : Nat), vs = [.ref s, .int (i : Int)] ∧ SqL K H s (ns.map V.int) ∧ ns.length ≤ 63 ∧ i ≤ 100 ∧
  ∀ l o, H l = none → Dr 0 (upd H l o) l → Q (.ref l) (upd H l o)
def spDraw : Sp := fun vs H Q _ => ∃ (l : Addr) (many : Int) (n : Nat), vs = [.ref l, .int many] ∧ Dr n H l ∧ n < 1000000 ∧ 0 < many ∧ many < 1073741824 ∧
  ∀ r o, 0 ≤ r → r < many → Dr (n + 1) (upd H l o) l → Q (.int r) (upd H l o)
def spPick (K : PySem.W.Frag) : Sp := fun vs H Q _ => ∃ (l t : Addr) (ds : List PyData) (n : Nat) (L : List Addr), vs = [.ref l, .ref t] ∧ Dr n H l ∧ n < 1000000 ∧ l ∈ L ∧ Dp K (W L H) (.ref t) (.list ds) ∧ 0 < ds.length ∧ ds.length < 1073741824 ∧
  ∀ v d o, d ∈ ds → Dp K (W L (upd H l o)) v d → Dr (n + 1) (upd H l o) l → Q v (upd H l o)
end U

set_option Elab.async false
set_option linter.all false
set_option maxRecDepth 100000
set_option maxHeartbeats 2000000
namespace U
open PySem L2
/-- kinds of rules -/
inductive Kd where
  | halves (p : Int)
  | boxes (p : Int)
  | rising (p : Int)
  | flats (p : Int)
  | turns (m : Int)
  | no (k : Kd)
  | both (k m : Kd)
  | either (k m : Kd)
  | any (k m : Kd)
  deriving DecidableEq
def kdD : Kd → PyData
  | .halves p => .tuple [.str "halves", .int p]
  | .boxes p => .tuple [.str "boxes", .int p]
  | .rising p => .tuple [.str "rising", .int p]
  | .flats p => .tuple [.str "flats", .int p]
  | .turns m => .tuple [.str "turns", .int m]
  | .no k => .tuple [.str "not", kdD k]
  | .both k m => .tuple [.str "both", kdD k, kdD m]
  | .either k m => .tuple [.str "either", kdD k, kdD m]
  | .any k m => .tuple [.str "any", kdD k, kdD m]
def okK (p : Int) : Kd → Prop
  | .halves q => q = p
  | .boxes q => q = p
  | .rising q => q = p
  | .flats q => q = p
  | .turns m => p = 1 ∧ 0 ≤ m ∧ m ≤ 3
  | .no k => okK p k
  | .both k m => okK p k ∧ okK p m
  | .either k m => okK p k ∧ okK p m
  | .any k m => okK p k ∧ okK p m
def depK : Kd → Nat
  | .no k => depK k + 1
  | .both k m => max (depK k) (depK m) + 1
  | .either k m => max (depK k) (depK m) + 1
  | .any k m => max (depK k) (depK m) + 1
  | _ => 0
end U

set_option Elab.async false
set_option linter.all false
set_option maxRecDepth 100000
set_option maxHeartbeats 2000000
namespace U
open PySem L2
open Evl (Ex)
theorem yes_lc {σ : L2.St} {H : Hp} {A B : Hp → Prop} (h : A H) : tYes σ H (fun b H3 => if b = true then A H3 else B H3) := by
  show (if true = true then A H else B H)
  rw [if_pos rfl]
  exact h
section
variable {K : PySem.W.Frag} {a b : Addr} {xs ys : List V} {σ : L2.St} {H : Hp}
theorem walk_zipT {n : Nat} (hn : n = min xs.length ys.length) : Walk (RZ.ItzT K a b) n (fun H => SqT K H a xs ∧ SqT K H b ys) (YPair (fun i => xs[i]?) (fun i => ys[i]?)) := by
  subst hn
  refine ⟨fun i _ hi q => ?_, fun _ q => ⟨xs, ys, q.1, q.2, by omega⟩, fun i H v H' _ q y => ?_⟩
  · have h1 : i < xs.length := by omega
    have h2 : i < ys.length := by omega
    exact ⟨xs, ys, xs[i], ys[i], q.1, q.2, by simp [h1], by simp [h2]⟩
  · obtain ⟨T, x, z, h1, h2, h3, h4, h5⟩ := y
    exact ⟨T, x, z, h1, h2, h3, h4 xs q.1, h5 ys q.2⟩
/-- what a comprehension of every item has made so far -/
def Cm (H : Hp) (v : Nat → V) (Dl : Addr) (i : Nat) (H' : Hp) : Prop := H Dl = none ∧ Ex H H' ∧ H' Dl = some (.lst ((List.range i).map v))
theorem cm_0 {v : Nat → V} {Dl : Addr} (h : H Dl = none) : Cm H v Dl 0 (upd H Dl (.lst [])) := ⟨h, Ex.new h, upd_same⟩
theorem cm_turn {H' : Hp} {v : Nat → V} {Dl : Addr} {i : Nat} {te : TE} {σ2 : L2.St} (p : Cm H v Dl i H') (hi : i < 50000) (H2 : Hp) (e2 : Ex H' H2) (he : Evl.Ev te σ2 H (v i)) :
    te σ2 H2 fun y H4 => ∃ acc, H4 Dl = some (.lst acc) ∧ acc.length < sizeLine ∧ Cm H v Dl (i + 1) (upd H4 Dl (.lst (acc ++ [y]))) := by
  obtain ⟨p1, p2, p3⟩ := p
  refine he H2 (p2.trans e2) _ fun H4 e4 => ⟨_, e4 Dl _ (e2 Dl _ p3), Evl.sz_lt (by rw [List.length_map, List.length_range]; omega), p1, Evl.Ex.mut ((p2.trans e2).trans e4) p1, ?_⟩
  rw [upd_same, List.range_succ, List.map_append]
  rfl
theorem el_zip {ta : TA} {te : TE} {i1 i2 : Nat} {vs : List Nat} {v : Nat → V} (h : Evl.EvA ta σ H [.ref a, .ref b]) (hx : (SqL K H a xs ∧ SqL K H b ys) ∨ (SqT K H a xs ∧ SqT K H b ys)) (hl : xs.length = ys.length) (hz : xs.length ≤ 40000)
    (hw : ∀ x y, wipe (((wipe σ vs).set i1 (some x)).set i2 (some y)) vs = wipe σ vs)
    (he : ∀ (i : Nat) (x y : V) H1, Ex H H1 → xs[i]? = some x → ys[i]? = some y → Evl.Ev te (((wipe σ vs).set i1 (some x)).set i2 (some y)) H1 (v i)) :
    Evl.EvL (tLc (RZ.iZipA K ta) (gTup K 2 (gCons (gName i1) (gCons (gName i2) gNil))) tYes te vs) σ H ((List.range xs.length).map v) := fun H0 e0 Q q => h H0 e0 _ fun H1 e1 => by
  have turn : ∀ (Dl : Addr) (i : Nat) (x : V) (H2 H3 : Hp), i < xs.length → Cm H1 v Dl i H2 → YPair (fun i => xs[i]?) (fun i => ys[i]?) i H2 x H3 → gTup K 2 (gCons (gName i1) (gCons (gName i2) gNil)) x (wipe σ vs) H3 fun σ2 H2 => wipe σ2 vs = wipe σ vs ∧ tYes σ2 H2 fun b H3 =>
      if b = true then te σ2 H3 fun y H4 => ∃ acc, H4 Dl = some (.lst acc) ∧ acc.length < sizeLine ∧ Cm H1 v Dl (i + 1) (upd H4 Dl (.lst (acc ++ [y]))) else Cm H1 v Dl (i + 1) H3 := by
    intro Dl i x H2 H3 hi p yp
    obtain ⟨T, u, w, rfl, hT, rfl, hu, hw'⟩ := yp
    refine ⟨T, [u, w], rfl, SqT.of upd_same, rfl, u, [w], rfl, w, [], rfl, rfl, hw u w, ?_⟩
    exact yes_lc (A := fun H3 => te ((List.set (wipe σ vs) i1 (some u)).set i2 (some w)) H3 fun y H4 => ∃ acc, H4 Dl = some (.lst acc) ∧ acc.length < sizeLine ∧ Cm H1 v Dl (i + 1) (upd H4 Dl (.lst (acc ++ [y])))) (B := fun H3 => Cm H1 v Dl (i + 1) H3) <| cm_turn p (by omega) _ (Ex.new hT) (he i u w _ (e0.trans e1) hu hw')
  rcases hx with ⟨x1, x2⟩ | ⟨x1, x2⟩
  · refine ⟨a, b, xs, ys, rfl, .inl ⟨Evl.ex_l (e0.trans e1) x1, Evl.ex_l (e0.trans e1) x2, fun Dl hD => ?_⟩⟩
    exact lc_it (walk_zip (n := xs.length) (by omega)) (Cm H1 v Dl) (cm_0 hD) (fun i H2 _ p => ⟨Evl.ex_l ((e0.trans e1).trans p.2.1) x1, Evl.ex_l ((e0.trans e1).trans p.2.1) x2⟩) (fun i x H2 H3 hi p y => turn Dl i x H2 H3 hi p y)
      (fun H2 p => q Dl H2 (Evl.fresh_back e1 p.1) (e1.trans p.2.1) p.2.2)
  · refine ⟨a, b, xs, ys, rfl, .inr ⟨Evl.ex_t (e0.trans e1) x1, Evl.ex_t (e0.trans e1) x2, fun Dl hD => ?_⟩⟩
    exact lc_it (walk_zipT (n := xs.length) (by omega)) (Cm H1 v Dl) (cm_0 hD) (fun i H2 _ p => ⟨Evl.ex_t ((e0.trans e1).trans p.2.1) x1, Evl.ex_t ((e0.trans e1).trans p.2.1) x2⟩) (fun i x H2 H3 hi p y => turn Dl i x H2 H3 hi p y)
      (fun H2 p => q Dl H2 (Evl.fresh_back e1 p.1) (e1.trans p.2.1) p.2.2)
theorem ev_all {te : TE} {bs : List Bool} (h : Evl.EvL te σ H (bs.map V.bl)) : Evl.Ev (tCB (rAll K) (tCons te tNil)) σ H (.bl (bs.all id)) := fun H1 e1 Q q =>
  h H1 e1 _ fun p H2 hp e2 h2 => ⟨p, bs, rfl, SqL.of h2, q H2 e2⟩
theorem ev_any {te : TE} {bs : List Bool} (h : Evl.EvL te σ H (bs.map V.bl)) : Evl.Ev (tCB (rAny K) (tCons te tNil)) σ H (.bl (bs.any id)) := fun H1 e1 Q q =>
  h H1 e1 _ fun p H2 hp e2 h2 => ⟨p, bs, rfl, SqL.of h2, q H2 e2⟩
theorem ev_callD {sp : Sp} {ta : TA} {vs : List V} {z : V} (h : Evl.EvA ta σ H vs) (hs : ∀ H1, Ex H H1 → ∀ Q : VK, (∀ H2, Ex H1 H2 → Q z H2) → sp vs H1 Q E0) : Evl.Ev (tCallD sp ta) σ H z := fun H1 e Q q =>
  h H1 e _ fun H2 e2 => hs H2 (e.trans e2) Q fun H3 e3 => q H3 (e2.trans e3)
end
/-! ### data no deeper than n -/
def fits : Nat → PyData → Prop
  | 0, .list _ => False
  | 0, .tuple _ => False
  | n + 1, .list ds => ds.length ≤ 40000 ∧ ∀ d ∈ ds, fits n d
  | n + 1, .tuple ds => ds.length ≤ 40000 ∧ ∀ d ∈ ds, fits n d
  | _, .dict kvs => kvs = []
  | _, _ => True
theorem fits_up : ∀ {n m : Nat} {d : PyData}, n ≤ m → fits n d → fits m d
  | 0, 0, _, _, h => h
  | 0, m + 1, d, _, h => by
    cases d with
    | list ds => exact h.elim
    | tuple ds => exact h.elim
    | dict _ => exact h
    | _ => trivial
  | n + 1, 0, _, e, _ => by omega
  | n + 1, m + 1, d, e, h => by
    cases d with
    | list ds => exact ⟨h.1, fun z hz => fits_up (by omega) (h.2 z hz)⟩
    | tuple ds => exact ⟨h.1, fun z hz => fits_up (by omega) (h.2 z hz)⟩
    | dict _ => exact h
    | _ => trivial
/-- two readings of the same data: True -/
def spSame (K : PySem.W.Frag) (n : Nat) : Sp := fun vs H Q _ => ∃ (x y : V) (d : PyData), vs = [x, y] ∧ Dp K H x d ∧ Dp K H y d ∧ fits n d ∧ ∀ H', Ex H H' → Q (.bl true) H'
end U

set_option Elab.async false
set_option linter.all false
set_option maxRecDepth 100000
set_option maxHeartbeats 2000000
namespace U
open PySem L2
open Evl (Ex)
/-! ### what evaluates to data -/
section
variable {K : PySem.W.Frag} {L : List Addr} {σ : L2.St} {H H' : Hp} {te tb : TE} {ta tr : TA} {v : V} {d : PyData} {ds : List PyData} {l p : Addr} {o : HO}
def EvD (K : PySem.W.Frag) (L : List Addr) (te : TE) (σ : L2.St) (H : Hp) (d : PyData) : Prop := ∀ H1, Ex H H1 → ∀ Q : VK, (∀ v H2, Ex H1 H2 → Dp K (W L H2) v d → Q v H2) → te σ H1 Q
def EvDs (K : PySem.W.Frag) (L : List Addr) (ta : TA) (σ : L2.St) (H : Hp) (ds : List PyData) : Prop := ∀ H1, Ex H H1 → ∀ Q : List V → Hp → Prop, (∀ vs H2, Ex H1 H2 → DpAll K (W L H2) vs ds → Q vs H2) → ta σ H1 Q
theorem EvD.mono (e : Ex H H') (h : EvD K L te σ H d) : EvD K L te σ H' d := fun H1 a Q q => h H1 (e.trans a) Q q
theorem EvDs.mono (e : Ex H H') (h : EvDs K L ta σ H ds) : EvDs K L ta σ H' ds := fun H1 a Q q => h H1 (e.trans a) Q q
theorem evd_of (h : Evl.Ev te σ H v) (hd : Dp K (W L H) v d) : EvD K L te σ H d := fun H1 e Q q => h H1 e _ fun H2 e2 => q v H2 e2 (hd.up (w_ex (e.trans e2)))
theorem evd_var {i : Nat} (h : σ[i]? = some (some v)) (hd : Dp K (W L H) v d) : EvD K L (tVar i) σ H d := evd_of (Evl.ev_var h) hd
theorem evd_int {i : Int} : EvD K L (tC (.int i)) σ H (.int i) := evd_of Evl.ev_c (.int i)
theorem evd_bl {b : Bool} : EvD K L (tC (.bl b)) σ H (.bool b) := evd_of Evl.ev_c (.bl b)
theorem evd_non : EvD K L (tC .non) σ H .none := evd_of Evl.ev_c .non
theorem evd_str {x : Str} : EvD K L (tC (.str x)) σ H (.str x) := evd_of Evl.ev_c (.str x)
theorem evd_evI {i : Int} (h : Evl.Ev te σ H (.int i)) : EvD K L te σ H (.int i) := evd_of h (.int i)
theorem evd_evB {b : Bool} (h : Evl.Ev te σ H (.bl b)) : EvD K L te σ H (.bool b) := evd_of h (.bl b)
theorem evds_nil : EvDs K L tNil σ H [] := fun H1 _ _ q => q [] H1 (Ex.refl H1) .nil
theorem evds_cons (h : EvD K L te σ H d) (hr : EvDs K L tr σ H ds) : EvDs K L (tCons te tr) σ H (d :: ds) := fun H1 e Q q =>
  h H1 e _ fun v H2 e2 hv => hr H2 (e.trans e2) _ fun vs H3 e3 hvs => q (v :: vs) H3 (e2.trans e3) (.cons (hv.up (w_ex e3)) hvs)
theorem evd_tup (hL : Hid L H) (h : EvDs K L ta σ H ds) (hz : ds.length ≤ 100000) : EvD K L (tTup ta) σ H (.tuple ds) := fun H1 e Q q =>
  h H1 e _ fun vs H2 e2 hv => ⟨Evl.sz_of (by rw [dpa_len hv]; exact hz), fun p hp => q (.ref p) _ (e2.trans (Ex.new hp)) (.tup (SqT.of (w_new (hid_ex (e.trans e2) hL) hp)) (hv.up (w_ex (Ex.new hp))))⟩
theorem evd_lst (hL : Hid L H) (h : EvDs K L ta σ H ds) (hz : ds.length ≤ 100000) : EvD K L (tLst ta) σ H (.list ds) := fun H1 e Q q =>
  h H1 e _ fun vs H2 e2 hv => ⟨Evl.sz_of (by rw [dpa_len hv]; exact hz), fun p hp => q (.ref p) _ (e2.trans (Ex.new hp)) (.lst (SqL.of (w_new (hid_ex (e.trans e2) hL) hp)) (hv.up (w_ex (Ex.new hp))))⟩
theorem w_fresh (hp : H p = none) : Ex (W L H) (W (p :: L) (upd H p o)) := fun a u h => by
  obtain ⟨h1, n⟩ := w_in h
  have ne : a ≠ p := ne_of_none h1 hp
  exact w_of (fun m => (List.mem_cons.mp m).elim ne n) (by rw [upd_ne ne]; exact h1)
theorem w_cons : Ex (W (p :: L) H) (W L H) := w_sub2 fun a m => List.mem_cons_of_mem _ m
/-! ### a list that grows -/
/-- at l a list of the data ds, which do not hang on l -/
def Gr (K : PySem.W.Frag) (L : List Addr) (H : Hp) (l : Addr) (ds : List PyData) : Prop := l ∉ L ∧ ∃ xs, H l = some (.lst xs) ∧ DpAll K (W (l :: L) H) xs ds
theorem Gr.dp (h : Gr K L H l ds) : Dp K (W L H) (.ref l) (.list ds) := by
  obtain ⟨n, xs, h1, h2⟩ := h
  exact .lst (SqL.of (w_of n h1)) (h2.up w_cons)
theorem Gr.up (h : Gr K L H l ds) (e : Ex H H') : Gr K L H' l ds := by
  obtain ⟨n, xs, h1, h2⟩ := h
  exact ⟨n, xs, e _ _ h1, h2.up (w_ex e)⟩
theorem Gr.ne (h : Gr K L H l ds) : H l ≠ none := by
  obtain ⟨n, xs, h1, h2⟩ := h
  rw [h1]
  simp
theorem gr_new {xs : List V} (hL : Hid L H) (hp : H p = none) (h : DpAll K (W L H) xs ds) : Gr K L (upd H p (.lst xs)) p ds := ⟨hid_not hL hp, xs, upd_same, h.up (w_fresh hp)⟩
/-- a heap that differs at l alone, where the list has one more -/
theorem gr_app {xs : List V} (n : l ∉ L) (h1 : H l = some (.lst xs)) (h2 : DpAll K (W (l :: L) H) xs ds) (hv : Dp K (W (l :: L) H) v d) : Gr K L (upd H l (.lst (xs ++ [v]))) l (ds ++ [d]) := by
  refine ⟨n, xs ++ [v], upd_same, ?_⟩
  rw [w_upd_in (List.mem_cons_self ..)]
  exact dpa_app h2 (.cons hv .nil)
/-! ### statements -/
variable {D : Ends} {tz tu : TS} {i : Nat}
theorem d_asg (h : EvD K L te σ H d) (k : ∀ v H1, Ex H H1 → Dp K (W L H1) v d → D.nx (σ.set i (some v)) H1) : tAsg te (gName i) D σ H := h H (Ex.refl H) _ fun v H1 e hv => k v H1 e hv
theorem qd_asg (h : EvD K L te σ H d) (k : ∀ v H1, Ex H H1 → Dp K (W L H1) v d → tz D (σ.set i (some v)) H1) : tSeq (tAsg te (gName i)) tz D σ H := d_asg (D := { D with nx := tz D }) h k
theorem d_ret (h : EvD K L te σ H d) (k : ∀ v H1, Ex H H1 → Dp K (W L H1) v d → D.rt v H1) : tRet te D σ H := h H (Ex.refl H) _ fun v H1 e hv => k v H1 e hv
theorem qd_lst (hL : Hid L H) (h : EvDs K L ta σ H ds) (hz : ds.length ≤ 100000) (k : ∀ p H1, H p = none → Ex H H1 → Gr K L H1 p ds → tz D (σ.set i (some (.ref p))) H1) : tSeq (tAsg (tLst ta) (gName i)) tz D σ H :=
  h H (Ex.refl H) _ fun vs H1 e hv => ⟨Evl.sz_of (by rw [dpa_len hv]; exact hz), fun p hp => k p _ (Evl.fresh_back e hp) (e.trans (Ex.new hp)) (gr_new (hid_ex e hL) hp hv)⟩
theorem d_app (hg : Gr K L H l ds) (ho : Evl.Ev tb σ H (.ref l)) (h : EvD K (l :: L) te σ H d) (hz : ds.length < 100000) (k : ∀ o H1, Ex H H1 → Gr K L (upd H1 l o) l (ds ++ [d]) → D.nx σ (upd H1 l o)) :
    tDrop (tBM K "list" rAppend tb (tCons te tNil)) D σ H := ho H (Ex.refl H) _ fun H1 e1 => by
  obtain ⟨n, xs, h1, h2⟩ := hg
  refine ⟨Or.inl ⟨rfl, xs, SqL.of (e1 l _ h1)⟩, h H1 e1 _ fun v H2 e2 hv => ⟨l, xs, v, rfl, rfl, e2 l _ (e1 l _ h1), Evl.sz_lt (by rw [dpa_len h2]; exact hz), k _ H2 (e1.trans e2) ?_⟩⟩
  exact gr_app n (e2 l _ (e1 l _ h1)) (h2.up (w_ex (e1.trans e2))) hv
theorem qd_app (hg : Gr K L H l ds) (ho : Evl.Ev tb σ H (.ref l)) (h : EvD K (l :: L) te σ H d) (hz : ds.length < 100000) (k : ∀ o H1, Ex H H1 → Gr K L (upd H1 l o) l (ds ++ [d]) → tz D σ (upd H1 l o)) :
    tSeq (tDrop (tBM K "list" rAppend tb (tCons te tNil))) tz D σ H := d_app (D := { D with nx := tz D }) hg ho h hz k
/-- xs + ys, the left a list that stands, the right a new one -/
theorem evd_cat {es : List PyData} (hL : Hid L H) (hg : Gr K L H l ds) (ho : Evl.Ev te σ H (.ref l)) (h : EvDs K L ta σ H es) (hz : ds.length + es.length ≤ 100000) : EvD K L (tOp rCat te (tLst ta)) σ H (.list (ds ++ es)) := fun H1 e1 Q q =>
  ho H1 e1 _ fun H2 e2 => h H2 (e1.trans e2) _ fun vs H3 e3 hv => by
    have eA := (e1.trans e2).trans e3
    obtain ⟨n, xs, h1, h2⟩ := hg
    have l1 := dpa_len h2
    have l2 := dpa_len hv
    refine ⟨Evl.sz_of (by omega), fun p hp => ⟨l, p, xs, vs, rfl, rfl, ?_, upd_same, Evl.sz_of (by omega), fun r hr => ?_⟩⟩
    · exact (eA.trans (Ex.new hp)) l _ h1
    · refine q (.ref r) _ ((e2.trans e3).trans ((Ex.new hp).trans (Ex.new hr))) (.lst (SqL.of (w_new (hid_upd (hid_ex eA hL)) hr)) ?_)
      have z : Ex (W L H3) (W L (upd (upd H3 p (.lst vs)) r (.lst (xs ++ vs)))) := w_ex ((Ex.new hp).trans (Ex.new hr))
      exact dpa_app (((h2.up w_cons).up (w_ex eA)).up z) (hv.up z)
/-- xs.extend(ys), ys a new list -/
theorem d_ext {es : List PyData} (hg : Gr K L H l ds) (hL : Hid L H) (ho : Evl.Ev tb σ H (.ref l)) (h : EvDs K (l :: L) ta σ H es) (hz : ds.length + es.length ≤ 100000) (k : ∀ o H1, Ex H H1 → Gr K L (upd H1 l o) l (ds ++ es) → D.nx σ (upd H1 l o)) :
    tDrop (tBM K "list" rExtend tb (tCons (tLst ta) tNil)) D σ H := ho H (Ex.refl H) _ fun H1 e1 => by
  obtain ⟨n, xs, h1, h2⟩ := hg
  refine ⟨Or.inl ⟨rfl, xs, SqL.of (e1 l _ h1)⟩, h H1 e1 _ fun vs H2 e2 hv => ?_⟩
  have l1 := dpa_len h2
  have l2 := dpa_len hv
  refine ⟨Evl.sz_of (by omega), fun p hp => ?_⟩
  have e3 : Ex H2 (upd H2 p (.lst vs)) := Ex.new hp
  have eA := (e1.trans e2).trans e3
  refine ⟨l, p, xs, vs, rfl, rfl, eA l _ h1, upd_same, Evl.sz_of (by omega), k _ _ eA ⟨n, xs ++ vs, upd_same, ?_⟩⟩
  rw [w_upd_in (List.mem_cons_self ..)]
  exact dpa_app (h2.up (w_ex eA)) (hv.up (w_ex e3))
theorem qd_ext {es : List PyData} (hg : Gr K L H l ds) (hL : Hid L H) (ho : Evl.Ev tb σ H (.ref l)) (h : EvDs K (l :: L) ta σ H es) (hz : ds.length + es.length ≤ 100000) (k : ∀ o H1, Ex H H1 → Gr K L (upd H1 l o) l (ds ++ es) → tz D σ (upd H1 l o)) :
    tSeq (tDrop (tBM K "list" rExtend tb (tCons (tLst ta) tNil))) tz D σ H := d_ext (D := { D with nx := tz D }) hg hL ho h hz k
end
end U

set_option Elab.async false
set_option linter.all false
set_option maxRecDepth 100000
set_option maxHeartbeats 4000000
namespace UE
open PySem PySem.Spec PyProof.Rows L2
open AutoSeq1 (wpAny_loadPart')
/-! ### enumerate of a tuple -/
theorem meets_enumT (t : Addr) (its : Array Value) (n : Nat) (dd : Option Addr) (sl : Array (Option Value)) :
    Meets (Builtin.«enumerate.__new__» ⟨[.type "enumerate", .ref t], []⟩) (fun _ R s => s.heap.get? t = some { cls := .type "tuple", dict := dd, data := .seq its n, slots := sl } ∧
      R (.ok (.ret (.ref (s.heap.push { cls := .type "tuple_iterator", data := .fields #[.ref t, .int 0 0] }).objs.size)))
        { s with heap := (s.heap.push { cls := .type "tuple_iterator", data := .fields #[.ref t, .int 0 0] }).push { cls := .type "enumerate", data := .fields #[.none, .bool false, .ref s.heap.objs.size, rawInt 0, .none, .none] } }) :=
  .of_wp fun prog w A R s hyp => by
    obtain ⟨hp, g, d, tk, os⟩ := s
    obtain ⟨ht, hyp⟩ := hyp
    have sub := sub_enumerate
    have hT : Heap.IsTuple (Shared.heap ⟨hp, g, d, tk, os⟩) t its := ⟨_, ht, rfl, n, rfl⟩
    wp_walk using wpAny_loadPart' ht
    refine wpAny_stack_any fun st => wpAny_pure ?_
    split
    · rename_i c _ _ _ _ _
      cases (c == Value.type "enumerate") <;>
      · wp_walk using wpAny_loadPart' ht, wpAny_pyIter_tuple hT
        exact ⟨_, rfl, hyp⟩
    · wp_walk using wpAny_loadPart' ht, wpAny_pyIter_tuple hT
      exact ⟨_, rfl, hyp⟩
section
variable {prog : Program} {w : World} {A : Around} {E : Value → Shared → Prop} {s : Shared}
theorem call_enumT {t : Addr} {its : Array Value} {Q : Value → Shared → Prop} (hT : s.heap.IsTuple t its)
    (hyp : ∀ h', IsEnum h' (s.heap.objs.size + 1) s.heap.objs.size 0 .none → h'.IsTupleIter s.heap.objs.size t 0 → h'.objs.size = s.heap.objs.size + 2 → (∀ b o, s.heap.get? b = some o → h'.get? b = some o) → Q (.ref (s.heap.objs.size + 1)) { s with heap := h' }) :
    wpAny (model prog w) A (call (.type "enumerate") [.ref t]) Q E s := by
  obtain ⟨⟨c, dd, dt, sl⟩, ht, hc, n, hd⟩ := hT
  obtain rfl : c = .type "tuple" := hc
  obtain rfl : dt = .seq its n := hd
  refine callType_new F.called_enumerate (by decide) (F.typeCall_enumerate_1 _) (F.newCall_enumerate_1 _) (fun ob => F.args_object_init_2 ob _) F.entry_enumerate_new (meets_enumT t its n dd sl) ⟨ht, ?_⟩
  have sz : (s.heap.push { cls := .type "tuple_iterator", data := .fields #[.ref t, .int 0 0] }).objs.size = s.heap.objs.size + 1 := Heap.size_push ..
  show _ ∧ _
  rw [sz]
  have he : IsEnum ((s.heap.push { cls := .type "tuple_iterator", data := .fields #[.ref t, .int 0 0] }).push { cls := .type "enumerate", data := .fields #[.none, .bool false, .ref s.heap.objs.size, rawInt 0, .none, .none] }) (s.heap.objs.size + 1) s.heap.objs.size 0 .none := by
    have q := Heap.get?_push_size (s.heap.push { cls := .type "tuple_iterator", data := .fields #[.ref t, .int 0 0] }) (o := { cls := .type "enumerate", data := .fields #[.none, .bool false, .ref s.heap.objs.size, rawInt 0, .none, .none] }) rfl
    rw [sz] at q
    exact q
  exact ⟨⟨_, he, rfl⟩, hyp _ he ⟨_, Heap.get?_push_of_some _ (Heap.get?_push_size _ rfl), rfl, rfl⟩ (by rw [Heap.size_push, sz]) fun b o z => Heap.get?_push_of_some _ (Heap.get?_push_of_some _ z)⟩
end
/-- the tuple at a, each item in a new pair -/
def IteT (K : PySem.W.Frag) (a : Addr) : It :=
  ⟨fun i H => ∃ (xs : List V) (x : V), SqT K H a xs ∧ xs[i]? = some x, fun i H v H' => ∃ T x, v = .ref T ∧ H T = none ∧ H' = upd H T (.tup [.int (i : Nat), x]) ∧ ∀ xs, SqT K H a xs → xs[i]? = some x, fun i H => ∃ xs : List V, SqT K H a xs ∧ xs.length ≤ i⟩
theorem turn_enumT {P : Program} {w : World} {K : PySem.W.Frag} {elts : List Expr} {kk : Nat} {tpos : Pos} (a e it : Addr) :
    Turn P w K (.Tuple elts kk tpos) (IteT K a) [e, it] e (fun i h => (∃ old, IsEnum h e it ((i : Nat) : Int) old) ∧ h.IsTupleIter it a i ∧ e ≠ it ∧ a ≠ it ∧ a ≠ e) where
  mem := by simp
  obj := fun i h st b hb => by
    obtain ⟨⟨old, he⟩, ⟨o, ho, hc, hd⟩, _⟩ := st
    have e' : b = e ∨ b = it := by simpa using hb
    rcases e' with z | z
    · rw [z]
      exact ⟨_, he, fun v q => nomatch q⟩
    · rw [z]
      exact ⟨o, ho, fun v q => by rw [hd] at q; cases q⟩
  keep := fun i h h' st k => by
    obtain ⟨⟨old, he⟩, hi, ne⟩ := st
    exact ⟨⟨old, k e (by simp) _ he⟩, hi.at fun o q => k it (by simp) o q, ne⟩
  item := by
    intro X hP hw hK hc i pins s σ H E I hf st hg
    subst hP hw hK
    obtain ⟨⟨old, he⟩, hit, n1, n2, n3⟩ := st
    obtain ⟨xs, x, hq, hx⟩ := hg
    obtain ⟨its, rv, p, hz⟩ := I.tuple hq
    obtain ⟨u, hu, ru⟩ := rv.get hx
    have le : e < s.heap.objs.size := Heap.lt_size he
    have li : it < s.heap.objs.size := by
      obtain ⟨_, q, _⟩ := hit
      exact Heap.lt_size q
    have hlt : i < its.toArray.size := by
      have z := (List.getElem?_eq_some_iff.mp hu).1
      simpa using z
    have D : Draws X.prog X.w X.A.in1 it [it, a] its.toArray.size (fun i v => its.toArray[i]? = some v) (fun i h => h.IsTupleIter it a i ∧ h.IsTuple a its.toArray) := Draws.tuple (show X.A.in1.handled = none from I.ok.hd hc) it a n2 its.toArray
    refine wpAny_pyNext_enum_itemD D he ⟨hit, p⟩ hlt n1 (by simp [n1, Ne.symm n3]) fun y h' tk hy ho hst hT sz kp => ?_
    obtain rfl : y = u := by
      have z : its.toArray[i]? = some u := by simpa using hu
      rw [hy] at z
      exact Option.some.inj z
    refine ⟨_, rfl, wpAny_letOwnedTupleGo_enum (s := { s with heap := h', toks := tk + 1 }) ho fun h'' he' sb => ?_⟩
    have hT2 : h''.get? s.heap.objs.size = some { cls := .type "tuple", data := .seq #[.int i tk, y] } := (sb.2 _ (Nat.ne_of_gt le)).trans hT
    have new : ObjOk X.prog X.w (upd H s.heap.objs.size (.tup [.int (i : Nat), x])) h'' s.heap.objs.size (.tup [.int (i : Nat), x]) := ⟨by show 2 ≤ sizeLine; decide, [.int i tk, y], .cons ⟨_, rfl⟩ (.cons ru .nil), ⟨_, hT2, rfl, _, rfl⟩⟩
    have I1 : Inv X pins σ (upd H s.heap.objs.size (.tup [.int (i : Nat), x])) { s with heap := h'', toks := tk + 1 } :=
      I.turnedNew (ch := [e, it]) (fun b ob hb q => (sb.2 b (fun z => hb (by simp [z]))).trans (kp b ob (fun z => hb (by simp [z])) (fun z => hb (by simp [z])) q)) hf (Nat.le_refl _) new
    refine ⟨.ref s.heap.objs.size, _, I1, rfl, ⟨_, x, rfl, I.hok.fresh (Nat.le_refl _), rfl, fun ys hy => by rw [I.tuple_inj hy hq]; exact hx⟩, ⟨⟨y, ?_⟩, hst.1.at fun o q => (sb.2 it (Ne.symm n1)).trans q, n1, n2, n3⟩, fun b hb => ?_⟩
    · have e1 : ((i + 1 : Nat) : Int) = (i : Int) + 1 := by omega
      rw [e1]
      exact he'
    · have hb' : b < s.heap.objs.size := by
        have e' : b = e ∨ b = it := by simpa using hb
        rcases e' with z | z
        · rw [z]
          exact le
        · rw [z]
          exact li
      rw [upd_ne (Nat.ne_of_lt hb')]
      exact (hf b hb).1
  done := by
    intro X hP hw hK hc i pins s σ H E I hf st hg
    subst hP hw hK
    obtain ⟨⟨old, he⟩, hit, n1, n2, n3⟩ := st
    obtain ⟨xs, hq, hx⟩ := hg
    obtain ⟨its, rv, p, hz⟩ := I.tuple hq
    obtain ⟨f0, f1, f2, f3, f4, f5⟩ := hf it (by simp)
    have hl := rv.length
    have hA : X.A.in1.handled = none := I.ok.hd hc
    have D : Draws X.prog X.w X.A.in1 it [it, a] i (fun _ _ => True) (fun k h => (h.IsTupleIter it a k ∧ h.IsTuple a its.toArray) ∧ k = i) :=
      { live := fun _ _ st => let ⟨o, ho, _⟩ := st.1.1; ⟨o, ho⟩
        frame := fun _ _ _ st hk => ⟨⟨st.1.1.at fun o e => hk it (by simp) o e, st.1.2.at fun o e => hk a (by simp) o e⟩, st.2⟩
        item := fun k s Q E hi st hQ => absurd st.2 (Nat.ne_of_lt hi)
        done := fun s Q E st hE => wpAny_nextOf_tuple_end hA st.1.1 st.1.2 (by simp; omega) hE }
    exact wpAny_pyNext_enum_endD D he ⟨⟨hit, p⟩, rfl⟩ fun h' eb => ⟨rfl, I.turned (t' := s.toks) (fun b o hb q => eb b o hb q) f0 f1 f3 f4 f5⟩
  self := fun A i s Q E st h => by
    obtain ⟨⟨_, he⟩, _⟩ := st
    exact wpAny_pyIter_enum he h
/-- enumerate of a tuple -/
def iEnumT (K : PySem.W.Frag) (ta : TA) : TI := fun σ H R => ta σ H fun vs H1 => ∃ a xs, vs = [.ref a] ∧ SqT K H1 a xs ∧ R (IteT K a) H1
theorem pi_enumT {X : Cx} {e : Expr} {ta : TA} {p pos tpos : Pos} {elts : List Expr} {kk : Nat} (hg : Gl X "enumerate") (hm : X.mg "enumerate" = none) (ha : PA X [e] ta) (hs : starEach [e] X.env = [(false, eval e X.env)] := by rfl) :
    PI X (.Tuple elts kk tpos) (.Call (.Name "enumerate" p) [e] [] pos) (iEnumT X.K ta) := by
  refine ⟨fun pins s σ H R I h => ?_⟩
  refine Call_ (ld_blt I hg hm boot_enumerate (PyProof.Rows.callWith_type1 (thn (ha.run pos pins s σ H _ I h) fun us s1 ⟨vs, H1, I1, r1, q1⟩ => ?_) hs rfl))
  obtain ⟨a, xs, ex, hq, q⟩ := q1
  subst ex
  cases r1 with
  | cons r rr =>
    cases rr
    cases r
    obtain ⟨its, rv, p', hz⟩ := I1.tuple hq
    obtain ⟨oT, hoT, _⟩ := id p'
    have la : a < s1.heap.objs.size := Heap.lt_size hoT
    refine call_enumT (its := its.toArray) p' fun h' he hit hsz hk => wpAny_pyIter_enum he ?_
    have I2 : Inv X pins σ H1 { s1 with heap := h' } := I1.kept (t' := s1.toks) hk
    refine ⟨s1.heap.objs.size + 1, [s1.heap.objs.size + 1, s1.heap.objs.size], _, _, H1, rfl, I2, turn_enumT a (s1.heap.objs.size + 1) s1.heap.objs.size, ⟨⟨.none, he⟩, hit, Nat.succ_ne_self _, Nat.ne_of_lt la, Nat.ne_of_lt (Nat.lt_succ_of_lt la)⟩, fun b hb => ?_, q⟩
    have e' : b = s1.heap.objs.size + 1 ∨ b = s1.heap.objs.size := by simpa using hb
    have hle : s1.heap.objs.size ≤ b := by
      rcases e' with z | z
      · rw [z]
        exact Nat.le_add_right _ _
      · rw [z]
        exact Nat.le_refl _
    exact I1.fpOk hle (I1.hok.fresh hle)
end UE

set_option Elab.async false
set_option linter.all false
set_option maxRecDepth 100000
set_option maxHeartbeats 4000000
namespace UX
open PySem PySem.W PySem.Calls PyProof.Rows PySem.HandSPX
section
variable {M : Model} {A : Around} {E : Value → Shared → Prop} {h : Heap} {g : Array GenState} {d : Drawn} {t : Nat} {os : OsState}
variable {nm q : Str} {C N : Addr} {bs bm bmB : List Value} {hd : Bool} {sn : List Str} {sub : List Value} {ab : Bool} {col : Option Bool} {dd : Option Addr} {k0 k1 k2 k3 k5 : Option Value} {B nid iid : String}
/-- keywords are no fault of a call of such a __new__ -/
theorem kw_check (F : ExcBaseFacts B nid iid bmB) (hT : ∀ X : String, bm.contains (.type X) = bmB.contains (.type X)) {kw : List (Str × Value)} {Q : Unit → Shared → Prop}
    (hC : h.get? C = some (excClassObj nm q C N bs bm hd sn sub ab col dd k0 k1 k2 k3 k5 nid)) (hq : Q () ⟨h, g, d, t, os⟩) : wpAny M A (checkBuiltinCall nid ⟨[.ref C], kw⟩) Q E ⟨h, g, d, t, os⟩ := by
  have inB : (Value.ref C :: bm).contains (.type B) = true := (List.contains_cons ..).trans (by rw [hT, F.hasB]; exact Bool.or_true _)
  have star := F.noStar
  simp only [checkBuiltinCall, F.newKind, F.newSplit, F.newRow]
  repeat (first | refine wpAny_loadPart_at hC ?_ | (refine wpAny_isSubtype_exc hC ?_; rw [inB]) | refine wpAny_staticBase_exc hC ?_ | refine wpAny_madeBy_exc hC ?_ | (simp only [bne_self_eq_false, Bool.false_eq_true, if_false]) | wp_step)
  exact hq
end
section
variable {prog : Program} {w : World} {A : Around} {E : Value → Shared → Prop} {R : Result → Shared → Prop} {h : Heap} {g : Array GenState} {d : Drawn} {t : Nat} {os : OsState}
variable {nm q : Str} {C N : Addr} {bs bm bmB : List Value} {hd : Bool} {sn : List Str} {sub : List Value} {ab : Bool} {col : Option Bool} {dd : Option Addr} {k0 k1 k2 k3 k5 : Option Value} {B nid iid : String}
/-- the heap behind the making of an exception without arguments -/
abbrev mkd (h : Heap) (C : Addr) : Heap := (h.push (kdv_tup [])).push (excO C h.objs.size)
theorem kw_new (F : ExcBaseFacts B nid iid bmB) (hT : ∀ X : String, bm.contains (.type X) = bmB.contains (.type X)) {kw : List (Str × Value)} (hC : h.get? C = some (excClassObj nm q C N bs bm hd sn sub ab col dd k0 k1 k2 k3 k5 nid))
    (hq : R (.ok (.ret (.ref (h.objs.size + 1)))) ⟨mkd h C, g, d, t, os⟩) : codeAny (model prog w) A (.builtin nid ⟨[.ref C], kw⟩) R ⟨h, g, d, t, os⟩ := by
  have ends := F.ends
  have inB : (Value.ref C :: bm).contains (.type B) = true := (List.contains_cons ..).trans (by rw [hT, F.hasB]; exact Bool.or_true _)
  have noA : (Value.ref C :: bm).contains (.type "AttributeError") = false := (List.contains_cons ..).trans (by rw [hT, F.noAttr]; rfl)
  have noN : (Value.ref C :: bm).contains (.type "NameError") = false := (List.contains_cons ..).trans (by rw [hT, F.noName]; rfl)
  have none0 : ([] : List Value).length ≤ sizeLine := Nat.zero_le _
  refine codeAny_builtinAt F.entry ?_
  unfold Builtin.«BaseException.__new__»
  refine PySem.wpAt_bind ?_
  show PySem.wpAt _ _ _ (stack >>= _) _ _ _
  refine PySem.wpAt_bind (PySem.wpAt_stack fun p below => PySem.wpAt_of_wpAny ?_)
  wp_walk
  refine PySem.wpAt_of_wpAny ?_
  rw [F.owner]
  repeat (first | with_reducible refine wpAny_madeHere_exc F.canon hC ?_ | with_reducible refine wpAny_loadPart_at hC ?_ | (with_reducible refine wpAny_isSubtype_exc hC ?_; first | rw [inB] | rw [noA] | rw [noN]) | wp_step)
  show R _ _
  rw [Heap.size_push]
  exact hq
theorem kw_type (F : ExcBaseFacts B nid iid bmB) (hT : ∀ X : String, bm.contains (.type X) = bmB.contains (.type X)) {kw : List (Str × Value)} {fI : Addr} {Q : Fin → Shared → Prop} (hC : h.get? C = some (excClassObj nm q C N bs bm hd sn sub ab col dd k0 k1 k2 k3 k5 nid))
    (hi : Looks (model prog w) h (typeLookup (.ref C) "__init__") (some (.ref fI))) (hb : ∀ self, Looks (model prog w) h (bindSpecial (.ref fI) self) (.ref fI, [self]))
    (hq : codeAny (model prog w) A (.call (.ref fI) ⟨[.ref (h.objs.size + 1)], kw⟩) (fun r s' => match r with | .ok (.ret v) => v = .none ∧ Q (.done (.ret (.ref (h.objs.size + 1)))) s' | .ok _ => False | .error e => E e s') ⟨mkd h C, g, d, t, os⟩) :
    wpAny (model prog w) A (Builtin.«type.__call__» ⟨[.ref C], kw⟩) Q E ⟨h, g, d, t, os⟩ := by
  repeat (first | with_reducible refine wpAny_loadPart_at hC ?_ | with_reducible refine wpAny_madeBy_exc hC ?_ | wp_step)
  refine codeAny_call_builtin_code (Code.quiet_builtin _ F.quiet) (kw_check F hT hC ?_)
  refine kw_new F hT hC ?_
  show wpAny _ _ _ _ _ _
  have kp : ∀ b o, h.get? b = some o → (mkd h C).get? b = some o := fun b o e => Heap.get?_push_of_some _ (Heap.get?_push_of_some _ e)
  have hC1 := kp _ _ hC
  have get1 : (mkd h C).get? (h.objs.size + 1) = some (excO C h.objs.size) := by heap_get
  have self1 : (Value.ref C :: bm).contains (.ref C) = true := by simp
  have i1 := hi.keeps kp
  have b1 := (hb (.ref (h.objs.size + 1))).keeps kp
  unfold isInstance
  repeat (first | with_reducible refine wpAny_loadPart_at get1 ?_ | (with_reducible refine wpAny_isSubtype_exc hC1 ?_; rw [self1]) | wp_step)
  show wpAny _ _ (typeLookup (.ref C) _) _ _ _
  refine i1.at ?_
  refine wpAny_holding (wpAny_bind (b1.at ?_))
  refine wpAny_bind (wpAny_call (codeAny_mono hq fun r s' z => ?_))
  cases r with
  | error e => exact z
  | ok fl =>
    cases fl with
    | ret v =>
      obtain ⟨rfl, z⟩ := z
      first
        | exact wpAny_pure (wpAny_pure z)
        | (wp_walk; exact z)
    | next => exact z.elim
    | brk => exact z.elim
    | cont => exact z.elim
theorem kw_call (F : ExcBaseFacts B nid iid bmB) (hT : ∀ X : String, bm.contains (.type X) = bmB.contains (.type X)) {kw : List (Str × Value)} {fI : Addr} (hC : h.get? C = some (excClassObj nm q C N bs bm hd sn sub ab col dd k0 k1 k2 k3 k5 nid))
    (hi : Looks (model prog w) h (typeLookup (.ref C) "__init__") (some (.ref fI))) (hb : ∀ self, Looks (model prog w) h (bindSpecial (.ref fI) self) (.ref fI, [self]))
    (hq : codeAny (model prog w) (A.under (.builtin "type.__call__" ⟨[.ref C], kw⟩)) (.call (.ref fI) ⟨[.ref (h.objs.size + 1)], kw⟩) (InitBack (h.objs.size + 1) R) ⟨mkd h C, g, d, t, os⟩) :
    codeAny (model prog w) A (.call (.ref C) ⟨[], kw⟩) R ⟨h, g, d, t, os⟩ := by
  have f1 := tc_lookup
  have f2 := tc_bind (.ref C)
  have tyC : (⟨h, g, d, t, os⟩ : Shared).TypeIs (.ref C) "type" := ⟨_, hC, rfl⟩
  refine codeAny_of_tree ?_
  show wpAny _ _ (callAny (.ref C) _) _ _ _
  repeat (any_goals (first | assumption | with_reducible refine wpAny_loadPart_at hC ?_ | wp_step))
  refine ⟨rfl, ?_⟩
  refine codeAny_call_builtin_at (Code.quiet_builtin _ (by decide +kernel)) entry_typeCall (wpAny_check_type_call_sub hC (kw_type F hT hC hi hb ?_))
  refine codeAny_mono hq fun r s' z => ?_
  cases r with
  | error e => exact z
  | ok fl => cases fl <;> exact z
end
end UX

set_option Elab.async false
set_option linter.all false
set_option maxRecDepth 100000
set_option maxHeartbeats 4000000
namespace U
open PySem L2 PyProof.Rows
open Evl (Ex)
/-! ### errors of the text as values -/
/-- what a class of errors with its own __init__(self, f) says -/
structure ErrC (P : Program) (w : World) (K : PySem.W.Frag) (mg : Str → Option Value) (base : Heap) (x : Str) (C : Addr) (f : Str) : Prop where
  T : OexC K C
  gC : mg x = some (.ref C)
  xf : XfC K C
  no : PySem.W.findIn K (.ref C) f = some none
  init : ∃ (fI : Addr) (fd : FuncData), PySem.W.findIn K (.ref C) "__init__" = some (some (.ref fI)) ∧ PySem.W.typeIn K (.ref fI) = some (.type "function") ∧
    FnOk P w K mg base CX0 1 fI fd ["self", f] (fun vs H Q _ => ∃ (a : Addr) (v : V), vs = [.ref a, v] ∧ H a = some (exo a C none) ∧ ∀ dx, H dx = none → dx ≠ a → Q .non (upd (upd H dx (exd dx [(f, v)])) a (exo a C (some dx)))) ∧
    Binds K fd ["self", f] [] ∧ (∀ (s : Shared) (u v : Value), BindsTo s fd ⟨[u], [(f, v)]⟩ [("self", u), (f, v)])
/-- at a an error of the class at C whose attribute f is v -/
def ErrAt (H : Hp) (a C : Addr) (f : Str) (v : V) : Prop := ∃ d : Addr, H a = some (exo a C (some d)) ∧ H d = some (exd d [(f, v)])
theorem ErrAt.up {H H' : Hp} {a C : Addr} {f : Str} {v : V} (h : ErrAt H a C f v) (e : Ex H H') : ErrAt H' a C f v := by
  obtain ⟨d, h1, h2⟩ := h
  exact ⟨d, e _ _ h1, e _ _ h2⟩
/-- at a an error of the class at C -/
def ErrOf (H : Hp) (a C : Addr) : Prop := (∃ (d : Addr) (fs : List (Str × V)), H a = some (exo a C (some d)) ∧ H d = some (exd d fs)) ∨ H a = some (ExO (.ref C) a)
theorem ErrOf.up {H H' : Hp} {a C : Addr} (h : ErrOf H a C) (e : Ex H H') : ErrOf H' a C := by
  rcases h with ⟨d, fs, h1, h2⟩ | h1
  · exact .inl ⟨d, fs, e _ _ h1, e _ _ h2⟩
  · exact .inr (e _ _ h1)
theorem ErrAt.of {H : Hp} {a C : Addr} {f : Str} {v : V} (h : ErrAt H a C f v) : ErrOf H a C := by
  obtain ⟨d, h1, h2⟩ := h
  exact .inl ⟨d, _, h1, h2⟩
theorem err_laid {H : Hp} {a dx C : Addr} {f : Str} {v : V} (ha : H a = none) (hd : H dx = none) (n : dx ≠ a) :
    Ex H (upd (upd (upd H a (exo a C none)) dx (exd dx [(f, v)])) a (exo a C (some dx))) ∧ ErrAt (upd (upd (upd H a (exo a C none)) dx (exd dx [(f, v)])) a (exo a C (some dx))) a C f v := by
  refine ⟨fun b o e => ?_, dx, upd_same, ?_⟩
  · have n1 : b ≠ a := ne_of_none e ha
    have n2 : b ≠ dx := ne_of_none e hd
    rw [upd_ne n1, upd_ne n2, upd_ne n1]
    exact e
  · rw [upd_ne n, upd_same]
section
variable {X : Cx} {x f : Str} {C : Addr} {e : Expr} {te : TE} {p pos kpos apos : Pos}
/-- X(e): a new error -/
def tErr (C : Addr) (f : Str) (te : TE) : TE := fun σ H Q => te σ H fun v H1 => ∀ a H2, H1 a = none → Ex H1 H2 → ErrAt H2 a C f v → Q (.ref a) H2
theorem err_size {us : List Value} (h : us.length ≤ 1) : us.length ≤ sizeLine := by
  rw [sizeLine_eq]
  omega
theorem pe_err (R : ErrC X.prog X.w X.K X.mg X.base x C f) (hr : Room 2 X.A) (hg : Gl X x) (he : PE X e te) (hdb : (x == ("__debug__" : Str)) = false := by decide)
    (hs : starEach [e] X.env = (false, eval e X.env) :: starEach [] X.env := by rfl) : PE X (.Call (.Name x p) [e] [] pos) (tErr C f te) := by
  refine ⟨fun pins s σ H Q I h => ?_⟩
  obtain ⟨fI, fd, iC, tI, F1, hb, _⟩ := R.init
  obtain ⟨nm, q, N, bs, bm, sn, sub, ab, col, dd, k0, k1, k2, k3, k5, hC, hbm⟩ := R.T.cls
  refine wpAny_Call_Name_kw (ld_glob I hg R.gC ?_ hdb)
  refine PySem.W.callWith_K (h₀ := X.base) I.ok.mod.kin R.T.kC ?_ hs (by rfl)
  rw [hs]
  show wpAny _ _ (spliced ((false, eval e X.env) :: backTo pos (starEach [] X.env))) _ _ s
  refine Calls.spliced_cons (thn (he.run pins s σ H _ I h) fun u s1 ⟨v, H1, I1, r1, q1⟩ => Calls.spliced_nil ⟨I1.kIn, ?_⟩)
  show wpAny _ _ (call (.ref C) [u]) _ _ _
  obtain ⟨hp, g, dr, tk, os⟩ := s1
  have hsz : hp.objs.size ≤ hp.objs.size + 1 := Nat.le_succ _
  have hn : H1 (hp.objs.size + 1) = none := I1.hok.fresh hsz
  have kk : ∀ b o, hp.get? b = some o → ((hp.push (PySem.W.kdv_tup [u])).push (PySem.HandSPX.excO C hp.objs.size)).get? b = some o := fun b o z => Heap.get?_push_of_some _ (Heap.get?_push_of_some _ z)
  have hget : ((hp.push (PySem.W.kdv_tup [u])).push (PySem.HandSPX.excO C hp.objs.size)).get? (hp.objs.size + 1) = some (PySem.HandSPX.excO C hp.objs.size) := by heap_get
  have I2 : Inv X pins σ (upd H1 (hp.objs.size + 1) (exo (hp.objs.size + 1) C none)) ⟨(hp.push (PySem.W.kdv_tup [u])).push (PySem.HandSPX.excO C hp.objs.size), g, dr, tk, os⟩ :=
    I1.laid (t' := tk) (a := hp.objs.size + 1) (o := exo (hp.objs.size + 1) C none) (h' := (hp.push (PySem.W.kdv_tup [u])).push (PySem.HandSPX.excO C hp.objs.size)) kk hsz (exo_ok hget)
  have r2 : Vals [V.ref (hp.objs.size + 1), v] [Value.ref (hp.objs.size + 1), u] := .cons rfl (.cons r1 .nil)
  have bt := hb _ [Value.ref (hp.objs.size + 1), u] I2.kIn rfl
  rw [List.append_nil] at bt
  refine wpAny_call (PySem.HandSPX.call_own PySem.F.excBase_ValueError (fun Y => PySem.HandSPX.refsVE_contains Y bm hbm) (I1.kIn _ _ hC) (PySem.W.looks_findIn I1.kIn iC) (fun self => PySem.W.bind_fn I1.kIn self tI) (err_size (Nat.le_refl 1))
    (codeAny_mono (F1.run _ X.stack _ _ ⟨[Value.ref (hp.objs.size + 1), u], []⟩ [Value.ref (hp.objs.size + 1), u] _ (fun y H2 => y = .non ∧ Q (.ref (hp.objs.size + 1)) H2) (fun _ _ _ => False) (hr.make C [u] []) (I2.env0.make C [u] []) bt r2
      ⟨_, v, rfl, upd_same, fun dx hdx nx => ⟨rfl, ?_⟩⟩) fun r s' hq' => ?_))
  · have hd1 : H1 dx = none := by
      rw [upd_ne nx] at hdx
      exact hdx
    obtain ⟨z1, z2⟩ := err_laid (C := C) (f := f) (v := v) hn hd1 nx
    exact q1 _ _ hn z1 z2
  · cases r with
    | error er => exact False.elim hq'
    | ok fl =>
      cases fl with
      | ret u' =>
        obtain ⟨y, H', I3, ry, ey, q3⟩ := I2.after hq'
        subst ey
        exact ⟨ry, ⟨V.ref (hp.objs.size + 1), H', I3, rfl, q3⟩⟩
      | next => exact False.elim hq'
      | brk => exact False.elim hq'
      | cont => exact False.elim hq'
/-- of a list with one item -/
def only1 (R : V → Hp → Prop) : List V → Hp → Prop
  | [v], H => R v H
  | _, _ => False
theorem only1_is {R : V → Hp → Prop} : ∀ {vs : List V} {H : Hp}, only1 R vs H → ∃ v, vs = [v] ∧ R v H
  | [v], _, h => ⟨v, rfl, h⟩
  | [], _, h => h.elim
  | _ :: _ :: _, _, h => h.elim
/-- X(f=e) -/
theorem pe_errK (R : ErrC X.prog X.w X.K X.mg X.base x C f) (hr : Room 2 X.A) (hg : Gl X x) (he : PE X e te) (hdb : (x == ("__debug__" : Str)) = false := by decide) : PE X (.Call (.Name x p) [] [⟨some f, e, kpos⟩] pos) (tErr C f te) := by
  refine ⟨fun pins s σ H Q I h => ?_⟩
  obtain ⟨fI, fd, iC, tI, F1, _, hb⟩ := R.init
  obtain ⟨nm, q, N, bs, bm, sn, sub, ab, col, dd, k0, k1, k2, k3, k5, hC, hbm⟩ := R.T.cls
  refine wpAny_Call_Name_kw (ld_glob I hg R.gC ?_ hdb)
  have hk : PK X [⟨some f, e, kpos⟩] (tCons te tNil) := pk_cons he pk_nil
  refine PySem.W.callWith_KW0 (h₀ := X.base) I.ok.mod.kin R.T.kC (by rfl) (thn (hk.run pos pins s σ H (only1 fun v H1 => ∀ a H2, H1 a = none → Ex H1 H2 → ErrAt H2 a C f v → Q (.ref a) H2) I h) fun us s1 ⟨vs, H1, I1, r1, q0⟩ => ⟨I1.kIn, ?_⟩)
  obtain ⟨v, ev, q1⟩ := only1_is q0
  subst ev
  obtain ⟨u, eu, r9⟩ := Vals.one r1
  subst eu
  show wpAny _ _ (call (.ref C) [] [(f, u)]) _ _ _
  obtain ⟨hp, g, dr, tk, os⟩ := s1
  have hsz : hp.objs.size ≤ hp.objs.size + 1 := Nat.le_succ _
  have hn : H1 (hp.objs.size + 1) = none := I1.hok.fresh hsz
  have kk : ∀ b o, hp.get? b = some o → (UX.mkd hp C).get? b = some o := fun b o z => Heap.get?_push_of_some _ (Heap.get?_push_of_some _ z)
  have hget : (UX.mkd hp C).get? (hp.objs.size + 1) = some (PySem.HandSPX.excO C hp.objs.size) := by heap_get
  have I2 : Inv X pins σ (upd H1 (hp.objs.size + 1) (exo (hp.objs.size + 1) C none)) ⟨UX.mkd hp C, g, dr, tk, os⟩ :=
    I1.laid (t' := tk) (a := hp.objs.size + 1) (o := exo (hp.objs.size + 1) C none) (h' := UX.mkd hp C) kk hsz (exo_ok hget)
  have r2 : Vals [V.ref (hp.objs.size + 1), v] [Value.ref (hp.objs.size + 1), u] := .cons rfl (.cons r9 .nil)
  have bt := hb ⟨UX.mkd hp C, g, dr, tk, os⟩ (Value.ref (hp.objs.size + 1)) u
  refine wpAny_call (UX.kw_call PySem.F.excBase_ValueError (fun Y => PySem.HandSPX.refsVE_contains Y bm hbm) (I1.kIn _ _ hC) (PySem.W.looks_findIn I1.kIn iC) (fun self => PySem.W.bind_fn I1.kIn self tI)
    (codeAny_mono (F1.run _ X.stack _ _ ⟨[Value.ref (hp.objs.size + 1)], [(f, u)]⟩ [Value.ref (hp.objs.size + 1), u] _ (fun y H2 => y = .non ∧ Q (.ref (hp.objs.size + 1)) H2) (fun _ _ _ => False) (hr.make C [] [(f, u)]) (I2.env0.make C [] [(f, u)]) bt r2
      ⟨_, v, rfl, upd_same, fun dx hdx nx => ⟨rfl, ?_⟩⟩) fun r s' hq' => ?_))
  · have hd1 : H1 dx = none := by
      rw [upd_ne nx] at hdx
      exact hdx
    obtain ⟨z1, z2⟩ := err_laid (C := C) (f := f) (v := v) hn hd1 nx
    exact q1 _ _ hn z1 z2
  · cases r with
    | error er => exact False.elim hq'
    | ok fl =>
      cases fl with
      | ret u' =>
        obtain ⟨y, H', I3, ry, ey, q3⟩ := I2.after hq'
        subst ey
        exact ⟨ry, ⟨V.ref (hp.objs.size + 1), H', I3, rfl, q3⟩⟩
      | next => exact False.elim hq'
      | brk => exact False.elim hq'
      | cont => exact False.elim hq'
/-- e.f, e an error that stands -/
def tErrF (K : PySem.W.Frag) (f : Str) (te : TE) : TE := fun σ H Q => te σ H fun x H1 => ∃ (a C : Addr) (v : V), x = .ref a ∧ XfC K C ∧ PySem.W.findIn K (.ref C) f = some none ∧ ErrAt H1 a C f v ∧ Q v H1
theorem pe_errF (he : PE X e te) (hb : attributeBase e f X.env (eval e X.env) = eval e X.env := by rfl) : PE X (.Attribute e f pos) (tErrF X.K f te) := by
  refine ⟨fun pins s σ H Q I h => ?_⟩
  refine attr_of hb (thn (he.run pins s σ H _ I h) fun u s1 hh => ?_)
  obtain ⟨x, H1, I1, rx, a, C, v, ex, R, hno, ⟨d, ea, ed⟩, q⟩ := hh
  subst ex
  obtain rfl : u = Value.ref a := rx
  obtain ⟨t1, ho⟩ := exo_at I1.hok ea
  obtain ⟨mA, hns, rel⟩ := exd_at I1.hok ed
  obtain ⟨od, hd, hl⟩ := lookIn_ns hns
  have l1 : [(f, v)].lookup f = some v := by simp [List.lookup]
  obtain ⟨y, hy, ry⟩ := RelO.some_of (v := v) (o := mA f) (by rw [← l1]; exact rel f)
  have J : PySem.W.InstAt s1.heap a { cls := .ref C, dict := some d, data := .fields #[.ref t1, .none, .none, .none, .bool false, .none] } C (some od) := ⟨ho, rfl, rfl, hd⟩
  exact HandSPX.exc_get I1.kIn J R.ga R.gg R.exC (PySem.W.findObj_own R.hdC hno rfl (by rw [hl, hy])) (handed_of ry) ⟨v, H1, I1.tok _, ry, q⟩
/-- X(): an error of a class without own __init__ -/
theorem pe_err0 {bmB : List Value} {B nid iid : String} (F : ExcBaseFacts B nid iid bmB) (q : PySem.W.excIn X.K C bmB nid = true) (gC : X.mg x = some (.ref C)) (kC : PySem.W.keepIn X.K (.ref C) = true) (hg : Gl X x) (hdb : (x == ("__debug__" : Str)) = false := by decide) :
    PE X (.Call (.Name x p) [] [] pos) (fun _ H Q => ∀ a, H a = none → Q (.ref a) (upd H a (ExO (.ref C) a))) := by
  refine ⟨fun pins s σ H Q I h => ?_⟩
  refine wpAny_Call_Name_kw (ld_glob I hg gC ?_ hdb)
  refine PySem.W.callWith_K0 I.kIn kC ?_
  show wpAny _ _ (call (.ref C) []) _ _ _
  obtain ⟨bm, N, nm, qn, bs, hdct, sn, sub, ab, col, dd, k0, k1, k2, k3, k5, mN, hC, hN, hni, T⟩ := exc_obj I.kIn q
  refine wpAny_call_exc_subT F T hC hN hni (fun h' a hm => ?_) (Nat.zero_le _)
  have hn : H a = none := I.hok.gone hm.new
  obtain ⟨t, ht, _, _⟩ := hm.there
  exact ⟨.ref a, upd H a (ExO (.ref C) a), I.laidN hm.keeps hm.new hn (exO_ok ht ⟨rfl, rfl⟩ rfl rfl rfl (show 4 < 6 by decide)), rfl, h a hn⟩
/-- what the class D says, so that isinstance asks its instances rightly -/
structure IsiC (K : PySem.W.Frag) (D : Addr) : Prop where
  cl : (PySem.W.clsIn K D).isSome = true
  hg : PySem.W.findIn K (.ref D) "__getattribute__" = some (some (.builtin "BaseException.__getattribute__"))
  hk : PySem.W.findIn K (.ref D) "__getattr__" = some none
  hs : PySem.W.subIn K (.ref D) (.type "BaseException") = some true
  ha : PySem.W.findIn K (.ref D) "__class__" = some (some (.builtin "object.__class__"))
  hn : PySem.W.specialIn K (.builtin "object.__class__") "__get__" = some (some (.builtin "getset_descriptor.__get__"))
  ht : PySem.W.takesIn K (.builtin "object.__class__") = some true
  hm : PySem.W.mroIn K D (.type "object") = some true
/-- isinstance(e, c), e an error that stands -/
def rIsErr (K : PySem.W.Frag) : List V → Hp → VK → Prop := fun xs H Q => ∃ (a D : Addr) (c : V) (cv : Value) (b : Bool), xs = [.ref a, c] ∧ ErrOf H a D ∧ IsiC K D ∧ ClsV c cv ∧ PySem.W.kitOne K (.ref D) cv = some b ∧ Q (.bl b) H
theorem call_isErr : CallR X (.builtin "isinstance") (rIsErr X.K) := by
  intro pins s σ H xs us Q I r h
  obtain ⟨a, D, c, cv, b, rfl, he, Z, hc, e, q⟩ := h
  obtain ⟨u1, u2, rfl, r1, r2⟩ := vals2 r
  have e2 := hc.eq r2
  subst e2
  obtain rfl : u1 = Value.ref a := r1
  have J : ∃ (ox : Obj) (od : Option Obj), PySem.W.InstAt s.heap a ox D od := by
    rcases he with ⟨d, fs, ea, ed⟩ | ea
    · obtain ⟨t1, ho⟩ := exo_at I.hok ea
      obtain ⟨mA, hns, rel⟩ := exd_at I.hok ed
      obtain ⟨od, hd, hl⟩ := lookIn_ns hns
      exact ⟨_, some od, ho, rfl, rfl, hd⟩
    · obtain ⟨⟨oe, vs, h1, h2, h3, _⟩, _, _⟩ := (show ObjOk X.prog X.w H s.heap a (.ext _) from I.hok a _ ea)
      refine ⟨oe, none, h1, h2.1, ?_, ?_⟩
      · unfold PySem.W.notCls
        rw [h3]
      · rw [h2.2]
        trivial
  obtain ⟨ox, od, J⟩ := J
  exact PySem.W.kia_one (PySem.W.kitx_exc Z.cl Z.hg Z.hk Z.hs Z.ha Z.hn Z.ht Z.hm) I.kIn J e (fun z => nomatch z) fun tk => ⟨.bl b, H, I.tok tk, rfl, q⟩
end
end U

set_option Elab.async false
set_option linter.all false
set_option maxRecDepth 100000
set_option maxHeartbeats 4000000
namespace U
open PySem PySem.Spec PyProof.Rows L2
open Evl (Ex)
section
variable {X : Cx} {tg : Expr}
/-- a list or a tuple, item by item -/
def iSeq (K : PySem.W.Frag) (tl : TE) : TI := fun σ H R => tl σ H fun x H1 => ∃ a, x = .ref a ∧ (((∃ xs, SqL K H1 a xs) ∧ R (Itl K a) H1) ∨ ((∃ xs, SqT K H1 a xs) ∧ R (Itt K a) H1))
theorem pi_seq {l : Expr} {tl : TE} (hl : PE X l tl) : PI X tg l (iSeq X.K tl) := by
  refine ⟨fun pins s σ H R I h => ?_⟩
  refine thn (hl.run pins s σ H _ I h) fun v s1 ⟨x, H1, I1, r1, q1⟩ => ?_
  obtain ⟨a, e, q⟩ := q1
  subst e
  cases r1
  have fresh : ∀ b ∈ [s1.heap.objs.size], b = s1.heap.objs.size := fun b hb => by simpa using hb
  rcases q with ⟨⟨xs, hq⟩, q⟩ | ⟨⟨xs, hq⟩, q⟩
  · obtain ⟨its, rv, p, hz⟩ := I1.list hq
    refine wpAny_pyIter_list p.isList ?_
    refine ⟨s1.heap.objs.size, [s1.heap.objs.size], _, _, H1, rfl, I1.kept (t' := s1.toks) fun b o e => Heap.get?_push_of_some _ e, turn_list a _, ⟨_, Heap.get?_push_size _ rfl, rfl, rfl⟩, fun b hb => ?_, q⟩
    rw [fresh b hb]
    exact I1.fpOk (Nat.le_refl _) (I1.hok.fresh (Nat.le_refl _))
  · obtain ⟨its, rv, p, hz⟩ := I1.tuple hq
    refine wpAny_pyIter_tuple (show s1.heap.IsTuple a its.toArray from p) ?_
    refine ⟨s1.heap.objs.size, [s1.heap.objs.size], _, _, H1, rfl, I1.kept (t' := s1.toks) fun b o e => Heap.get?_push_of_some _ e, turn_tuple a _, ⟨_, Heap.get?_push_size _ rfl, rfl, rfl⟩, fun b hb => ?_, q⟩
    rw [fresh b hb]
    exact I1.fpOk (Nat.le_refl _) (I1.hok.fresh (Nat.le_refl _))
/-- enumerate of a list or a tuple -/
def iEnumA (K : PySem.W.Frag) (ta : TA) : TI := fun σ H R => ta σ H fun vs H1 => ∃ a xs, vs = [.ref a] ∧ ((SqL K H1 a xs ∧ R (Ite K a) H1) ∨ (SqT K H1 a xs ∧ R (UE.IteT K a) H1))
theorem pi_enumA {e : Expr} {ta : TA} {p pos tpos : Pos} {elts : List Expr} {kk : Nat} (hg : Gl X "enumerate") (hm : X.mg "enumerate" = none) (ha : PA X [e] ta) (hs : starEach [e] X.env = [(false, eval e X.env)] := by rfl) :
    PI X (.Tuple elts kk tpos) (.Call (.Name "enumerate" p) [e] [] pos) (iEnumA X.K ta) := by
  refine ⟨fun pins s σ H R I h => ?_⟩
  refine Call_ (ld_blt I hg hm boot_enumerate (PyProof.Rows.callWith_type1 (thn (ha.run pos pins s σ H _ I h) fun us s1 ⟨vs, H1, I1, r1, q1⟩ => ?_) hs rfl))
  obtain ⟨a, xs, ex, q⟩ := q1
  subst ex
  have hb2 : ∀ b ∈ [s1.heap.objs.size + 1, s1.heap.objs.size], s1.heap.objs.size ≤ b := fun b hb => by
    have e' : b = s1.heap.objs.size + 1 ∨ b = s1.heap.objs.size := by simpa using hb
    omega
  cases r1 with
  | cons r rr =>
    cases rr
    cases r
    rcases q with ⟨hq, q⟩ | ⟨hq, q⟩
    · obtain ⟨its, rv, p', hz⟩ := I1.list hq
      refine call_enumerate_list p'.isList fun h' he hit hsz hk => wpAny_pyIter_enum he ?_
      have I2 : Inv X pins σ H1 { s1 with heap := h' } := I1.kept (t' := s1.toks) hk
      exact ⟨s1.heap.objs.size + 1, [s1.heap.objs.size + 1, s1.heap.objs.size], _, _, H1, rfl, I2, turn_enum a (s1.heap.objs.size + 1) s1.heap.objs.size, ⟨⟨.none, he⟩, hit, Nat.succ_ne_self _⟩, fun b hb => I1.fpOk (hb2 b hb) (I1.hok.fresh (hb2 b hb)), q⟩
    · obtain ⟨its, rv, p', hz⟩ := I1.tuple hq
      obtain ⟨oT, hoT, _⟩ := id p'
      have la : a < s1.heap.objs.size := Heap.lt_size hoT
      refine UE.call_enumT (its := its.toArray) p' fun h' he hit hsz hk => wpAny_pyIter_enum he ?_
      have I2 : Inv X pins σ H1 { s1 with heap := h' } := I1.kept (t' := s1.toks) hk
      exact ⟨s1.heap.objs.size + 1, [s1.heap.objs.size + 1, s1.heap.objs.size], _, _, H1, rfl, I2, UE.turn_enumT a (s1.heap.objs.size + 1) s1.heap.objs.size, ⟨⟨.none, he⟩, hit, Nat.succ_ne_self _, Nat.ne_of_lt la, Nat.ne_of_lt (Nat.lt_succ_of_lt la)⟩, fun b hb => I1.fpOk (hb2 b hb) (I1.hok.fresh (hb2 b hb)), q⟩
end
section
variable {K : PySem.W.Frag} {a : Addr} {xs : List V}
theorem walk_enumT : Walk (UE.IteT K a) xs.length (fun H => SqT K H a xs) (YPair (fun i => some (.int (i : Nat))) (fun i => xs[i]?)) := by
  refine ⟨fun i _ hi q => ⟨xs, xs[i], q, by simp [hi]⟩, fun _ q => ⟨xs, q, Nat.le_refl _⟩, fun i H v H' _ q y => ?_⟩
  obtain ⟨T, x, h1, h2, h3, h4⟩ := y
  exact ⟨T, .int (i : Nat), x, h1, h2, h3, rfl, h4 xs q⟩
end
/-! ### a comprehension whose items are data -/
section
variable {K : PySem.W.Frag} {L : List Addr} {σ σ2 : L2.St} {H H' H1 H2 : Hp} {te tl : TE} {ta : TA} {tt : TT} {v : V} {d : PyData} {ds : List PyData} {l a Dl : Addr} {xs : List V} {f : Nat → List PyData} {i : Nat}
theorem w_past (hn : H Dl = none) (e : Ex H H') : Ex (W L H) (W (Dl :: L) H') := fun b o h => by
  obtain ⟨h1, n⟩ := w_in h
  have ne : b ≠ Dl := ne_of_none h1 hn
  exact w_of (fun m => (List.mem_cons.mp m).elim ne n) (e b o h1)
/-- evaluates to a new list of data -/
def EvG (K : PySem.W.Frag) (L : List Addr) (te : TE) (σ : L2.St) (H : Hp) (ds : List PyData) : Prop := ∀ H1, Ex H H1 → ∀ Q : VK, (∀ p H2, H1 p = none → Ex H1 H2 → Gr K L H2 p ds → Q (.ref p) H2) → te σ H1 Q
theorem EvG.mono (e : Ex H H') (h : EvG K L te σ H ds) : EvG K L te σ H' ds := fun H1 a Q q => h H1 (e.trans a) Q q
theorem EvG.dat (h : EvG K L te σ H ds) : EvD K L te σ H (.list ds) := fun H1 e Q q => h H1 e _ fun p H2 hp e2 g => q (.ref p) H2 e2 g.dp
def Cmd (K : PySem.W.Frag) (L : List Addr) (H : Hp) (f : Nat → List PyData) (Dl : Addr) (i : Nat) (H' : Hp) : Prop := H Dl = none ∧ Ex H H' ∧ Gr K L H' Dl (f i)
theorem cmd_0 (hL : Hid L H) (hn : H Dl = none) (f0 : f 0 = []) : Cmd K L H f Dl 0 (upd H Dl (.lst [])) := ⟨hn, Ex.new hn, by
  rw [f0]
  exact gr_new hL hn .nil⟩
theorem cmd_yes (p : Cmd K L H f Dl i H') (hz : (f i).length < 100000) (e2 : Ex H' H2) (he : EvD K (Dl :: L) te σ2 H2 d) (hf : f (i + 1) = f i ++ [d]) :
    te σ2 H2 fun y H4 => ∃ acc, H4 Dl = some (.lst acc) ∧ acc.length < sizeLine ∧ Cmd K L H f Dl (i + 1) (upd H4 Dl (.lst (acc ++ [y]))) := by
  obtain ⟨p1, p2, n, acc, p3, p4⟩ := p
  refine he H2 (Ex.refl H2) _ fun y H4 e4 hy => ⟨acc, e4 Dl _ (e2 Dl _ p3), Evl.sz_lt (by rw [dpa_len p4]; exact hz), p1, Evl.Ex.mut ((p2.trans e2).trans e4) p1, ?_⟩
  rw [hf]
  exact gr_app n (e4 Dl _ (e2 Dl _ p3)) (p4.up (w_ex (e2.trans e4))) hy
theorem cmd_no (p : Cmd K L H f Dl i H') (e2 : Ex H' H2) (hf : f (i + 1) = f i) : Cmd K L H f Dl (i + 1) H2 := by
  obtain ⟨p1, p2, p3⟩ := p
  rw [← hf] at p3
  exact ⟨p1, p2.trans e2, p3.up e2⟩
/-- [.. for x in a list or a tuple of data] -/
theorem eg_seq {j : Nat} {vs : List Nat} {g : PyData → PyData} (h : Evl.Ev tl σ H (.ref a)) (hx : SqL K H a xs ∨ SqT K H a xs) (hd : DpAll K (W L H) xs ds) (hL : Hid L H) (hz : ds.length ≤ 50000) (hw : ∀ x, wipe ((wipe σ vs).set j (some x)) vs = wipe σ vs)
    (he : ∀ L' (x : V) d H1, d ∈ ds → Hid L' H1 → Ex H H1 → Dp K (W L' H1) x d → EvD K L' te ((wipe σ vs).set j (some x)) H1 (g d)) : EvG K L (tLc (iSeq K tl) (gName j) tYes te vs) σ H (ds.map g) := fun H0 e0 Q q => h H0 e0 _ fun H1 e1 => by
  have hlen := dpa_len hd
  have turn : ∀ (Dl : Addr) (i : Nat) (x : V) (H2 H3 : Hp), i < xs.length → Cmd K L H1 (fun i => (ds.take i).map g) Dl i H2 → YAt xs i H2 x H3 → gName j x (wipe σ vs) H3 fun σ2 H2 => wipe σ2 vs = wipe σ vs ∧ tYes σ2 H2 fun b H3 =>
      if b = true then te σ2 H3 fun y H4 => ∃ acc, H4 Dl = some (.lst acc) ∧ acc.length < sizeLine ∧ Cmd K L H1 (fun i => (ds.take i).map g) Dl (i + 1) (upd H4 Dl (.lst (acc ++ [y]))) else Cmd K L H1 (fun i => (ds.take i).map g) Dl (i + 1) H3 := by
    intro Dl i x H2 H3 hi p yp
    obtain ⟨rfl, hu⟩ := yp
    obtain ⟨d, hd1, hd2⟩ := dpa_get hd hu
    obtain ⟨p1, p2, p3⟩ := id p
    refine ⟨hw x, ?_⟩
    refine yes_lc (A := fun H3 => te ((wipe σ vs).set j (some x)) H3 fun y H4 => ∃ acc, H4 Dl = some (.lst acc) ∧ acc.length < sizeLine ∧ Cmd K L H1 (fun i => (ds.take i).map g) Dl (i + 1) (upd H4 Dl (.lst (acc ++ [y])))) (B := fun H3 => Cmd K L H1 (fun i => (ds.take i).map g) Dl (i + 1) H3) ?_
    refine cmd_yes p (by simp; omega) (Ex.refl _) (he _ x d _ (List.mem_of_getElem? hd1) ?_ ((e0.trans e1).trans p2) (hd2.up (w_past (Evl.fresh_back (e0.trans e1) p1) ((e0.trans e1).trans p2)))) ?_
    · intro b hb
      rcases List.mem_cons.mp hb with z | z
      · rw [z]
        exact p3.ne
      · exact hid_ex ((e0.trans e1).trans p2) hL b z
    · have hi' : i < ds.length := by omega
      rw [List.take_add_one, hd1]
      simp
  have fin : ∀ Dl H2, Cmd K L H1 (fun i => (ds.take i).map g) Dl xs.length H2 → Q (.ref Dl) H2 := fun Dl H2 p => by
    obtain ⟨p1, p2, p3⟩ := p
    refine q Dl H2 (Evl.fresh_back e1 p1) (e1.trans p2) ?_
    have e : (ds.take xs.length).map g = ds.map g := by rw [hlen, List.take_length]
    rw [← e]
    exact p3
  have hL1 : Hid L H1 := hid_ex (e0.trans e1) hL
  refine ⟨a, rfl, ?_⟩
  rcases hx with x1 | x1
  · refine .inl ⟨⟨xs, Evl.ex_l (e0.trans e1) x1⟩, fun Dl hD => ?_⟩
    exact lc_it (walk_list (xs := xs)) (Cmd K L H1 (fun i => (ds.take i).map g) Dl) (cmd_0 hL1 hD rfl) (fun i H2 _ p => Evl.ex_l ((e0.trans e1).trans p.2.1) x1) (fun i x H2 H3 hi p y => turn Dl i x H2 H3 hi p y) (fun H2 p => fin Dl H2 p)
  · refine .inr ⟨⟨xs, Evl.ex_t (e0.trans e1) x1⟩, fun Dl hD => ?_⟩
    exact lc_it (walk_tup (xs := xs)) (Cmd K L H1 (fun i => (ds.take i).map g) Dl) (cmd_0 hL1 hD rfl) (fun i H2 _ p => Evl.ex_t ((e0.trans e1).trans p.2.1) x1) (fun i x H2 H3 hi p y => turn Dl i x H2 H3 hi p y) (fun H2 p => fin Dl H2 p)
/-- [.. for p, q in a list or a tuple of pairs of data] -/
theorem eg_pairs {j1 j2 : Nat} {vs : List Nat} {g : PyData → PyData} (h : Evl.Ev tl σ H (.ref a)) (hx : SqL K H a xs ∨ SqT K H a xs) (hd : DpAll K (W L H) xs ds) (hL : Hid L H) (hz : ds.length ≤ 50000)
    (h2 : ∀ d ∈ ds, ∃ d1 d2, d = .tuple [d1, d2]) (hw : ∀ x y, wipe (((wipe σ vs).set j1 (some x)).set j2 (some y)) vs = wipe σ vs)
    (he : ∀ L' (x y : V) d1 d2 H1, PyData.tuple [d1, d2] ∈ ds → Hid L' H1 → Ex H H1 → Dp K (W L' H1) x d1 → Dp K (W L' H1) y d2 → EvD K L' te (((wipe σ vs).set j1 (some x)).set j2 (some y)) H1 (g (.tuple [d1, d2]))) :
    EvG K L (tLc (iSeq K tl) (gTup K 2 (gCons (gName j1) (gCons (gName j2) gNil))) tYes te vs) σ H (ds.map g) := fun H0 e0 Q q => h H0 e0 _ fun H1 e1 => by
  have hlen := dpa_len hd
  have turn : ∀ (Dl : Addr) (i : Nat) (x : V) (H2 H3 : Hp), i < xs.length → Cmd K L H1 (fun i => (ds.take i).map g) Dl i H2 → YAt xs i H2 x H3 → gTup K 2 (gCons (gName j1) (gCons (gName j2) gNil)) x (wipe σ vs) H3 fun σ2 H2 => wipe σ2 vs = wipe σ vs ∧ tYes σ2 H2 fun b H3 =>
      if b = true then te σ2 H3 fun y H4 => ∃ acc, H4 Dl = some (.lst acc) ∧ acc.length < sizeLine ∧ Cmd K L H1 (fun i => (ds.take i).map g) Dl (i + 1) (upd H4 Dl (.lst (acc ++ [y]))) else Cmd K L H1 (fun i => (ds.take i).map g) Dl (i + 1) H3 := by
    intro Dl i x H2 H3 hi p yp
    obtain ⟨rfl, hu⟩ := yp
    obtain ⟨d, hd1, hd2⟩ := dpa_get hd hu
    obtain ⟨d1, d2, rfl⟩ := h2 d (List.mem_of_getElem? hd1)
    obtain ⟨p1, p2, p3⟩ := id p
    have hd3 := hd2.up (w_past (Evl.fresh_back (e0.trans e1) p1) ((e0.trans e1).trans p2))
    cases hd3 with
    | @tup T ys _ hT ha =>
      cases ha with
      | @cons u1 us1 _ _ r1 rr =>
        cases rr with
        | @cons u2 us2 _ _ r2 rr2 =>
          cases rr2
          refine ⟨T, [u1, u2], rfl, Evl.ex_t w_sub hT, rfl, u1, [u2], rfl, u2, [], rfl, rfl, hw u1 u2, ?_⟩
          refine yes_lc (A := fun H3 => te ((List.set (wipe σ vs) j1 (some u1)).set j2 (some u2)) H3 fun y H4 => ∃ acc, H4 Dl = some (.lst acc) ∧ acc.length < sizeLine ∧ Cmd K L H1 (fun i => (ds.take i).map g) Dl (i + 1) (upd H4 Dl (.lst (acc ++ [y])))) (B := fun H3 => Cmd K L H1 (fun i => (ds.take i).map g) Dl (i + 1) H3) ?_
          refine cmd_yes p (by simp; omega) (Ex.refl _) (he _ u1 u2 d1 d2 _ (List.mem_of_getElem? hd1) ?_ ((e0.trans e1).trans p2) r1 r2) ?_
          · intro b hb
            rcases List.mem_cons.mp hb with z | z
            · rw [z]
              exact p3.ne
            · exact hid_ex ((e0.trans e1).trans p2) hL b z
          · rw [List.take_add_one, hd1]
            simp
  have fin : ∀ Dl H2, Cmd K L H1 (fun i => (ds.take i).map g) Dl xs.length H2 → Q (.ref Dl) H2 := fun Dl H2 p => by
    obtain ⟨p1, p2, p3⟩ := p
    refine q Dl H2 (Evl.fresh_back e1 p1) (e1.trans p2) ?_
    have e : (ds.take xs.length).map g = ds.map g := by rw [hlen, List.take_length]
    rw [← e]
    exact p3
  have hL1 : Hid L H1 := hid_ex (e0.trans e1) hL
  refine ⟨a, rfl, ?_⟩
  rcases hx with x1 | x1
  · refine .inl ⟨⟨xs, Evl.ex_l (e0.trans e1) x1⟩, fun Dl hD => ?_⟩
    exact lc_it (walk_list (xs := xs)) (Cmd K L H1 (fun i => (ds.take i).map g) Dl) (cmd_0 hL1 hD rfl) (fun i H2 _ p => Evl.ex_l ((e0.trans e1).trans p.2.1) x1) (fun i x H2 H3 hi p y => turn Dl i x H2 H3 hi p y) (fun H2 p => fin Dl H2 p)
  · refine .inr ⟨⟨xs, Evl.ex_t (e0.trans e1) x1⟩, fun Dl hD => ?_⟩
    exact lc_it (walk_tup (xs := xs)) (Cmd K L H1 (fun i => (ds.take i).map g) Dl) (cmd_0 hL1 hD rfl) (fun i H2 _ p => Evl.ex_t ((e0.trans e1).trans p.2.1) x1) (fun i x H2 H3 hi p y => turn Dl i x H2 H3 hi p y) (fun H2 p => fin Dl H2 p)
/-- the items at the places that c names -/
def sel (c : Nat → Bool) (ds : List PyData) (n : Nat) : List PyData := (List.range n).flatMap fun i => if c i then (ds[i]?).toList else []
theorem sel_step {c : Nat → Bool} {n : Nat} : sel c ds (n + 1) = sel c ds n ++ (if c n then (ds[n]?).toList else []) := by
  unfold sel
  rw [List.range_succ, List.flatMap_append]
  simp
theorem sel_len {c : Nat → Bool} : ∀ n, (sel c ds n).length ≤ n
  | 0 => by simp [sel]
  | n + 1 => by
    have q := sel_len (c := c) n
    rw [sel_step, List.length_append]
    have z : (if c n = true then (ds[n]?).toList else []).length ≤ 1 := by
      split
      · cases ds[n]? <;> simp
      · simp
    omega
theorem sel_mem {c : Nat → Bool} {n : Nat} {d : PyData} (h : d ∈ sel c ds n) : d ∈ ds := by
  unfold sel at h
  obtain ⟨i, _, hi⟩ := List.mem_flatMap.mp h
  split at hi
  · exact List.mem_of_getElem? (by simpa using hi)
  · cases hi
/-- [x for i, x in enumerate(a list or a tuple of data) if c i] -/
theorem eg_enum {j1 j2 : Nat} {vs : List Nat} {c : Nat → Bool} (h : Evl.EvA ta σ H [.ref a]) (hx : SqL K H a xs ∨ SqT K H a xs) (hd : DpAll K (W L H) xs ds) (hL : Hid L H) (hz : ds.length ≤ 50000)
    (hw : ∀ x y, wipe (((wipe σ vs).set j1 (some x)).set j2 (some y)) vs = wipe σ vs)
    (ht : ∀ (x : V) (i : Nat) H1, i < ds.length → Ex H H1 → Evl.EvT tt (((wipe σ vs).set j1 (some (.int (i : Int)))).set j2 (some x)) H1 (c i)) (hn : ∀ x y, (((wipe σ vs).set j1 (some x)).set j2 (some y))[j2]? = some (some y)) :
    EvG K L (tLc (iEnumA K ta) (gTup K 2 (gCons (gName j1) (gCons (gName j2) gNil))) tt (tVar j2) vs) σ H (sel c ds ds.length) := fun H0 e0 Q q => h H0 e0 _ fun H1 e1 => by
  have hlen := dpa_len hd
  have turn : ∀ (Dl : Addr) (i : Nat) (x : V) (H2 H3 : Hp), i < xs.length → Cmd K L H1 (sel c ds) Dl i H2 → YPair (fun i => some (.int (i : Nat))) (fun i => xs[i]?) i H2 x H3 → gTup K 2 (gCons (gName j1) (gCons (gName j2) gNil)) x (wipe σ vs) H3 fun σ2 H2 => wipe σ2 vs = wipe σ vs ∧ tt σ2 H2 fun b H3 =>
      if b = true then (tVar j2) σ2 H3 fun y H4 => ∃ acc, H4 Dl = some (.lst acc) ∧ acc.length < sizeLine ∧ Cmd K L H1 (sel c ds) Dl (i + 1) (upd H4 Dl (.lst (acc ++ [y]))) else Cmd K L H1 (sel c ds) Dl (i + 1) H3 := by
    intro Dl i x H2 H3 hi p yp
    obtain ⟨T, u, w, rfl, hT, rfl, hu, hw'⟩ := yp
    have eu : u = .int (i : Int) := (Option.some.inj hu).symm
    subst eu
    have hw2 : xs[i]? = some w := hw'
    obtain ⟨d, hd1, hd2⟩ := dpa_get hd hw2
    obtain ⟨p1, p2, p3⟩ := id p
    refine ⟨T, [.int (i : Int), w], rfl, SqT.of upd_same, rfl, .int (i : Int), [w], rfl, w, [], rfl, rfl, hw _ w, ?_⟩
    have eN := ((e0.trans e1).trans p2).trans (Ex.new (o := .tup [.int (i : Int), w]) hT)
    refine ht w i _ (by omega) eN _ (Ex.refl _) _ fun H4 e4 => ?_
    have e24 : Ex H2 H4 := (Ex.new hT).trans e4
    by_cases hc : c i = true
    · rw [if_pos hc]
      refine cmd_yes (d := d) p (Nat.lt_of_le_of_lt (sel_len i) (by omega)) e24 (evd_var (hn _ w) (hd2.up (w_past (Evl.fresh_back (e0.trans e1) p1) (((e0.trans e1).trans p2).trans e24)))) ?_
      rw [sel_step, if_pos hc, hd1]
      rfl
    · rw [if_neg hc]
      refine cmd_no p e24 ?_
      rw [sel_step, if_neg hc, List.append_nil]
  have fin : ∀ Dl H2, Cmd K L H1 (sel c ds) Dl xs.length H2 → Q (.ref Dl) H2 := fun Dl H2 p => by
    obtain ⟨p1, p2, p3⟩ := p
    refine q Dl H2 (Evl.fresh_back e1 p1) (e1.trans p2) ?_
    rw [hlen] at p3
    exact p3
  have hL1 : Hid L H1 := hid_ex (e0.trans e1) hL
  refine ⟨a, xs, rfl, ?_⟩
  rcases hx with x1 | x1
  · refine .inl ⟨Evl.ex_l (e0.trans e1) x1, fun Dl hD => ?_⟩
    exact lc_it (walk_enum (xs := xs)) (Cmd K L H1 (sel c ds) Dl) (cmd_0 hL1 hD rfl) (fun i H2 _ p => Evl.ex_l ((e0.trans e1).trans p.2.1) x1) (fun i x H2 H3 hi p y => turn Dl i x H2 H3 hi p y) (fun H2 p => fin Dl H2 p)
  · refine .inr ⟨Evl.ex_t (e0.trans e1) x1, fun Dl hD => ?_⟩
    exact lc_it (walk_enumT (xs := xs)) (Cmd K L H1 (sel c ds) Dl) (cmd_0 hL1 hD rfl) (fun i H2 _ p => Evl.ex_t ((e0.trans e1).trans p.2.1) x1) (fun i x H2 H3 hi p y => turn Dl i x H2 H3 hi p y) (fun H2 p => fin Dl H2 p)
/-- tuple(a new list of data) -/
theorem evd_tupG (h : EvG K L te σ H ds) (hL : Hid L H) : EvD K L (tCB (fun xs H Q => ∃ p ys, xs = [.ref p] ∧ ((SqL K H p ys ∧ ∀ l, H l = none → Q (.ref l) (upd H l (.tup ys))) ∨ (SqT K H p ys ∧ Q (.ref p) H))) (tCons te tNil)) σ H (.tuple ds) := fun H1 e Q q =>
  h H1 e _ fun p H2 hp e2 g => by
    obtain ⟨n, ys, g1, g2⟩ := g
    refine ⟨p, ys, rfl, .inl ⟨SqL.of g1, fun r hr => ?_⟩⟩
    exact q (.ref r) _ (e2.trans (Ex.new hr)) (.tup (SqT.of (w_new (hid_ex (e.trans e2) hL) hr)) ((g2.up w_cons).up (w_ex (Ex.new hr))))
/-- tuple(x) of data that are a list or a tuple -/
theorem evd_tupD {x : V} (h : Evl.Ev te σ H x) (hd : Dp K (W L H) x (.list ds) ∨ Dp K (W L H) x (.tuple ds)) (hL : Hid L H) : EvD K L (tCB (fun xs H Q => ∃ p ys, xs = [.ref p] ∧ ((SqL K H p ys ∧ ∀ l, H l = none → Q (.ref l) (upd H l (.tup ys))) ∨ (SqT K H p ys ∧ Q (.ref p) H))) (tCons te tNil)) σ H (.tuple ds) := fun H1 e Q q =>
  h H1 e _ fun H2 e2 => by
    rcases hd with hd | hd
    · cases hd with
      | @lst p ys _ hs ha =>
        refine ⟨p, ys, rfl, .inl ⟨Evl.ex_l (w_sub.trans (e.trans e2)) hs, fun r hr => ?_⟩⟩
        exact q (.ref r) _ (e2.trans (Ex.new hr)) (.tup (SqT.of (w_new (hid_ex (e.trans e2) hL) hr)) (ha.up (w_ex ((e.trans e2).trans (Ex.new hr)))))
    · have hd' := hd
      cases hd with
      | @tup p ys _ hs ha =>
        exact ⟨p, ys, rfl, .inr ⟨Evl.ex_t (w_sub.trans (e.trans e2)) hs, q (.ref p) H2 e2 (hd'.up (w_ex (e.trans e2)))⟩⟩
/-- list(x) of data that are a list or a tuple -/
theorem eg_list {x : V} (h : Evl.Ev te σ H x) (hd : Dp K (W L H) x (.list ds) ∨ Dp K (W L H) x (.tuple ds)) (hL : Hid L H) : EvG K L (tCB (fun xs H Q => ∃ p ys, xs = [.ref p] ∧ (SqL K H p ys ∨ SqT K H p ys) ∧ ∀ l, H l = none → Q (.ref l) (upd H l (.lst ys))) (tCons te tNil)) σ H ds := fun H1 e Q q =>
  h H1 e _ fun H2 e2 => by
    rcases hd with hd | hd
    · cases hd with
      | @lst p ys _ hs ha =>
        refine ⟨p, ys, rfl, .inl (Evl.ex_l (w_sub.trans (e.trans e2)) hs), fun r hr => ?_⟩
        exact q r _ (Evl.fresh_back e2 hr) (e2.trans (Ex.new hr)) (gr_new (hid_ex (e.trans e2) hL) hr (ha.up (w_ex (e.trans e2))))
    · cases hd with
      | @tup p ys _ hs ha =>
        refine ⟨p, ys, rfl, .inr (Evl.ex_t (w_sub.trans (e.trans e2)) hs), fun r hr => ?_⟩
        exact q r _ (Evl.fresh_back e2 hr) (e2.trans (Ex.new hr)) (gr_new (hid_ex (e.trans e2) hL) hr (ha.up (w_ex (e.trans e2))))
end
end U

set_option Elab.async false
set_option linter.all false
set_option maxRecDepth 100000
set_option maxHeartbeats 2000000
/-! data with empty dicts among them -/
namespace U
open PySem L2
open Evl (Ex)
section
variable {K : PySem.W.Frag} {H H' : Hp}
mutual
inductive Dq (K : PySem.W.Frag) (H : Hp) : V → PyData → Prop
  | non : Dq K H .non .none
  | bl (b : Bool) : Dq K H (.bl b) (.bool b)
  | int (i : Int) : Dq K H (.int i) (.int i)
  | str (x : Str) : Dq K H (.str x) (.str x)
  | lst {a : Addr} {xs : List V} {ds : List PyData} : SqL K H a xs → DqAll K H xs ds → Dq K H (.ref a) (.list ds)
  | tup {a : Addr} {xs : List V} {ds : List PyData} : SqT K H a xs → DqAll K H xs ds → Dq K H (.ref a) (.tuple ds)
  | dct {a : Addr} : H a = some (.dK []) → Dq K H (.ref a) (.dict [])
inductive DqAll (K : PySem.W.Frag) (H : Hp) : List V → List PyData → Prop
  | nil : DqAll K H [] []
  | cons {v : V} {vs : List V} {d : PyData} {ds : List PyData} : Dq K H v d → DqAll K H vs ds → DqAll K H (v :: vs) (d :: ds)
end
mutual
theorem dq_of : ∀ (d : PyData) (v : V), Dp K H v d → Dq K H v d
  | .none, _, h => by cases h; exact .non
  | .bool _, _, h => by cases h; exact .bl _
  | .int _, _, h => by cases h; exact .int _
  | .str _, _, h => by cases h; exact .str _
  | .list ds, _, h => by
    cases h with
    | lst hs ha => exact .lst hs (dqa_of ds _ ha)
  | .tuple ds, _, h => by
    cases h with
    | tup hs ha => exact .tup hs (dqa_of ds _ ha)
  | .dict _, _, h => by cases h
theorem dqa_of : ∀ (ds : List PyData) (vs : List V), DpAll K H vs ds → DqAll K H vs ds
  | [], _, h => by cases h; exact .nil
  | d :: ds, _, h => by
    cases h with
    | cons h1 h2 => exact .cons (dq_of d _ h1) (dqa_of ds _ h2)
end
theorem _root_.L2.Dp.q {v : V} {d : PyData} (h : Dp K H v d) : Dq K H v d := dq_of d v h
mutual
theorem dq_mono (e : Ex H H') : ∀ (d : PyData) (v : V), Dq K H v d → Dq K H' v d
  | .none, _, h => by cases h; exact .non
  | .bool _, _, h => by cases h; exact .bl _
  | .int _, _, h => by cases h; exact .int _
  | .str _, _, h => by cases h; exact .str _
  | .list ds, _, h => by
    cases h with
    | lst hs ha => exact .lst (Evl.ex_l e hs) (dqa_mono e ds _ ha)
  | .tuple ds, _, h => by
    cases h with
    | tup hs ha => exact .tup (Evl.ex_t e hs) (dqa_mono e ds _ ha)
  | .dict _, _, h => by
    cases h with
    | dct h => exact .dct (e _ _ h)
theorem dqa_mono (e : Ex H H') : ∀ (ds : List PyData) (vs : List V), DqAll K H vs ds → DqAll K H' vs ds
  | [], _, h => by cases h; exact .nil
  | d :: ds, _, h => by
    cases h with
    | cons h1 h2 => exact .cons (dq_mono e d _ h1) (dqa_mono e ds _ h2)
end
theorem Dq.up {v : V} {d : PyData} (h : Dq K H v d) (e : Ex H H') : Dq K H' v d := dq_mono e d v h
theorem DqAll.up {vs : List V} {ds : List PyData} (h : DqAll K H vs ds) (e : Ex H H') : DqAll K H' vs ds := dqa_mono e ds vs h
theorem dqa_len : ∀ {vs : List V} {ds : List PyData}, DqAll K H vs ds → vs.length = ds.length
  | _, _, .nil => rfl
  | _, _, .cons _ t => congrArg Nat.succ (dqa_len t)
theorem dqa_get : ∀ {vs : List V} {ds : List PyData} {i : Nat} {v : V}, DqAll K H vs ds → vs[i]? = some v → ∃ d, ds[i]? = some d ∧ Dq K H v d
  | _, _, _, _, .nil, e => by simp at e
  | _, _, 0, _, .cons r _, e => by simp at e; subst e; exact ⟨_, rfl, r⟩
  | _, _, i + 1, x, .cons _ t, e => by
    obtain ⟨d, h1, h2⟩ := dqa_get (i := i) (v := x) t (by simpa using e)
    exact ⟨d, by simpa using h1, h2⟩
theorem dqa_app : ∀ {vs ws : List V} {ds es : List PyData}, DqAll K H vs ds → DqAll K H ws es → DqAll K H (vs ++ ws) (ds ++ es)
  | _, _, _, _, .nil, h => h
  | _, _, _, _, .cons r t, h => .cons r (dqa_app t h)
theorem dq_ty {v : V} {d : PyData} (h : Dq K H v d) : TyX K H v (.type (tyOf d)) := by
  cases h with
  | non => exact .base .non
  | bl b => exact .base (.bl b)
  | int i => exact .base (.int i)
  | str x => exact .base (.str x)
  | lst hs ha =>
    rcases hs with (h | ⟨o, h⟩) | ⟨o, its, n, h, c, _⟩
    · exact .base (.lst h)
    · exact .base (.frz h)
    · exact .kList h c
  | tup hs ha =>
    rcases hs with (h | ⟨o, h⟩) | ⟨o, its, n, h, c, _⟩
    · exact .base (.tup h)
    · exact .fTuple h
    · exact .kTuple h c
  | dct h => exact .base (.dK h)
end
section
variable {K : PySem.W.Frag} {σ : L2.St} {H : Hp} {te tb : TE} {v w : V} {d e : PyData} {b : Bool}
theorem evq_isi {n : String} (h : Evl.Ev te σ H v) (hd : Dq K H v d) (hb : kitB (tyOf d) n = some b) : Evl.Ev (tCB (rIsi K) (tCons te (tCons (tC (.ty n)) tNil))) σ H (.bl b) := fun H1 e1 Q q =>
  h H1 e1 _ fun H2 e2 => ⟨v, .ty n, _, _, b, rfl, .ty n, dq_ty (hd.up (e1.trans e2)), kit_ty hb, q H2 e2⟩
theorem evq_isi2 {m n : String} (h : Evl.Ev te σ H v) (hd : Dq K H v d) (hb : kitsB (tyOf d) [m, n] = some b) : Evl.Ev (tCB (rIsiT K) (tCons te (tCons (tTup (tCons (tC (.ty m)) (tCons (tC (.ty n)) tNil))) tNil))) σ H (.bl b) := fun H1 e1 Q q =>
  h H1 e1 _ fun H2 e2 => ⟨by show 2 ≤ sizeLine; decide, fun p hp => ⟨v, p, _, _, _, b, rfl, upd_same, tys_cls (ns := [m, n]), dq_ty (hd.up ((e1.trans e2).trans (Ex.new hp))), kitsB_ok hb, q _ (e2.trans (Ex.new hp))⟩⟩
end
end U

set_option Elab.async false
set_option linter.all false
set_option maxRecDepth 100000
set_option maxHeartbeats 4000000
namespace U
open PySem PySem.Spec PyProof.Rows L2
open Evl (Ex)
/-! ### own +, raise X(), a class of two at once -/
/-- one + other of two instances of the class at C, by what its own method promises: a reference -/
def tOwn (C : Addr) (sp : Sp) (E : L2.St → XK) (ta tb : TE) : TE := fun σ H Q => ta σ H fun x H1 => tb σ H1 fun y H2 => ∃ a b dx dy fs gs, x = .ref a ∧ y = .ref b ∧ H2 a = some (.ins C dx fs) ∧ H2 b = some (.ins C dy gs) ∧
  sp [.ref a, .ref b] H2 (fun v H' => ∃ r, v = .ref r ∧ Q (.ref r) H') (E σ)
section
variable {X : Cx} {CX : CXT} {n : Nat} {f C : Addr} {fd : FuncData} {ps : List Str} {sp : Sp} {E : L2.St → XK} {a b : Expr} {ta tb : TE} {pos : Pos} {op : Operator}
theorem pe_own (F : FnOk X.prog X.w X.K X.mg X.base CX n f fd ps sp) (hr : Room n X.A) (hs : PySem.W.findIn X.K (.ref C) (PySem.dunder op.info.2) = some (some (.ref f))) (hf : PySem.W.isFn X.K (.ref f) = true) (hc : PySem.W.selfFirst X.K C = true)
    (hb : Binds X.K fd ps []) (hx : ∀ σ, PassesAt CX X σ (E σ)) (ha : PE X a ta) (hb2 : PE X b tb) : PE X (.BinOp a op b pos) (tOwn C sp E ta tb) := by
  refine ⟨fun pins s σ H Q I h => wpAny_BinOp (binT (R := fun x y H2 => ∃ a b dx dy fs gs, x = .ref a ∧ y = .ref b ∧ H2 a = some (.ins C dx fs) ∧ H2 b = some (.ins C dy gs) ∧ sp [.ref a, .ref b] H2 (fun v H' => ∃ r, v = .ref r ∧ Q (.ref r) H') (E σ)) ha hb2 I h fun v u s2 x y H2 I2 rx ry q => ?_)⟩
  obtain ⟨p, r, dx, dy, fs, gs, rfl, rfl, hp, hr2, hsp⟩ := q
  cases rx
  cases ry
  obtain ⟨mA, J, _⟩ := ins_get I2.hok hp
  obtain ⟨mB, J', _⟩ := ins_get I2.hok hr2
  obtain ⟨od, J, _⟩ := J.look
  obtain ⟨od', J', _⟩ := J'.look
  obtain ⟨m, hF⟩ := I2.fr
  refine PySem.W.binop_K (C := C) hF I2.ok.mod.kin J J'.type hc hs hf ?_
  have r2 : Vals [V.ref p, V.ref r] [Value.ref p, Value.ref r] := .cons rfl (.cons rfl .nil)
  refine wpAny_mono (run_fnS F hr hb (hx σ) I2 r2 hsp) (fun r s' z => ?_) fun _ _ x => x
  obtain ⟨v, H', I', rv, t, rfl, q⟩ := z
  cases rv
  exact ⟨V.ref t, H', I', rfl, q⟩
/-- X() of an own class of errors without __init__ -/
theorem pmk_own0 {bmB : List Value} {B newId initId : String} {x : Str} {p : Pos} (F : ExcBaseFacts B newId initId bmB) (q : PySem.W.excIn X.K C bmB newId = true) (gC : X.mg x = some (.ref C)) (kC : PySem.W.keepIn X.K (.ref C) = true) (r : Raises X (.ref C)) (hg : Gl X x)
    (hdb : (x == ("__debug__" : Str)) = false := by decide) : PMk X (.Call (.Name x p) [] [] pos) (fun _ H Q => Q (.ref C) none H) := by
  intro pins s σ H Q I h
  refine wpAny_Call_Name_kw (ld_glob I hg gC ?_ hdb)
  refine PySem.W.callWith_K0 I.kIn kC ?_
  show wpAny _ _ (call (.ref C) []) _ _ _
  obtain ⟨bm, N, nm, qn, bs, hdct, sn, sub, ab, col, dd, k0, k1, k2, k3, k5, mN, hC, hN, hni, T⟩ := exc_obj I.kIn q
  refine wpAny_call_exc_subT F T hC hN hni (fun h' e hm => ?_) (by show 0 ≤ sizeLine; exact Nat.zero_le _)
  exact mk_of I hm r h (I.hok.gone hm.new)
/-- x[i] of a list or a tuple -/
def rIxA (K : PySem.W.Frag) : R2 := fun x y H Q => rIxL K x y H Q ∨ rIxT K x y H Q
theorem ix_seq : IxR X (rIxA X.K) := IxR.or ix_list ix_tup
end
section
variable {K : PySem.W.Frag} {σ : L2.St} {H : Hp} {te ta tb tc : TE} {x y z : V} {r r' : R2} {a : Addr} {xs : List V} {v : V} {i : Int}
theorem ev_ixA (h : Evl.Ev te σ H (.ref a)) (hx : SqL K H a xs ∨ SqT K H a xs) (hv : atI xs i = some v) : Evl.Ev (tOp (rIxA K) te (tC (.int i))) σ H v := fun H1 e Q q =>
  h H1 e _ fun H2 e2 => by
    show rIxA K (.ref a) (.int i) H2 Q
    rcases hx with hx | hx
    · exact .inl ⟨a, xs, i, v, rfl, rfl, Evl.ex_l (e.trans e2) hx, hv, q H2 e2⟩
    · exact .inr ⟨a, xs, i, v, rfl, rfl, Evl.ex_t (e.trans e2) hx, hv, q H2 e2⟩
/-- a op b op c -/
theorem ev_chain {k l : Bool} (ha : Evl.Ev ta σ H x) (hb : Evl.Ev tb σ H y) (hr : Evl.RV r x y H (.bl k)) (hc : k = true → Evl.Ev tc σ H z) (hr2 : k = true → Evl.RV r' y z H (.bl l)) (hl : k = false → l = false) : Evl.Ev (tChain r r' ta tb tc) σ H (.bl l) := fun H1 e1 Q q =>
  ha H1 e1 _ fun H2 e2 => hb H2 (e1.trans e2) _ fun H3 e3 => hr H3 ((e1.trans e2).trans e3) _ fun H4 e4 => ⟨k, rfl, by
    cases k with
    | true =>
      rw [if_pos rfl]
      exact hc rfl H4 (((e1.trans e2).trans e3).trans e4) _ fun H5 e5 => hr2 rfl H5 ((((e1.trans e2).trans e3).trans e4).trans e5) Q fun H6 e6 => q H6 (((e2.trans e3).trans e4).trans (e5.trans e6))
    | false =>
      rw [if_neg (by simp)]
      rw [hl rfl] at q
      exact q H4 ((e2.trans e3).trans e4)⟩
/-- [True or False for x in a list or a tuple of data] -/
theorem el_seqB {tl : TE} {ds : List PyData} {f : PyData → Bool} {j : Nat} {vs : List Nat} (h : Evl.Ev tl σ H (.ref a)) (hx : SqL K H a xs ∨ SqT K H a xs) (hd : DpAll K H xs ds) (hz : ds.length ≤ 40000) (hw : ∀ x, wipe ((wipe σ vs).set j (some x)) vs = wipe σ vs)
    (he : ∀ (x : V) d H1, d ∈ ds → Ex H H1 → Dp K H1 x d → Evl.Ev te ((wipe σ vs).set j (some x)) H1 (.bl (f d))) : Evl.EvL (tLc (iSeq K tl) (gName j) tYes te vs) σ H ((ds.map f).map V.bl) := fun H0 e0 Q q => h H0 e0 _ fun H1 e1 => by
  have hlen := dpa_len hd
  let w : Nat → V := fun i => .bl (f (ds.getD i .none))
  have turn : ∀ (Dl : Addr) (i : Nat) (x : V) (H2 H3 : Hp), i < xs.length → Cm H1 w Dl i H2 → YAt xs i H2 x H3 → gName j x (wipe σ vs) H3 fun σ2 H2 => wipe σ2 vs = wipe σ vs ∧ tYes σ2 H2 fun b H3 =>
      if b = true then te σ2 H3 fun y H4 => ∃ acc, H4 Dl = some (.lst acc) ∧ acc.length < sizeLine ∧ Cm H1 w Dl (i + 1) (upd H4 Dl (.lst (acc ++ [y]))) else Cm H1 w Dl (i + 1) H3 := by
    intro Dl i x H2 H3 hi p yp
    obtain ⟨rfl, hu⟩ := yp
    obtain ⟨d, hd1, hd2⟩ := dpa_get hd hu
    refine ⟨hw x, ?_⟩
    refine yes_lc (A := fun H3 => te ((wipe σ vs).set j (some x)) H3 fun y H4 => ∃ acc, H4 Dl = some (.lst acc) ∧ acc.length < sizeLine ∧ Cm H1 w Dl (i + 1) (upd H4 Dl (.lst (acc ++ [y])))) (B := fun H3 => Cm H1 w Dl (i + 1) H3) ?_
    have ew : w i = .bl (f d) := by
      show V.bl (f (ds.getD i .none)) = _
      rw [List.getD_eq_getElem?_getD, hd1]
      rfl
    refine cm_turn p (by omega) _ (Ex.refl _) ?_
    rw [ew]
    exact he x d _ (List.mem_of_getElem? hd1) (e0.trans e1) (hd2.up (e0.trans e1))
  have fin : ∀ Dl H2, Cm H1 w Dl xs.length H2 → Q (.ref Dl) H2 := fun Dl H2 p => by
    refine q Dl H2 (Evl.fresh_back e1 p.1) (e1.trans p.2.1) ?_
    rw [p.2.2, hlen]
    congr 2
    apply List.ext_getElem
    · simp
    · intro i h1 h2
      have h3 : i < ds.length := by simpa using h1
      simp [w, h3]
  refine ⟨a, rfl, ?_⟩
  rcases hx with x1 | x1
  · refine .inl ⟨⟨xs, Evl.ex_l (e0.trans e1) x1⟩, fun Dl hD => ?_⟩
    exact lc_it (walk_list (xs := xs)) (Cm H1 w Dl) (cm_0 hD) (fun i H2 _ p => Evl.ex_l ((e0.trans e1).trans p.2.1) x1) (fun i x H2 H3 hi p y => turn Dl i x H2 H3 hi p y) (fun H2 p => fin Dl H2 p)
  · refine .inr ⟨⟨xs, Evl.ex_t (e0.trans e1) x1⟩, fun Dl hD => ?_⟩
    exact lc_it (walk_tup (xs := xs)) (Cm H1 w Dl) (cm_0 hD) (fun i H2 _ p => Evl.ex_t ((e0.trans e1).trans p.2.1) x1) (fun i x H2 H3 hi p y => turn Dl i x H2 H3 hi p y) (fun H2 p => fin Dl H2 p)
theorem el_seqBq {tl : TE} {ds : List PyData} {f : PyData → Bool} {j : Nat} {vs : List Nat} (h : Evl.Ev tl σ H (.ref a)) (hx : SqL K H a xs ∨ SqT K H a xs) (hd : DqAll K H xs ds) (hz : ds.length ≤ 40000) (hw : ∀ x, wipe ((wipe σ vs).set j (some x)) vs = wipe σ vs)
    (he : ∀ (x : V) d H1, d ∈ ds → Ex H H1 → Dq K H1 x d → Evl.Ev te ((wipe σ vs).set j (some x)) H1 (.bl (f d))) : Evl.EvL (tLc (iSeq K tl) (gName j) tYes te vs) σ H ((ds.map f).map V.bl) := fun H0 e0 Q q => h H0 e0 _ fun H1 e1 => by
  have hlen := dqa_len hd
  let w : Nat → V := fun i => .bl (f (ds.getD i .none))
  have turn : ∀ (Dl : Addr) (i : Nat) (x : V) (H2 H3 : Hp), i < xs.length → Cm H1 w Dl i H2 → YAt xs i H2 x H3 → gName j x (wipe σ vs) H3 fun σ2 H2 => wipe σ2 vs = wipe σ vs ∧ tYes σ2 H2 fun b H3 =>
      if b = true then te σ2 H3 fun y H4 => ∃ acc, H4 Dl = some (.lst acc) ∧ acc.length < sizeLine ∧ Cm H1 w Dl (i + 1) (upd H4 Dl (.lst (acc ++ [y]))) else Cm H1 w Dl (i + 1) H3 := by
    intro Dl i x H2 H3 hi p yp
    obtain ⟨rfl, hu⟩ := yp
    obtain ⟨d, hd1, hd2⟩ := dqa_get hd hu
    refine ⟨hw x, ?_⟩
    refine yes_lc (A := fun H3 => te ((wipe σ vs).set j (some x)) H3 fun y H4 => ∃ acc, H4 Dl = some (.lst acc) ∧ acc.length < sizeLine ∧ Cm H1 w Dl (i + 1) (upd H4 Dl (.lst (acc ++ [y])))) (B := fun H3 => Cm H1 w Dl (i + 1) H3) ?_
    have ew : w i = .bl (f d) := by
      show V.bl (f (ds.getD i .none)) = _
      rw [List.getD_eq_getElem?_getD, hd1]
      rfl
    refine cm_turn p (by omega) _ (Ex.refl _) ?_
    rw [ew]
    exact he x d _ (List.mem_of_getElem? hd1) (e0.trans e1) (hd2.up (e0.trans e1))
  have fin : ∀ Dl H2, Cm H1 w Dl xs.length H2 → Q (.ref Dl) H2 := fun Dl H2 p => by
    refine q Dl H2 (Evl.fresh_back e1 p.1) (e1.trans p.2.1) ?_
    rw [p.2.2, hlen]
    congr 2
    apply List.ext_getElem
    · simp
    · intro i h1 h2
      have h3 : i < ds.length := by simpa using h1
      simp [w, h3]
  refine ⟨a, rfl, ?_⟩
  rcases hx with x1 | x1
  · refine .inl ⟨⟨xs, Evl.ex_l (e0.trans e1) x1⟩, fun Dl hD => ?_⟩
    exact lc_it (walk_list (xs := xs)) (Cm H1 w Dl) (cm_0 hD) (fun i H2 _ p => Evl.ex_l ((e0.trans e1).trans p.2.1) x1) (fun i x H2 H3 hi p y => turn Dl i x H2 H3 hi p y) (fun H2 p => fin Dl H2 p)
  · refine .inr ⟨⟨xs, Evl.ex_t (e0.trans e1) x1⟩, fun Dl hD => ?_⟩
    exact lc_it (walk_tup (xs := xs)) (Cm H1 w Dl) (cm_0 hD) (fun i H2 _ p => Evl.ex_t ((e0.trans e1).trans p.2.1) x1) (fun i x H2 H3 hi p y => turn Dl i x H2 H3 hi p y) (fun H2 p => fin Dl H2 p)
theorem fits_len {ds : List PyData} (h : (∃ n, fits n (.list ds)) ∨ ∃ n, fits n (.tuple ds)) : ds.length ≤ 40000 := by
  rcases h with ⟨n, h⟩ | ⟨n, h⟩ <;>
  · cases n with
    | zero => exact h.elim
    | succ n => exact h.1
theorem fits_in {ds : List PyData} {d : PyData} (h : (∃ n, fits n (.list ds)) ∨ ∃ n, fits n (.tuple ds)) (hd : d ∈ ds) : ∃ n, fits n d := by
  rcases h with ⟨n, h⟩ | ⟨n, h⟩ <;>
  · cases n with
    | zero => exact h.elim
    | succ n => exact ⟨n, h.2 d hd⟩
/-- a field of an instance -/
theorem ev_fld {C dx : Addr} {fs : List (Str × V)} {f : Str} (h : Evl.Ev te σ H (.ref a)) (ha : H a = some (.ins C dx fs)) (c : Cls K C) (n : NoAttr K C f) (hv : fs.lookup f = some v) : Evl.Ev (tFld K te f) σ H v := fun H1 e Q q =>
  h H1 e _ fun H2 e2 => ⟨a, C, dx, fs, v, rfl, (e.trans e2) a _ ha, c, n, hv, q H2 e2⟩
end
end U

set_option Elab.async false
set_option linter.all false
set_option maxRecDepth 100000
set_option maxHeartbeats 4000000
/-! operators of two own classes, ~ of an own one, one rule of several -/
namespace UO
open PySem PySem.W PySem.Calls PyProof.Rows
section
variable {prog : Program} {w : World} {A : Around} {E : Value → Shared → Prop} {s : Shared} {K : Frag} {x C1 C2 L f g : Addr} {h₀ : Heap} {m : Str → Option Value} {ox : Obj} {od : Option Obj} {op : Operator} {b : Value} {Q : Value → Shared → Prop}
theorem binop2 (F : Fr h₀ L s.heap m) (X₀ : K.In h₀) (I : InstAt s.heap x ox C1 od) (hb : Looks (model prog w) s.heap (typeOf b) (.ref C2)) (ne : C1 ≠ C2) (c1 : selfFirst K C1 = true) (c2 : selfFirst K C2 = true)
    (s1 : findIn K (.ref C1) (PySem.dunder op.info.2) = some (some (.ref f))) (f1 : isFn K (.ref f) = true) (s2 : findIn K (.ref C2) (PySem.dunder op.info.2) = some (some (.ref g))) (r1 : findIn K (.ref C1) (dunderR op.info.2) = some none) (r2 : findIn K (.ref C2) (dunderR op.info.2) = some none)
    (hsub : subIn K (.ref C2) (.ref C1) = some false) (h : wpAny (model prog w) A (call (.ref f) [.ref x, b]) (PySem.W.CmpBack Q) E s) : wpAny (model prog w) A (binaryOp op (.ref x) b) Q E s := by
  have X := X₀.keeps F.keep
  obtain ⟨d1, t1, e1, m1⟩ := ksp_first c1
  obtain ⟨d2, t2, e2, m2⟩ := ksp_first c2
  rcases hi : op.info with ⟨sym, nm⟩
  rw [hi] at s1 s2 r1 r2
  dsimp only at s1 s2 r1 r2
  have one := ksp_try X I s1 f1 h
  obtain ⟨hh, g1, d, tt, os⟩ := s
  have T1 : Looks (model prog w) hh (typeOf (.ref x)) (.ref C1) := I.type
  have T2 : Looks (model prog w) hh (typeOf b) (.ref C2) := hb
  have N1 : Looks (model prog w) hh (fillsNumberSlot (.ref C1) nm) true := fills_K X e1 m1 s1
  have N2 : Looks (model prog w) hh (fillsNumberSlot (.ref C2) nm) true := fills_K X e2 m2 s2
  have S1 : Looks (model prog w) hh (isSubtype (.ref C2) (.ref C1)) false := looks_subIn X hsub
  have P1 : Looks (model prog w) hh (numberSlotInPython (.ref C1) nm) true := ksp_inPy X s1 r1 (.inl rfl)
  have P2 : Looks (model prog w) hh (numberSlotInPython (.ref C2) nm) true := ksp_inPy X s2 r2 (.inl rfl)
  have hne : (Value.ref C1 == Value.ref C2) = false := Bool.eq_false_iff.mpr fun q => ne (by cases beq_iff_eq.mp q; rfl)
  simp only [binaryOp, hi]
  refine wpAny_holding (wpAny_bind ?_)
  unfold binaryOp1
  refine wpAny_bind (T1.at (wpAny_bind (T2.at (wpAny_bind (N1.at ?_)))))
  simp only [hne, Bool.false_eq_true, if_false]
  ksp_lk
  refine wpAny_mono one (fun r s' hr' => ?_) fun _ _ e => e
  obtain ⟨v, rfl, hq⟩ := hr'
  ksp_lk
  exact hq
end
end UO
namespace U
open PySem PySem.Spec PyProof.Rows L2
open Evl (Ex)
section
variable {X : Cx} {e a b : Expr} {ta tb : TE} {n : Nat} {pos : Pos} {op : Operator} {sp : Sp} {C C1 C2 f g : Addr} {fd : FuncData} {ps : List Str}
/-- one of several readings -/
def tAny {ι : Type} (P : ι → Prop) (t : ι → TE) : TE := fun σ H Q => ∃ i, P i ∧ t i σ H Q
theorem pe_any {ι : Type} {P : ι → Prop} {t : ι → TE} (h : ∀ i, P i → PE X e (t i)) : PE X e (tAny P t) := ⟨fun pins s σ H Q I ⟨i, hi, q⟩ => (h i hi).run pins s σ H Q I q⟩
/-- one op other of instances of two classes -/
def tOwn2 (C1 C2 : Addr) (sp : Sp) (ta tb : TE) : TE := fun σ H Q => ta σ H fun x H1 => tb σ H1 fun y H2 => ∃ a b dx dy fs gs, x = .ref a ∧ y = .ref b ∧ H2 a = some (.ins C1 dx fs) ∧ H2 b = some (.ins C2 dy gs) ∧
  sp [.ref a, .ref b] H2 (fun v H' => ∃ r, v = .ref r ∧ Q (.ref r) H') E0
structure OpC (K : PySem.W.Frag) (C : Addr) (nm : Str) (nr : Str) (f : Addr) : Prop where
  sf : PySem.W.selfFirst K C = true
  hs : PySem.W.findIn K (.ref C) nm = some (some (.ref f))
  hf : PySem.W.isFn K (.ref f) = true
  hr : PySem.W.findIn K (.ref C) nr = some none
theorem pe_own2 (F : FnOk X.prog X.w X.K X.mg X.base CX0 n f fd ps sp) (hr : Room n X.A) (o1 : OpC X.K C1 (PySem.dunder op.info.2) (dunderR op.info.2) f) (o2 : OpC X.K C2 (PySem.dunder op.info.2) (dunderR op.info.2) g) (hsub : C1 = C2 ∨ PySem.W.subIn X.K (.ref C2) (.ref C1) = some false)
    (hb : Binds X.K fd ps []) (ha : PE X a ta) (hb2 : PE X b tb) : PE X (.BinOp a op b pos) (tOwn2 C1 C2 sp ta tb) := by
  refine ⟨fun pins s σ H Q I h => wpAny_BinOp (binT (R := fun x y H2 => ∃ a b dx dy fs gs, x = .ref a ∧ y = .ref b ∧ H2 a = some (.ins C1 dx fs) ∧ H2 b = some (.ins C2 dy gs) ∧ sp [.ref a, .ref b] H2 (fun v H' => ∃ r, v = .ref r ∧ Q (.ref r) H') E0) ha hb2 I h fun v u s2 x y H2 I2 rx ry q => ?_)⟩
  obtain ⟨p, r, dx, dy, fs, gs, rfl, rfl, hp, hr2, hsp⟩ := q
  cases rx
  cases ry
  obtain ⟨mA, J, _⟩ := ins_get I2.hok hp
  obtain ⟨mB, J', _⟩ := ins_get I2.hok hr2
  obtain ⟨od, J, _⟩ := J.look
  obtain ⟨od', J', _⟩ := J'.look
  obtain ⟨m, hF⟩ := I2.fr
  have r2 : Vals [V.ref p, V.ref r] [Value.ref p, Value.ref r] := .cons rfl (.cons rfl .nil)
  have run : wpAny (model X.prog X.w) X.A (call (.ref f) [Value.ref p, .ref r]) (PySem.W.CmpBack (EP X pins σ Q)) X.xe s2 := by
    refine wpAny_mono (run_fn F hr hb .nil pass0 I2 r2 hsp) (fun r s' z => ?_) fun _ _ x => x
    obtain ⟨v, H', I', rv, t, rfl, q⟩ := z
    cases rv
    exact ⟨V.ref t, H', I', rfl, q⟩
  by_cases e : C1 = C2
  · subst e
    exact PySem.W.binop_K (C := C1) hF I2.ok.mod.kin J J'.type o1.sf o1.hs o1.hf run
  · exact UO.binop2 hF I2.ok.mod.kin J J'.type e o1.sf o2.sf o1.hs o1.hf o2.hs o1.hr o2.hr (hsub.resolve_left e) run
/-- ~x of an instance -/
def tInv (C : Addr) (sp : Sp) (ta : TE) : TE := fun σ H Q => ta σ H fun x H1 => ∃ a dx fs, x = .ref a ∧ H1 a = some (.ins C dx fs) ∧ sp [.ref a] H1 Q E0
theorem pe_inv (F : FnOk X.prog X.w X.K X.mg X.base CX0 n f fd ps sp) (hr : Room n X.A) (hs : PySem.W.findIn X.K (.ref C) "__invert__" = some (some (.ref f))) (hf : PySem.W.isFn X.K (.ref f) = true) (hb : Binds X.K fd ps []) (ha : PE X a ta) : PE X (.UnaryOp .Invert a pos) (tInv C sp ta) := by
  refine ⟨fun pins s σ H Q I h => ?_⟩
  refine wpAny_UnaryOp (thn (ha.run pins s σ H _ I h) fun v s1 ⟨x, H1, I1, r1, q1⟩ => ?_)
  obtain ⟨p, dx, fs, rfl, hp, hsp⟩ := q1
  cases r1
  obtain ⟨mA, J, _⟩ := ins_get I1.hok hp
  obtain ⟨od, J, _⟩ := J.look
  obtain ⟨m, hF⟩ := I1.fr
  refine PySem.W.ksp_inv hF I1.ok.mod.kin J hs hf ?_
  exact run_fn F hr hb .nil pass0 I1 (show Vals [V.ref p] [Value.ref p] from .cons rfl .nil) hsp
end
end U

set_option Elab.async false
set_option linter.all false
set_option maxRecDepth 100000
set_option maxHeartbeats 4000000
namespace U
open PySem L2
open Evl (Ex)
def top (i : Nat) : Stmt := PySem.Challenge.pw_toldenough_k43_texts_of_kinds_refused.main.body.getD i (.Pass ⟨0, 0, 0, 0⟩)
abbrev s_source : Stmt := top 30
abbrev sc_source_N : List Str := ["_law_script", "_law_at", "_law_raw"]
theorem sc_source : FnScope sc_source_N ["_law_script", "_law_at"] (defScope s_source) := ⟨rfl, rfl, rfl, by decide +kernel, rfl, by decide +kernel, by decide +kernel⟩
abbrev s_draw : Stmt := top 31
abbrev sc_draw_N : List Str := ["_law_draws", "_law_many", "_law_digit", "_law_seed"]
theorem sc_draw : FnScope sc_draw_N ["_law_draws", "_law_many"] (defScope s_draw) := ⟨rfl, rfl, rfl, by decide +kernel, rfl, by decide +kernel, by decide +kernel⟩
abbrev s_pick : Stmt := top 32
abbrev sc_pick_N : List Str := ["_law_draws", "_law_things"]
theorem sc_pick : FnScope sc_pick_N ["_law_draws", "_law_things"] (defScope s_pick) := ⟨rfl, rfl, rfl, by decide +kernel, rfl, by decide +kernel, by decide +kernel⟩
abbrev s_same : Stmt := top 33
abbrev sc_same_N : List Str := ["_law_found", "_law_due_here", "_law_left", "_law_right"]
theorem sc_same : FnScope sc_same_N ["_law_found", "_law_due_here"] (defScope s_same) := ⟨rfl, rfl, rfl, by decide +kernel, rfl, by decide +kernel, by decide +kernel⟩
structure TxB (mg : Str → Option Value) : Prop where
  m_len : mg "len" = none
  m_int : mg "int" = none
  m_isinstance : mg "isinstance" = none
  m_list : mg "list" = none
  m_tuple : mg "tuple" = none
  m_bool : mg "bool" = none
  m_all : mg "all" = none
  m_zip : mg "zip" = none
section
variable {P : Program} {w : World} {K : PySem.W.Frag} {mg : Str → Option Value} {base : Heap}
theorem ok_source {f : Addr} {fd : FuncData} (F : Fun K "_law_source" "_law_source" s_source f fd) (T : TxB mg) : FnOk P w K mg base CX0 1 f fd ["_law_script", "_law_at"] (spSource K) := by
  refine F.ok sc_source (fun vs H Q E h => ?_) (fun cdv A outer s H vs Q E hr h => ?_)
  · obtain ⟨_, _, _, rfl, _⟩ := h
    rfl
  · obtain ⟨sa, ns, i, rfl, hS, hl, hi, k⟩ := h
    refine ⟨_, (pss_cons (ps_set (i := 2) sc_source.nd rfl (by first | exact Or.inl rfl | exact Or.inr rfl) (pe_ifExp (pt_cmpR op_lt (pv 1) (pe_callB call_len_seq (by rfl) T.m_len (by decide +kernel) (pa_cons (pv 0) pa_nil)) (nomark _)) (pe_ix ix_list (pv 0) (pv 1) (fun _ _ => rfl)) (pe_op op_add (pe_op op_mul pe_int (pv 1)) pe_int)))
    (pss_one (ps_ret (pe_lst (pa_cons (pe_ifExp (pt_cmpR op_ge (pv 2) (pe_op op_pow pe_int pe_int) (nomark _)) (pv 2) pe_int) (pa_cons (pe_op op_add (pe_op op_mod (pe_callTy call_int1 (by rfl) T.m_int (by decide +kernel) (pa_cons (pv 2) pa_nil)) pe_int) (pe_op op_mul pe_int (pv 1))) (pa_cons pe_int pa_nil))))))), ?_⟩
    have hlen : (ns.map V.int).length = ns.length := List.length_map ..
    have fin : ∀ (c : Int), ∀ l : Addr, H l = none → Q (.ref l) (upd H l (.lst [.int (if c ≥ 10 ^ 18 then c else 0), .int (c % 2147483647 + 131 * (i : Int)), .int 0])) := fun c l hn => by
      refine k l _ hn ⟨_, _, _, upd_same, ?_, ?_, ?_, by decide, by decide⟩
      · by_cases hc : c ≥ 10 ^ 18
        · rw [if_pos hc]
          omega
        · rw [if_neg hc]
          decide
      · omega
      · omega
    refine ⟨_, rfl, _, rfl, sa, _, rfl, .inl hS, _, _, rfl, rfl, _, rfl, ?_⟩
    refine ite2 (fun hc => ?_) (fun hc => ?_)
    · have hc' : i < ns.length := by
        have q := of_decide_eq_true hc
        rw [hlen] at q
        omega
      refine ⟨_, rfl, _, rfl, sa, _, _, .int ns[i], rfl, rfl, hS, atI_nat (by rw [List.getElem?_map, List.getElem?_eq_getElem hc']; rfl), ?_⟩
      have g := fin (ns[i])
      generalize ns[i] = c at g ⊢
      refine ⟨_, rfl, _, _, rfl, rfl, ⟨by decide, by decide, by decide⟩, _, _, rfl, rfl, _, rfl, ?_⟩
      refine ite2 (fun hc => ?_) (fun hc => ?_)
      · have hc' : c ≥ 10 ^ 18 := of_decide_eq_true hc
        rw [if_pos hc'] at g
        refine ⟨_, rfl, _, rfl, .inl ⟨_, rfl, _, _, rfl, rfl, (by show (0 : Int) < _; decide), _, rfl, _, _, rfl, rfl, .inl ⟨by decide, by decide⟩, _, _, rfl, rfl, by show 3 ≤ sizeLine; decide, fun l hn => ?_⟩⟩
        exact g l hn
      · have hc' : ¬ c ≥ 10 ^ 18 := fun q => hc (decide_eq_true q)
        rw [if_neg hc'] at g
        refine ⟨_, rfl, .inl ⟨_, rfl, _, _, rfl, rfl, (by show (0 : Int) < _; decide), _, rfl, _, _, rfl, rfl, .inl ⟨by decide, by decide⟩, _, _, rfl, rfl, by show 3 ≤ sizeLine; decide, fun l hn => ?_⟩⟩
        exact g l hn
    · have g := fin (11 * (i : Int) + 3)
      refine ⟨_, rfl, _, _, rfl, rfl, .inl ⟨by decide, by decide⟩, _, _, rfl, rfl, ?_⟩
      refine ⟨_, rfl, _, _, rfl, rfl, ⟨by decide, by decide, by decide⟩, _, _, rfl, rfl, _, rfl, ?_⟩
      refine ite2 (fun hc => ?_) (fun hc => ?_)
      · have hc' : 11 * (i : Int) + 3 ≥ 10 ^ 18 := of_decide_eq_true hc
        rw [if_pos hc'] at g
        refine ⟨_, rfl, _, rfl, .inl ⟨_, rfl, _, _, rfl, rfl, (by show (0 : Int) < _; decide), _, rfl, _, _, rfl, rfl, .inl ⟨by decide, by decide⟩, _, _, rfl, rfl, by show 3 ≤ sizeLine; decide, fun l hn => ?_⟩⟩
        exact g l hn
      · have hc' : ¬ 11 * (i : Int) + 3 ≥ 10 ^ 18 := fun q => hc (decide_eq_true q)
        rw [if_neg hc'] at g
        refine ⟨_, rfl, .inl ⟨_, rfl, _, _, rfl, rfl, (by show (0 : Int) < _; decide), _, rfl, _, _, rfl, rfl, .inl ⟨by decide, by decide⟩, _, _, rfl, rfl, by show 3 ≤ sizeLine; decide, fun l hn => ?_⟩⟩
        exact g l hn
theorem ok_draw {f : Addr} {fd : FuncData} (F : Fun K "_law_draw" "_law_draw" s_draw f fd) (T : TxB mg) : FnOk P w K mg base CX0 1 f fd ["_law_draws", "_law_many"] spDraw := by
  refine F.ok sc_draw (fun vs H Q E h => ?_) (fun cdv A outer s H vs Q E hr h => ?_)
  · obtain ⟨_, _, _, rfl, _⟩ := h
    rfl
  · obtain ⟨l, many, n, rfl, ⟨x, y, z, hl, x0, y0, y1, z0, z1⟩, hn, m0, m1, k⟩ := h
    refine ⟨_, (pss_cons (ps_if (pt_cmpR op_gt (pe_ix ix_list (pv 0) pe_int (fun _ _ => rfl)) pe_int (nomark _)) (pss_cons (ps_set (i := 2) sc_draw.nd rfl (by first | exact Or.inl rfl | exact Or.inr rfl) (pe_op op_mod (pe_callTy call_int1 (by rfl) T.m_int (by decide +kernel) (pa_cons (pe_ix ix_list (pv 0) pe_int (fun _ _ => rfl)) pa_nil)) (pv 1)))
      (pss_cons (ps_asg (pe_op op_fdivN (pe_ix ix_list (pv 0) pe_int (fun _ _ => rfl)) (pv 1)) (pg_sub (pv 0) pe_int set_list))
      (pss_one (ps_ret (pv 2))))) pss_nil)
    (pss_cons (ps_asg (pe_op op_add (pe_ix ix_list (pv 0) pe_int (fun _ _ => rfl)) pe_int) (pg_sub (pv 0) pe_int set_list))
    (pss_cons (ps_set (i := 3) sc_draw.nd rfl (by first | exact Or.inl rfl | exact Or.inr rfl) (pe_op op_mod (pe_op op_pow (pe_callTy call_int1 (by rfl) T.m_int (by decide +kernel) (pa_cons (pe_op op_add (pe_op op_add (pe_ix ix_list (pv 0) pe_int (fun _ _ => rfl)) (pe_op op_mul pe_int (pe_ix ix_list (pv 0) pe_int (fun _ _ => rfl)))) pe_int) pa_nil)) pe_int) pe_int))
    (pss_one (ps_ret (pe_op op_mod (pe_op op_mod (pe_op op_pow (pe_callTy call_int1 (by rfl) T.m_int (by decide +kernel) (pa_cons (pe_op op_add (pe_op op_mul (pv 3) pe_int) (pe_op op_mul pe_int (pe_ix ix_list (pv 0) pe_int (fun _ _ => rfl)))) pa_nil)) pe_int) pe_int) (pv 1))))))), ?_⟩
    have i0 : atI [V.int x, V.int y, V.int z] 0 = some (.int x) := rfl
    have i1 : atI [V.int x, V.int y, V.int z] 1 = some (.int y) := rfl
    have i2 : atI [V.int x, V.int y, V.int z] 2 = some (.int z) := rfl
    refine ⟨_, rfl, l, _, _, _, rfl, rfl, SqL.of hl, i0, _, _, rfl, rfl, _, rfl, ?_⟩
    refine ite2 (fun hc => ?_) (fun hc => ?_)
    · refine ⟨_, rfl, l, _, _, _, rfl, rfl, SqL.of hl, i0, .inl ⟨_, rfl, _, rfl, _, _, rfl, rfl, m0, ?_⟩⟩
      refine ⟨_, rfl, l, _, _, _, rfl, rfl, SqL.of hl, i0, _, rfl, _, _, rfl, rfl, ⟨by omega, by omega⟩, _, rfl, l, _, _, 0, rfl, rfl, hl, rfl, ?_⟩
      refine ⟨_, rfl, ?_⟩
      exact k (x % many) _ (Int.emod_nonneg _ (by omega)) (Int.emod_lt_of_pos _ m0) ⟨_, _, _, upd_same, Int.fdiv_nonneg x0 (by omega), y0, y1, z0, by omega⟩
    · have hl2 : (upd H l (.lst [V.int x, V.int y, V.int (z + 1)])) l = some (.lst [V.int x, V.int y, V.int (z + 1)]) := upd_same
      have j1 : atI [V.int x, V.int y, V.int (z + 1)] 1 = some (.int y) := rfl
      have j2 : atI [V.int x, V.int y, V.int (z + 1)] 2 = some (.int (z + 1)) := rfl
      refine ⟨_, rfl, l, _, _, _, rfl, rfl, SqL.of hl, i2, _, _, rfl, rfl, _, rfl, l, _, _, 2, rfl, rfl, hl, rfl, ?_⟩
      refine ⟨_, rfl, l, _, _, _, rfl, rfl, SqL.of hl2, j1, _, rfl, l, _, _, _, rfl, rfl, SqL.of hl2, j2, _, _, rfl, rfl, .inl ⟨by decide, by decide⟩, _, _, rfl, rfl, _, _, rfl, rfl, .inl ⟨_, rfl, _, _, rfl, rfl, ⟨by decide, by decide, ?_⟩, _, _, rfl, rfl, (by show (0 : Int) < _; decide), ?_⟩⟩
      · show (y + 7919 * (z + 1) + 104729).natAbs < 18446744073709551616
        omega
      have e1 : 0 ≤ (y + 7919 * (z + 1) + 104729) ^ (5 : Int).toNat % 2147483629 := Int.emod_nonneg _ (by decide)
      have e2 : (y + 7919 * (z + 1) + 104729) ^ (5 : Int).toNat % 2147483629 < 2147483629 := Int.emod_lt_of_pos _ (by decide)
      have hb : ∀ c : Int, 0 ≤ c → c < 2147483629 → (c * 48271 + 40503 * (z + 1)).natAbs < 18446744073709551616 := fun c _ _ => by omega
      refine ⟨_, rfl, _, _, rfl, rfl, .inr ⟨by decide, by decide⟩, _, rfl, l, _, _, _, rfl, rfl, SqL.of hl2, j2, _, _, rfl, rfl, .inl ⟨by decide, by decide⟩, _, _, rfl, rfl, .inl ⟨_, rfl, _, _, rfl, rfl, ⟨by decide, by decide, ?_⟩, _, _, rfl, rfl, (by show (0 : Int) < _; decide), _, rfl, _, _, rfl, rfl, m0, ?_⟩⟩
      · exact hb _ e1 e2
      exact k _ _ (Int.emod_nonneg _ (by omega)) (Int.emod_lt_of_pos _ m0) ⟨_, _, _, upd_same, x0, y0, y1, by omega, by omega⟩
theorem ok_pick {f : Addr} {fd : FuncData} (F : Fun K "_law_pick" "_law_pick" s_pick f fd) (T : TxB mg) (D_draw : DefAt P w K mg base "_law_draw" 1 ["_law_draws", "_law_many"] spDraw) : FnOk P w K mg base CX0 2 f fd ["_law_draws", "_law_things"] (spPick K) := by
  refine F.ok sc_pick (fun vs H Q E h => ?_) (fun cdv A outer s H vs Q E hr h => ?_)
  · obtain ⟨_, _, _, _, _, rfl, _⟩ := h
    rfl
  · obtain ⟨l, t, ds, n, L, rfl, hd, hn, hL, hp, h0, h1, k⟩ := h
    refine ⟨_, (pss_one (ps_ret (pe_ix ix_list (pv 1) (pe_callD D_draw (by first | exact hr | exact hr.mono (by decide) | exact hr.mono (by omega)) (by rfl) (pa_cons (pv 0) (pa_cons (pe_callB call_len_seq (by rfl) T.m_len (by decide +kernel) (pa_cons (pv 1) pa_nil)) pa_nil))) (fun _ _ => rfl)))), ?_⟩
    cases hp with
    | @lst _ xs _ hs ha =>
      have hlen := dpa_len ha
      refine ⟨_, rfl, _, rfl, _, rfl, t, xs, rfl, .inl (Evl.ex_l w_sub hs), ?_⟩
      refine ⟨l, _, n, rfl, hd, hn, by omega, by omega, fun r o r0 r1 hd' => ?_⟩
      have hr' : r.toNat < xs.length := by omega
      obtain ⟨d, hd1, hd2⟩ := dpa_get ha (List.getElem?_eq_getElem hr')
      have er : ((r.toNat : Nat) : Int) = r := by omega
      refine ⟨t, xs, r, xs[r.toNat], rfl, rfl, Evl.ex_l (w_sub (L := L)) (by rw [w_upd_in hL]; exact hs), ?_, ?_⟩
      · have q := atI_nat (List.getElem?_eq_getElem hr')
        rw [er] at q
        exact q
      · exact k _ d o (List.mem_of_getElem? hd1) (by rw [w_upd_in hL]; exact hd2) hd'
def spPrev (K : PySem.W.Frag) : Nat → Sp
  | 0 => fun _ _ _ _ => False
  | n + 1 => spSame K n
theorem same_body {f : Addr} {fd : FuncData} (F : Fun K "_law_same" "_law_same" s_same f fd) (T : TxB mg) (n : Nat) (D_same : DefAt P w K mg base "_law_same" n ["_law_found", "_law_due_here"] (spPrev K n)) : FnOk P w K mg base CX0 (n + 1) f fd ["_law_found", "_law_due_here"] (spSame K n) := by
  refine F.ok sc_same (fun vs H Q E h => ?_) (fun cdv A outer s H vs Q E hr h => ?_)
  · obtain ⟨_, _, _, rfl, _⟩ := h
    rfl
  · obtain ⟨x, y, d, rfl, hx, hy, hf, k⟩ := h
    refine ⟨_, (pss_cons (ps_if (pt_val (pe_callB call_isiT (by rfl) T.m_isinstance (by decide +kernel) (pa_cons (pv 1) (pa_cons (pe_tup (pa_cons (pe_bltn (v := .ty "list") (by rfl) T.m_list (by decide +kernel) rfl) (pa_cons (pe_bltn (v := .ty "tuple") (by rfl) T.m_tuple (by decide +kernel) rfl) pa_nil))) pa_nil)))) (pss_cons (ps_if (PW.pt (pw_or (pt_cmpR op_ne (pe_callB call_isi (by rfl) T.m_isinstance (by decide +kernel) (pa_cons (pv 0) (pa_cons (pe_bltn (v := .ty "list") (by rfl) T.m_list (by decide +kernel) rfl) pa_nil))) (pe_callB call_isi (by rfl) T.m_isinstance (by decide +kernel) (pa_cons (pv 1) (pa_cons (pe_bltn (v := .ty "list") (by rfl) T.m_list (by decide +kernel) rfl) pa_nil))) (nomark _)) (pw_or1 (pt_cmpR op_ne (pe_callB call_isi (by rfl) T.m_isinstance (by decide +kernel) (pa_cons (pv 0) (pa_cons (pe_bltn (v := .ty "tuple") (by rfl) T.m_tuple (by decide +kernel) rfl) pa_nil))) (pe_callB call_isi (by rfl) T.m_isinstance (by decide +kernel) (pa_cons (pv 1) (pa_cons (pe_bltn (v := .ty "tuple") (by rfl) T.m_tuple (by decide +kernel) rfl) pa_nil))) (nomark _))))) (pss_one (ps_ret pe_bl)) pss_nil)
      (pss_one (ps_ret (pe_and (pe_cmpR op_eq (pe_callB call_len_seq (by rfl) T.m_len (by decide +kernel) (pa_cons (pv 0) pa_nil)) (pe_callB call_len_seq (by rfl) T.m_len (by decide +kernel) (pa_cons (pv 1) pa_nil)) (nomark _)) (pe_one (pe_callB (cr_all rfl) (by rfl) T.m_all (by decide +kernel) (pa_cons (pe_lc (own := [("_law_left", 2), ("_law_right", 3)]) (g := gTup K 2 (gCons (gName 2) (gCons (gName 3) (gNil)))) (tt := tYes) (by rfl) sc_same.nd (RZ.pi_zipA (by rfl) T.m_zip (pa_cons (pv 0) (pa_cons (pv 1) pa_nil))) (blkOk_by (N := sc_same_N) (sc := defScope s_same) (by decide +kernel)) (fun _ _ _ _ _ => (pg_tup (by rfl) (pgs_cons (pg_name (i := 2) sc_same.nd rfl (by first | exact Or.inl rfl | exact Or.inr rfl)) (pgs_cons (pg_name (i := 3) sc_same.nd rfl (by first | exact Or.inl rfl | exact Or.inr rfl)) pgs_nil)))) (fun _ _ _ _ _ => pts_nil) (fun _ _ _ _ _ => (pe_callD D_same (by first | exact hr | exact hr.mono (by decide) | exact hr.mono (by omega)) (by rfl) (pa_cons (pv 2) (pa_cons (pv 3) pa_nil))))) pa_nil))))))) pss_nil)
    (pss_cons (ps_if (pt_val (pe_callB call_isiT (by rfl) T.m_isinstance (by decide +kernel) (pa_cons (pv 1) (pa_cons (pe_tup (pa_cons (pe_bltn (v := .ty "bool") (by rfl) T.m_bool (by decide +kernel) rfl) (pa_cons (pe_bltn (v := .ty "int") (by rfl) T.m_int (by decide +kernel) rfl) pa_nil))) pa_nil)))) (pss_one (ps_ret (pe_and (pe_callB call_isi (by rfl) T.m_isinstance (by decide +kernel) (pa_cons (pv 0) (pa_cons (pe_bltn (v := .ty "int") (by rfl) T.m_int (by decide +kernel) rfl) pa_nil))) (pe_and (pe_cmpR op_eq (pe_callB call_isi (by rfl) T.m_isinstance (by decide +kernel) (pa_cons (pv 0) (pa_cons (pe_bltn (v := .ty "bool") (by rfl) T.m_bool (by decide +kernel) rfl) pa_nil))) (pe_callB call_isi (by rfl) T.m_isinstance (by decide +kernel) (pa_cons (pv 1) (pa_cons (pe_bltn (v := .ty "bool") (by rfl) T.m_bool (by decide +kernel) rfl) pa_nil))) (nomark _)) (pe_one (pe_cmpR op_eq (pv 0) (pv 1) (nomark _))))))) pss_nil)
    (pss_one (ps_ret (pe_and (pe_not (pe_callB call_isiT (by rfl) T.m_isinstance (by decide +kernel) (pa_cons (pv 0) (pa_cons (pe_tup (pa_cons (pe_bltn (v := .ty "bool") (by rfl) T.m_bool (by decide +kernel) rfl) (pa_cons (pe_bltn (v := .ty "int") (by rfl) T.m_int (by decide +kernel) rfl) (pa_cons (pe_bltn (v := .ty "list") (by rfl) T.m_list (by decide +kernel) rfl) (pa_cons (pe_bltn (v := .ty "tuple") (by rfl) T.m_tuple (by decide +kernel) rfl) pa_nil))))) pa_nil)))) (pe_one (pe_cmpR op_eq (pv 0) (pv 1) (nomark _)))))))), ?_⟩
    have v0 : Evl.Ev (tVar 0) (start sc_same_N [x, y]) H x := Evl.ev_var rfl
    have v1 : Evl.Ev (tVar 1) (start sc_same_N [x, y]) H y := Evl.ev_var rfl
    -- two lists, two tuples
    have seqs : ∀ (a b : Addr) (xs ys : List V) (ds : List PyData) (m : Nat), n = m + 1 → x = .ref a → y = .ref b → (SqL K H a xs ∧ SqL K H b ys) ∨ (SqT K H a xs ∧ SqT K H b ys) → DpAll K H xs ds → DpAll K H ys ds → (∀ d ∈ ds, fits m d) → xs.length ≤ 40000 →
        ∀ H1, Ex H H1 → Evl.Ev (tAndV (tOp rEq (tCB (fun xs H Q => ∃ p ys, xs = [V.ref p] ∧ (SqL K H p ys ∨ SqT K H p ys) ∧ Q (.int ys.length) H) (tCons (tVar 0) tNil)) (tCB (fun xs H Q => ∃ p ys, xs = [V.ref p] ∧ (SqL K H p ys ∨ SqT K H p ys) ∧ Q (.int ys.length) H) (tCons (tVar 1) tNil)))
          (tCB (rAll K) (tCons (tLc (RZ.iZipA K (tCons (tVar 0) (tCons (tVar 1) tNil))) (gTup K 2 (gCons (gName 2) (gCons (gName 3) gNil))) tYes (tCallD (spPrev K n) (tCons (tVar 2) (tCons (tVar 3) tNil))) [2, 3]) tNil))) (start sc_same_N [x, y]) H1 (.bl true) := by
      rintro a b xs ys ds m rfl rfl rfl hs h1 h2 hd hz H1 e1
      have hl : xs.length = ys.length := (dpa_len h1).trans (dpa_len h2).symm
      have hs1 : SqL K H1 a xs ∨ SqT K H1 a xs := hs.imp (fun q => Evl.ex_l e1 q.1) (fun q => Evl.ex_t e1 q.1)
      have hs2 : SqL K H1 b ys ∨ SqT K H1 b ys := hs.imp (fun q => Evl.ex_l e1 q.2) (fun q => Evl.ex_t e1 q.2)
      refine Evl.ev_is (Evl.ev_andV (a := true) (b := true) (Evl.ev_is (Evl.ev_op (ev_lenS (v0.mono e1) hs1) (ev_lenS (v1.mono e1) hs2) (Evl.rv_eq rfl)) ?_) fun _ => ?_) rfl
      · rw [hl]
        exact congrArg V.bl (decide_eq_true rfl)
      · have z := el_zip (K := K) (v := fun _ => V.bl true) (te := tCallD (spPrev K (m + 1)) (tCons (tVar 2) (tCons (tVar 3) tNil))) (i1 := 2) (i2 := 3) (vs := [2, 3]) (σ := start sc_same_N [V.ref a, V.ref b]) (H := H1) (ta := tCons (tVar 0) (tCons (tVar 1) tNil)) (a := a) (b := b) (xs := xs) (ys := ys)
          (Evl.ea_cons (v0.mono e1) (Evl.ea_cons (v1.mono e1) Evl.ea_nil)) (hs.imp (fun q => ⟨Evl.ex_l e1 q.1, Evl.ex_l e1 q.2⟩) (fun q => ⟨Evl.ex_t e1 q.1, Evl.ex_t e1 q.2⟩)) hl hz (fun _ _ => rfl) (fun i u v H2 e2 hu hv => ?_)
        · have em : (List.range xs.length).map (fun _ => V.bl true) = ((List.range xs.length).map fun _ => true).map V.bl := by
            rw [List.map_map]
            rfl
          rw [em] at z
          exact Evl.ev_is (ev_all z) (congrArg V.bl (by simp))
        · obtain ⟨d, hd1, hd2⟩ := dpa_get h1 hu
          obtain ⟨d', hd3, hd4⟩ := dpa_get h2 hv
          rw [hd1] at hd3
          cases hd3
          exact ev_callD (Evl.ea_cons (Evl.ev_var rfl) (Evl.ea_cons (Evl.ev_var rfl) Evl.ea_nil)) fun H3 e3 Q q => ⟨u, v, d, rfl, hd2.up ((e1.trans e2).trans e3), hd4.up ((e1.trans e2).trans e3), hd d (List.mem_of_getElem? hd1), q⟩
    cases d with
    | none =>
      have exy : x = y := by
        cases hx
        cases hy
        rfl
      refine Evl.q_when (b := false) (Evl.et_B (ev_isi2 v1 hy isi_NoneType_list_tuple)) (fun z => by cases z) (fun _ H1 e1 => ?_)
      refine Evl.q_when (b := false) (Evl.et_B (ev_isi2 (v1.mono e1) (hy.up e1) isi_NoneType_bool_int)) (fun z => by cases z) (fun _ H2 e2 => ?_)
      refine Evl.s_ret (v := .bl true) (Evl.ev_is (Evl.ev_andV (Evl.ev_notV (ev_isi4 (v0.mono (e1.trans e2)) (hx.up (e1.trans e2)) (b := false) isi_NoneType_bool_int_list_tuple)) (fun _ => Evl.ev_is (Evl.ev_op (v0.mono (e1.trans e2)) (v1.mono (e1.trans e2)) (Evl.rv_eq (by cases hx; cases hy; rfl))) (w := .bl true) (by rw [exy]; exact congrArg V.bl (decide_eq_true rfl)))) rfl) (fun H3 e3 => k H3 ((e1.trans e2).trans e3))
    | str z =>
      have exy : x = y := by
        cases hx
        cases hy
        rfl
      refine Evl.q_when (b := false) (Evl.et_B (ev_isi2 v1 hy isi_str_list_tuple)) (fun z => by cases z) (fun _ H1 e1 => ?_)
      refine Evl.q_when (b := false) (Evl.et_B (ev_isi2 (v1.mono e1) (hy.up e1) isi_str_bool_int)) (fun z => by cases z) (fun _ H2 e2 => ?_)
      refine Evl.s_ret (v := .bl true) (Evl.ev_is (Evl.ev_andV (Evl.ev_notV (ev_isi4 (v0.mono (e1.trans e2)) (hx.up (e1.trans e2)) (b := false) isi_str_bool_int_list_tuple)) (fun _ => Evl.ev_is (Evl.ev_op (v0.mono (e1.trans e2)) (v1.mono (e1.trans e2)) (Evl.rv_eq (by cases hx; cases hy; rfl))) (w := .bl true) (by rw [exy]; exact congrArg V.bl (decide_eq_true rfl)))) rfl) (fun H3 e3 => k H3 ((e1.trans e2).trans e3))
    | bool z =>
      have exy : x = y := by
        cases hx
        cases hy
        rfl
      refine Evl.q_when (b := false) (Evl.et_B (ev_isi2 v1 hy isi_bool_list_tuple)) (fun z => by cases z) (fun _ H1 e1 => ?_)
      refine Evl.q_when (b := true) (Evl.et_B (ev_isi2 (v1.mono e1) (hy.up e1) isi_bool_bool_int)) (fun _ H2 e2 => ?_) (fun z => by cases z)
      refine Evl.s_ret (v := .bl true) (Evl.ev_is (Evl.ev_andV (ev_isi (v0.mono (e1.trans e2)) (hx.up (e1.trans e2)) (b := true) isi_bool_int) (fun _ => Evl.ev_andV (a := true) (Evl.ev_is (ev_eqB (ev_isi (v0.mono (e1.trans e2)) (hx.up (e1.trans e2)) (b := true) isi_bool_bool) (ev_isi (v1.mono (e1.trans e2)) (hy.up (e1.trans e2)) (b := true) isi_bool_bool)) (by decide))
        fun _ => Evl.ev_is (Evl.ev_op (v0.mono (e1.trans e2)) (v1.mono (e1.trans e2)) (Evl.rv_eq (by cases hx; cases hy; rfl))) (w := .bl true) (by rw [exy]; exact congrArg V.bl (decide_eq_true rfl)))) rfl) (fun H3 e3 => k H3 ((e1.trans e2).trans e3))
    | int z =>
      have exy : x = y := by
        cases hx
        cases hy
        rfl
      refine Evl.q_when (b := false) (Evl.et_B (ev_isi2 v1 hy isi_int_list_tuple)) (fun z => by cases z) (fun _ H1 e1 => ?_)
      refine Evl.q_when (b := true) (Evl.et_B (ev_isi2 (v1.mono e1) (hy.up e1) isi_int_bool_int)) (fun _ H2 e2 => ?_) (fun z => by cases z)
      refine Evl.s_ret (v := .bl true) (Evl.ev_is (Evl.ev_andV (ev_isi (v0.mono (e1.trans e2)) (hx.up (e1.trans e2)) (b := true) isi_int_int) (fun _ => Evl.ev_andV (a := true) (Evl.ev_is (ev_eqB (ev_isi (v0.mono (e1.trans e2)) (hx.up (e1.trans e2)) (b := false) isi_int_bool) (ev_isi (v1.mono (e1.trans e2)) (hy.up (e1.trans e2)) (b := false) isi_int_bool)) (by decide))
        fun _ => Evl.ev_is (Evl.ev_op (v0.mono (e1.trans e2)) (v1.mono (e1.trans e2)) (Evl.rv_eq (by cases hx; cases hy; rfl))) (w := .bl true) (by rw [exy]; exact congrArg V.bl (decide_eq_true rfl)))) rfl) (fun H3 e3 => k H3 ((e1.trans e2).trans e3))
    | list ds =>
      cases n with
      | zero => exact hf.elim
      | succ m =>
        have hx' := hx
        have hy' := hy
        cases hx with
        | @lst a xs _ hs ha =>
          cases hy with
          | @lst b ys _ hs2 ha2 =>
            refine Evl.q_when (b := true) (Evl.et_B (ev_isi2 v1 hy' isi_list_list_tuple)) (fun _ H1 e1 => ?_) (fun z => by cases z)
            refine Evl.q_when (b := false) (Evl.et_is (Evl.et_or (Evl.et_test (ev_neB (ev_isi (v0.mono e1) (hx'.up e1) (b := true) isi_list_list) (ev_isi (v1.mono e1) (hy'.up e1) (b := true) isi_list_list))) fun _ => Evl.et_test (ev_neB (ev_isi (v0.mono e1) (hx'.up e1) (b := false) isi_list_tuple) (ev_isi (v1.mono e1) (hy'.up e1) (b := false) isi_list_tuple))) (by decide)) (fun z => by cases z) (fun _ H2 e2 => ?_)
            exact Evl.s_ret (v := .bl true) (seqs a b xs ys ds m rfl rfl rfl (.inl ⟨hs, hs2⟩) ha ha2 hf.2 (by rw [dpa_len ha]; exact hf.1) _ (e1.trans e2)) (fun H3 e3 => k H3 ((e1.trans e2).trans e3))
    | tuple ds =>
      cases n with
      | zero => exact hf.elim
      | succ m =>
        have hx' := hx
        have hy' := hy
        cases hx with
        | @tup a xs _ hs ha =>
          cases hy with
          | @tup b ys _ hs2 ha2 =>
            refine Evl.q_when (b := true) (Evl.et_B (ev_isi2 v1 hy' isi_tuple_list_tuple)) (fun _ H1 e1 => ?_) (fun z => by cases z)
            refine Evl.q_when (b := false) (Evl.et_is (Evl.et_or (Evl.et_test (ev_neB (ev_isi (v0.mono e1) (hx'.up e1) (b := false) isi_tuple_list) (ev_isi (v1.mono e1) (hy'.up e1) (b := false) isi_tuple_list))) fun _ => Evl.et_test (ev_neB (ev_isi (v0.mono e1) (hx'.up e1) (b := true) isi_tuple_tuple) (ev_isi (v1.mono e1) (hy'.up e1) (b := true) isi_tuple_tuple))) (by decide)) (fun z => by cases z) (fun _ H2 e2 => ?_)
            exact Evl.s_ret (v := .bl true) (seqs a b xs ys ds m rfl rfl rfl (.inr ⟨hs, hs2⟩) ha ha2 hf.2 (by rw [dpa_len ha]; exact hf.1) _ (e1.trans e2)) (fun H3 e3 => k H3 ((e1.trans e2).trans e3))
    | dict _ => cases hx
end
end U

set_option Elab.async false
set_option linter.all false
set_option maxRecDepth 100000
set_option maxHeartbeats 4000000
namespace U
open PySem L2
open Evl (Ex)
abbrev s_is_integer : Stmt := top 10
abbrev sc_is_integer_N : List Str := ["thing"]
theorem sc_is_integer : FnScope sc_is_integer_N ["thing"] (defScope s_is_integer) := ⟨rfl, rfl, rfl, by decide +kernel, rfl, by decide +kernel, by decide +kernel⟩
abbrev s_is_number_of_places : Stmt := top 11
abbrev sc_is_number_of_places_N : List Str := ["thing"]
theorem sc_is_number_of_places : FnScope sc_is_number_of_places_N ["thing"] (defScope s_is_number_of_places) := ⟨rfl, rfl, rfl, by decide +kernel, rfl, by decide +kernel, by decide +kernel⟩
def isI : PyData → Bool
  | .int _ => true
  | _ => false
def isL : PyData → Bool
  | .bool _ => true
  | _ => false
def isR : PyData → Bool
  | .list _ => true
  | .tuple _ => true
  | _ => false
def isN : PyData → Bool
  | .int i => decide (1 ≤ i) && decide (i ≤ 3)
  | _ => false
def isP (p : Int) : PyData → Bool
  | .list ds => decide ((ds.length : Int) = p) && ds.all isI
  | .tuple ds => decide ((ds.length : Int) = p) && ds.all isI
  | _ => false
def isO (p : Int) : PyData → Bool
  | .list ds => decide ((ds.length : Int) = p)
  | .tuple ds => decide ((ds.length : Int) = p)
  | _ => false
def isX (p : Int) : PyData → Bool
  | .list [a, b] => isP p a && isL b
  | .tuple [a, b] => isP p a && isL b
  | _ => false
def tupOf : PyData → PyData
  | .list ds => .tuple ds
  | d => d
def cpy : PyData → PyData
  | .list [a, b] => .tuple [tupOf a, b]
  | .tuple [a, b] => .tuple [tupOf a, b]
  | d => d
/-- True or False of data, by f | of data and a number of places -/
def spB (K : PySem.W.Frag) (f : PyData → Bool) : Sp := fun vs H Q _ => ∃ v d, vs = [v] ∧ Dq K H v d ∧ ∀ H', Ex H H' → Q (.bl (f d)) H'
def spBp (K : PySem.W.Frag) (f : Int → PyData → Bool) : Sp := fun vs H Q _ => ∃ v d p, vs = [v, .int p] ∧ Dq K H v d ∧ (∃ n, fits n d) ∧ ∀ H', Ex H H' → Q (.bl (f p d)) H'
structure TxF (mg : Str → Option Value) : Prop extends TxB mg where
  m_range : mg "range" = none
  m_enumerate : mg "enumerate" = none
  c_LEAST_PLACES : ∃ t, mg "LEAST_PLACES" = some (.int 1 t)
  c_MOST_PLACES : ∃ t, mg "MOST_PLACES" = some (.int 3 t)
section
variable {P : Program} {w : World} {K : PySem.W.Frag} {mg : Str → Option Value} {base : Heap}
theorem isP_two {p : Int} {d : PyData} : (isO p d && isP p d) = isP p d := by
  have q : ∀ a b : Bool, (a && (a && b)) = (a && b) := by decide
  cases d with
  | list ds => exact q _ _
  | tuple ds => exact q _ _
  | _ => rfl
theorem isX_two {p : Int} {d : PyData} {ds : List PyData} (h : d = .list ds ∨ d = .tuple ds) : (isO 2 d && isX p d) = isX p d := by
  rcases h with rfl | rfl <;> (match ds with
    | [] => rfl
    | [_] => rfl
    | [_, _] => rfl
    | _ :: _ :: _ :: r =>
      show (_ && false) = false
      rw [Bool.and_false])
theorem ev_spB {σ : L2.St} {H : Hp} {te : TE} {v : V} {d : PyData} {f : PyData → Bool} (h : Evl.Ev te σ H v) (hd : Dp K H v d) : Evl.Ev (tCallD (spB K f) (tCons te tNil)) σ H (.bl (f d)) :=
  ev_callD (Evl.ea_cons h Evl.ea_nil) fun H1 e1 Q q => ⟨v, d, rfl, (hd.up e1).q, q⟩
theorem ev_spBp {σ : L2.St} {H : Hp} {te tp : TE} {v : V} {d : PyData} {f : Int → PyData → Bool} {p : Int} (h : Evl.Ev te σ H v) (hp : Evl.Ev tp σ H (.int p)) (hd : Dp K H v d) (hw : ∃ n, fits n d) : Evl.Ev (tCallD (spBp K f) (tCons te (tCons tp tNil))) σ H (.bl (f p d)) :=
  ev_callD (Evl.ea_cons h (Evl.ea_cons hp Evl.ea_nil)) fun H1 e1 Q q => ⟨v, d, p, rfl, (hd.up e1).q, hw, q⟩
theorem ev_spBq {σ : L2.St} {H : Hp} {te : TE} {v : V} {d : PyData} {f : PyData → Bool} (h : Evl.Ev te σ H v) (hd : Dq K H v d) : Evl.Ev (tCallD (spB K f) (tCons te tNil)) σ H (.bl (f d)) :=
  ev_callD (Evl.ea_cons h Evl.ea_nil) fun H1 e1 Q q => ⟨v, d, rfl, hd.up e1, q⟩
theorem ev_spBpq {σ : L2.St} {H : Hp} {te tp : TE} {v : V} {d : PyData} {f : Int → PyData → Bool} {p : Int} (h : Evl.Ev te σ H v) (hp : Evl.Ev tp σ H (.int p)) (hd : Dq K H v d) (hw : ∃ n, fits n d) : Evl.Ev (tCallD (spBp K f) (tCons te (tCons tp tNil))) σ H (.bl (f p d)) :=
  ev_callD (Evl.ea_cons h (Evl.ea_cons hp Evl.ea_nil)) fun H1 e1 Q q => ⟨v, d, p, rfl, hd.up e1, hw, q⟩
theorem ok_is_integer {f : Addr} {fd : FuncData} (F : Fun K "is_integer" "is_integer" s_is_integer f fd) (T : TxF mg) : FnOk P w K mg base CX0 1 f fd ["thing"] (spB K isI) := by
  refine F.ok sc_is_integer (fun vs H Q E h => ?_) (fun cdv A outer s H vs Q E hr h => ?_)
  · obtain ⟨_, _, rfl, _⟩ := h
    rfl
  · obtain ⟨v, d, rfl, hd, k⟩ := h
    refine ⟨_, (pss_one (ps_ret (pe_and (pe_callB call_isi (by rfl) T.m_isinstance (by decide +kernel) (pa_cons (pv 0) (pa_cons (pe_bltn (v := .ty "int") (by rfl) T.m_int (by decide +kernel) rfl) pa_nil))) (pe_one (pe_not (pe_callB call_isi (by rfl) T.m_isinstance (by decide +kernel) (pa_cons (pv 0) (pa_cons (pe_bltn (v := .ty "bool") (by rfl) T.m_bool (by decide +kernel) rfl) pa_nil)))))))), ?_⟩
    have v0 : Evl.Ev (tVar 0) (start sc_is_integer_N [v]) H v := Evl.ev_var rfl
    cases d with
    | none => exact Evl.s_ret (v := .bl false) (Evl.ev_andV (a := false) (b := false) (evq_isi v0 hd isi_NoneType_int) fun z => nomatch z) k
    | bool z => exact Evl.s_ret (v := .bl false) (Evl.ev_andV (a := true) (b := false) (evq_isi v0 hd isi_bool_int) fun _ => Evl.ev_notV (a := true) (evq_isi v0 hd isi_bool_bool)) k
    | int z => exact Evl.s_ret (v := .bl true) (Evl.ev_andV (a := true) (b := true) (evq_isi v0 hd isi_int_int) fun _ => Evl.ev_notV (a := false) (evq_isi v0 hd isi_int_bool)) k
    | str z' => exact Evl.s_ret (v := .bl false) (Evl.ev_andV (a := false) (b := false) (evq_isi v0 hd isi_str_int) fun z => nomatch z) k
    | list ds => exact Evl.s_ret (v := .bl false) (Evl.ev_andV (a := false) (b := false) (evq_isi v0 hd isi_list_int) fun z => nomatch z) k
    | tuple ds => exact Evl.s_ret (v := .bl false) (Evl.ev_andV (a := false) (b := false) (evq_isi v0 hd isi_tuple_int) fun z => nomatch z) k
    | dict z' => exact Evl.s_ret (v := .bl false) (Evl.ev_andV (a := false) (b := false) (evq_isi v0 hd isi_dict_int) fun z => nomatch z) k
theorem ok_is_number_of_places {f : Addr} {fd : FuncData} (F : Fun K "is_number_of_places" "is_number_of_places" s_is_number_of_places f fd) (T : TxF mg) (D_is_integer : DefAt P w K mg base "is_integer" 1 ["thing"] (spB K isI)) : FnOk P w K mg base CX0 2 f fd ["thing"] (spB K isN) := by
  refine F.ok sc_is_number_of_places (fun vs H Q E h => ?_) (fun cdv A outer s H vs Q E hr h => ?_)
  · obtain ⟨_, _, rfl, _⟩ := h
    rfl
  · obtain ⟨v, d, rfl, hd, k⟩ := h
    refine ⟨_, (pss_one (ps_ret (pe_and (pe_callD D_is_integer (by first | exact hr | exact hr.mono (by decide) | exact hr.mono (by omega)) (by rfl) (pa_cons (pv 0) pa_nil)) (pe_one (pe_chain op_le op_le (pe_glob (v := .int 1) (by rfl) T.c_LEAST_PLACES.choose_spec (by exact ⟨_, rfl⟩)) (pv 0) (pe_glob (v := .int 3) (by rfl) T.c_MOST_PLACES.choose_spec (by exact ⟨_, rfl⟩))))))), ?_⟩
    have v0 : Evl.Ev (tVar 0) (start sc_is_number_of_places_N [v]) H v := Evl.ev_var rfl
    have e : isI d = true → ∃ i, d = .int i := fun z => by
      cases d <;> first | exact ⟨_, rfl⟩ | cases z
    have q : (isI d && isN d) = isN d := by
      cases d <;> rfl
    refine Evl.s_ret (v := .bl (isN d)) (Evl.ev_is (Evl.ev_andV (a := isI d) (b := isN d) (ev_spBq v0 hd) fun z => ?_) (congrArg V.bl q)) k
    obtain ⟨i, rfl⟩ := e z
    cases hd
    refine ev_chain (k := decide (1 ≤ i)) Evl.ev_c v0 (Evl.rv_I0 (g := fun a b => .bl (decide (a ≤ b)))) (fun _ => Evl.ev_c) (fun _ => ?_) (fun z => ?_)
    · have e : (isN (.int i)) = decide (i ≤ 3) := by
        show (decide (1 ≤ i) && decide (i ≤ 3)) = _
        rw [‹decide (1 ≤ i) = true›]
        rfl
      rw [e]
      exact Evl.rv_I0 (g := fun a b => .bl (decide (a ≤ b)))
    · show (decide (1 ≤ i) && decide (i ≤ 3)) = false
      rw [z]
      rfl
end
end U

set_option Elab.async false
set_option linter.all false
set_option maxRecDepth 100000
set_option maxHeartbeats 4000000
/-! kinds as instances -/
namespace U
open PySem PySem.Spec PyProof.Rows L2
open Evl (Ex)
open C8 (Met Mak pe_mt pe_mt0 pe_mk)
abbrev s_check_number_of_places : Stmt := top 21
abbrev sc_check_number_of_places_N : List Str := ["places"]
theorem sc_check_number_of_places : FnScope sc_check_number_of_places_N ["places"] (defScope s_check_number_of_places) := ⟨rfl, rfl, rfl, by decide +kernel, rfl, by decide +kernel, by decide +kernel⟩
abbrev s_Halves_init : Stmt := inClass (top 14) 0
abbrev sc_Halves_init_N : List Str := ["self", "places"]
theorem sc_Halves_init : FnScope sc_Halves_init_N ["self", "places"] (defScope s_Halves_init) := ⟨rfl, rfl, rfl, by decide +kernel, rfl, by decide +kernel, by decide +kernel⟩
abbrev s_Halves_invert : Stmt := inClass (top 14) 7
abbrev sc_Halves_invert_N : List Str := ["self"]
theorem sc_Halves_invert : FnScope sc_Halves_invert_N ["self"] (defScope s_Halves_invert) := ⟨rfl, rfl, rfl, by decide +kernel, rfl, by decide +kernel, by decide +kernel⟩
abbrev s_Halves_and : Stmt := inClass (top 14) 8
abbrev sc_Halves_and_N : List Str := ["self", "other"]
theorem sc_Halves_and : FnScope sc_Halves_and_N ["self", "other"] (defScope s_Halves_and) := ⟨rfl, rfl, rfl, by decide +kernel, rfl, by decide +kernel, by decide +kernel⟩
abbrev s_Halves_or : Stmt := inClass (top 14) 9
abbrev sc_Halves_or_N : List Str := ["self", "other"]
theorem sc_Halves_or : FnScope sc_Halves_or_N ["self", "other"] (defScope s_Halves_or) := ⟨rfl, rfl, rfl, by decide +kernel, rfl, by decide +kernel, by decide +kernel⟩
abbrev s_Halves_add : Stmt := inClass (top 14) 10
abbrev sc_Halves_add_N : List Str := ["self", "other"]
theorem sc_Halves_add : FnScope sc_Halves_add_N ["self", "other"] (defScope s_Halves_add) := ⟨rfl, rfl, rfl, by decide +kernel, rfl, by decide +kernel, by decide +kernel⟩
abbrev s_Boxes_init : Stmt := inClass (top 15) 0
abbrev sc_Boxes_init_N : List Str := ["self", "places"]
theorem sc_Boxes_init : FnScope sc_Boxes_init_N ["self", "places"] (defScope s_Boxes_init) := ⟨rfl, rfl, rfl, by decide +kernel, rfl, by decide +kernel, by decide +kernel⟩
abbrev s_Boxes_invert : Stmt := inClass (top 15) 7
abbrev sc_Boxes_invert_N : List Str := ["self"]
theorem sc_Boxes_invert : FnScope sc_Boxes_invert_N ["self"] (defScope s_Boxes_invert) := ⟨rfl, rfl, rfl, by decide +kernel, rfl, by decide +kernel, by decide +kernel⟩
abbrev s_Boxes_and : Stmt := inClass (top 15) 8
abbrev sc_Boxes_and_N : List Str := ["self", "other"]
theorem sc_Boxes_and : FnScope sc_Boxes_and_N ["self", "other"] (defScope s_Boxes_and) := ⟨rfl, rfl, rfl, by decide +kernel, rfl, by decide +kernel, by decide +kernel⟩
abbrev s_Boxes_or : Stmt := inClass (top 15) 9
abbrev sc_Boxes_or_N : List Str := ["self", "other"]
theorem sc_Boxes_or : FnScope sc_Boxes_or_N ["self", "other"] (defScope s_Boxes_or) := ⟨rfl, rfl, rfl, by decide +kernel, rfl, by decide +kernel, by decide +kernel⟩
abbrev s_Boxes_add : Stmt := inClass (top 15) 10
abbrev sc_Boxes_add_N : List Str := ["self", "other"]
theorem sc_Boxes_add : FnScope sc_Boxes_add_N ["self", "other"] (defScope s_Boxes_add) := ⟨rfl, rfl, rfl, by decide +kernel, rfl, by decide +kernel, by decide +kernel⟩
abbrev s_Rising_init : Stmt := inClass (top 16) 0
abbrev sc_Rising_init_N : List Str := ["self", "places"]
theorem sc_Rising_init : FnScope sc_Rising_init_N ["self", "places"] (defScope s_Rising_init) := ⟨rfl, rfl, rfl, by decide +kernel, rfl, by decide +kernel, by decide +kernel⟩
abbrev s_Rising_invert : Stmt := inClass (top 16) 7
abbrev sc_Rising_invert_N : List Str := ["self"]
theorem sc_Rising_invert : FnScope sc_Rising_invert_N ["self"] (defScope s_Rising_invert) := ⟨rfl, rfl, rfl, by decide +kernel, rfl, by decide +kernel, by decide +kernel⟩
abbrev s_Rising_and : Stmt := inClass (top 16) 8
abbrev sc_Rising_and_N : List Str := ["self", "other"]
theorem sc_Rising_and : FnScope sc_Rising_and_N ["self", "other"] (defScope s_Rising_and) := ⟨rfl, rfl, rfl, by decide +kernel, rfl, by decide +kernel, by decide +kernel⟩
abbrev s_Rising_or : Stmt := inClass (top 16) 9
abbrev sc_Rising_or_N : List Str := ["self", "other"]
theorem sc_Rising_or : FnScope sc_Rising_or_N ["self", "other"] (defScope s_Rising_or) := ⟨rfl, rfl, rfl, by decide +kernel, rfl, by decide +kernel, by decide +kernel⟩
abbrev s_Rising_add : Stmt := inClass (top 16) 10
abbrev sc_Rising_add_N : List Str := ["self", "other"]
theorem sc_Rising_add : FnScope sc_Rising_add_N ["self", "other"] (defScope s_Rising_add) := ⟨rfl, rfl, rfl, by decide +kernel, rfl, by decide +kernel, by decide +kernel⟩
abbrev s_Flats_init : Stmt := inClass (top 17) 0
abbrev sc_Flats_init_N : List Str := ["self", "places"]
theorem sc_Flats_init : FnScope sc_Flats_init_N ["self", "places"] (defScope s_Flats_init) := ⟨rfl, rfl, rfl, by decide +kernel, rfl, by decide +kernel, by decide +kernel⟩
abbrev s_Flats_invert : Stmt := inClass (top 17) 7
abbrev sc_Flats_invert_N : List Str := ["self"]
theorem sc_Flats_invert : FnScope sc_Flats_invert_N ["self"] (defScope s_Flats_invert) := ⟨rfl, rfl, rfl, by decide +kernel, rfl, by decide +kernel, by decide +kernel⟩
abbrev s_Flats_and : Stmt := inClass (top 17) 8
abbrev sc_Flats_and_N : List Str := ["self", "other"]
theorem sc_Flats_and : FnScope sc_Flats_and_N ["self", "other"] (defScope s_Flats_and) := ⟨rfl, rfl, rfl, by decide +kernel, rfl, by decide +kernel, by decide +kernel⟩
abbrev s_Flats_or : Stmt := inClass (top 17) 9
abbrev sc_Flats_or_N : List Str := ["self", "other"]
theorem sc_Flats_or : FnScope sc_Flats_or_N ["self", "other"] (defScope s_Flats_or) := ⟨rfl, rfl, rfl, by decide +kernel, rfl, by decide +kernel, by decide +kernel⟩
abbrev s_Flats_add : Stmt := inClass (top 17) 10
abbrev sc_Flats_add_N : List Str := ["self", "other"]
theorem sc_Flats_add : FnScope sc_Flats_add_N ["self", "other"] (defScope s_Flats_add) := ⟨rfl, rfl, rfl, by decide +kernel, rfl, by decide +kernel, by decide +kernel⟩
abbrev s_Turns_init : Stmt := inClass (top 18) 0
abbrev sc_Turns_init_N : List Str := ["self", "most"]
theorem sc_Turns_init : FnScope sc_Turns_init_N ["self", "most"] (defScope s_Turns_init) := ⟨rfl, rfl, rfl, by decide +kernel, rfl, by decide +kernel, by decide +kernel⟩
abbrev s_Turns_invert : Stmt := inClass (top 18) 7
abbrev sc_Turns_invert_N : List Str := ["self"]
theorem sc_Turns_invert : FnScope sc_Turns_invert_N ["self"] (defScope s_Turns_invert) := ⟨rfl, rfl, rfl, by decide +kernel, rfl, by decide +kernel, by decide +kernel⟩
abbrev s_Turns_and : Stmt := inClass (top 18) 8
abbrev sc_Turns_and_N : List Str := ["self", "other"]
theorem sc_Turns_and : FnScope sc_Turns_and_N ["self", "other"] (defScope s_Turns_and) := ⟨rfl, rfl, rfl, by decide +kernel, rfl, by decide +kernel, by decide +kernel⟩
abbrev s_Turns_or : Stmt := inClass (top 18) 9
abbrev sc_Turns_or_N : List Str := ["self", "other"]
theorem sc_Turns_or : FnScope sc_Turns_or_N ["self", "other"] (defScope s_Turns_or) := ⟨rfl, rfl, rfl, by decide +kernel, rfl, by decide +kernel, by decide +kernel⟩
abbrev s_Turns_add : Stmt := inClass (top 18) 10
abbrev sc_Turns_add_N : List Str := ["self", "other"]
theorem sc_Turns_add : FnScope sc_Turns_add_N ["self", "other"] (defScope s_Turns_add) := ⟨rfl, rfl, rfl, by decide +kernel, rfl, by decide +kernel, by decide +kernel⟩
abbrev s_Contrary_init : Stmt := inClass (top 19) 0
abbrev sc_Contrary_init_N : List Str := ["self", "kind"]
theorem sc_Contrary_init : FnScope sc_Contrary_init_N ["self", "kind"] (defScope s_Contrary_init) := ⟨rfl, rfl, rfl, by decide +kernel, rfl, by decide +kernel, by decide +kernel⟩
abbrev s_Contrary_invert : Stmt := inClass (top 19) 4
abbrev sc_Contrary_invert_N : List Str := ["self"]
theorem sc_Contrary_invert : FnScope sc_Contrary_invert_N ["self"] (defScope s_Contrary_invert) := ⟨rfl, rfl, rfl, by decide +kernel, rfl, by decide +kernel, by decide +kernel⟩
abbrev s_Contrary_and : Stmt := inClass (top 19) 5
abbrev sc_Contrary_and_N : List Str := ["self", "other"]
theorem sc_Contrary_and : FnScope sc_Contrary_and_N ["self", "other"] (defScope s_Contrary_and) := ⟨rfl, rfl, rfl, by decide +kernel, rfl, by decide +kernel, by decide +kernel⟩
abbrev s_Contrary_or : Stmt := inClass (top 19) 6
abbrev sc_Contrary_or_N : List Str := ["self", "other"]
theorem sc_Contrary_or : FnScope sc_Contrary_or_N ["self", "other"] (defScope s_Contrary_or) := ⟨rfl, rfl, rfl, by decide +kernel, rfl, by decide +kernel, by decide +kernel⟩
abbrev s_Contrary_add : Stmt := inClass (top 19) 7
abbrev sc_Contrary_add_N : List Str := ["self", "other"]
theorem sc_Contrary_add : FnScope sc_Contrary_add_N ["self", "other"] (defScope s_Contrary_add) := ⟨rfl, rfl, rfl, by decide +kernel, rfl, by decide +kernel, by decide +kernel⟩
abbrev s_Pair_init : Stmt := inClass (top 20) 0
abbrev sc_Pair_init_N : List Str := ["self", "word", "one", "other"]
theorem sc_Pair_init : FnScope sc_Pair_init_N ["self", "word", "one", "other"] (defScope s_Pair_init) := ⟨rfl, rfl, rfl, by decide +kernel, rfl, by decide +kernel, by decide +kernel⟩
abbrev s_Pair_invert : Stmt := inClass (top 20) 4
abbrev sc_Pair_invert_N : List Str := ["self"]
theorem sc_Pair_invert : FnScope sc_Pair_invert_N ["self"] (defScope s_Pair_invert) := ⟨rfl, rfl, rfl, by decide +kernel, rfl, by decide +kernel, by decide +kernel⟩
abbrev s_Pair_and : Stmt := inClass (top 20) 5
abbrev sc_Pair_and_N : List Str := ["self", "other"]
theorem sc_Pair_and : FnScope sc_Pair_and_N ["self", "other"] (defScope s_Pair_and) := ⟨rfl, rfl, rfl, by decide +kernel, rfl, by decide +kernel, by decide +kernel⟩
abbrev s_Pair_or : Stmt := inClass (top 20) 6
abbrev sc_Pair_or_N : List Str := ["self", "other"]
theorem sc_Pair_or : FnScope sc_Pair_or_N ["self", "other"] (defScope s_Pair_or) := ⟨rfl, rfl, rfl, by decide +kernel, rfl, by decide +kernel, by decide +kernel⟩
abbrev s_Pair_add : Stmt := inClass (top 20) 7
abbrev sc_Pair_add_N : List Str := ["self", "other"]
theorem sc_Pair_add : FnScope sc_Pair_add_N ["self", "other"] (defScope s_Pair_add) := ⟨rfl, rfl, rfl, by decide +kernel, rfl, by decide +kernel, by decide +kernel⟩
inductive KI where
  | ha | bo | ri | fl | tu | co | pa
abbrev KC := KI → Addr
def placesK : Kd → Int
  | .halves p => p
  | .boxes p => p
  | .rising p => p
  | .flats p => p
  | .turns _ => 1
  | .no k => placesK k
  | .both k _ => placesK k
  | .either k _ => placesK k
  | .any k _ => placesK k
def kiOf : Kd → KI
  | .halves _ => .ha
  | .boxes _ => .bo
  | .rising _ => .ri
  | .flats _ => .fl
  | .turns _ => .tu
  | .no _ => .co
  | .both _ _ => .pa
  | .either _ _ => .pa
  | .any _ _ => .pa
/-- at x an instance that stands for the kind -/
def Kin (c : KC) (H : Hp) : Kd → Addr → Prop
  | .halves p, x => ∃ dx, H x = some (.ins (c .ha) dx [("places", .int p)])
  | .boxes p, x => ∃ dx, H x = some (.ins (c .bo) dx [("places", .int p)])
  | .rising p, x => ∃ dx, H x = some (.ins (c .ri) dx [("places", .int p)])
  | .flats p, x => ∃ dx, H x = some (.ins (c .fl) dx [("places", .int p)])
  | .turns m, x => ∃ dx, H x = some (.ins (c .tu) dx [("places", .int 1), ("most", .int m)])
  | .no k, x => ∃ dx y, H x = some (.ins (c .co) dx [("places", .int (placesK k)), ("kind", .ref y)]) ∧ Kin c H k y
  | .both k m, x => ∃ dx y z, H x = some (.ins (c .pa) dx [("places", .int (placesK k)), ("word", .str "both"), ("one", .ref y), ("other", .ref z)]) ∧ Kin c H k y ∧ Kin c H m z
  | .either k m, x => ∃ dx y z, H x = some (.ins (c .pa) dx [("places", .int (placesK k)), ("word", .str "either"), ("one", .ref y), ("other", .ref z)]) ∧ Kin c H k y ∧ Kin c H m z
  | .any k m, x => ∃ dx y z, H x = some (.ins (c .pa) dx [("places", .int (placesK k)), ("word", .str "any"), ("one", .ref y), ("other", .ref z)]) ∧ Kin c H k y ∧ Kin c H m z
theorem Kin.up {c : KC} {H H' : Hp} (e : Ex H H') : ∀ {k : Kd} {x : Addr}, Kin c H k x → Kin c H' k x
  | .halves _, _, ⟨dx, h⟩ => ⟨dx, e _ _ h⟩
  | .boxes _, _, ⟨dx, h⟩ => ⟨dx, e _ _ h⟩
  | .rising _, _, ⟨dx, h⟩ => ⟨dx, e _ _ h⟩
  | .flats _, _, ⟨dx, h⟩ => ⟨dx, e _ _ h⟩
  | .turns _, _, ⟨dx, h⟩ => ⟨dx, e _ _ h⟩
  | .no _, _, ⟨dx, y, h, q⟩ => ⟨dx, y, e _ _ h, Kin.up e q⟩
  | .both _ _, _, ⟨dx, y, z, h, q, r⟩ => ⟨dx, y, z, e _ _ h, Kin.up e q, Kin.up e r⟩
  | .either _ _, _, ⟨dx, y, z, h, q, r⟩ => ⟨dx, y, z, e _ _ h, Kin.up e q, Kin.up e r⟩
  | .any _ _, _, ⟨dx, y, z, h, q, r⟩ => ⟨dx, y, z, e _ _ h, Kin.up e q, Kin.up e r⟩
theorem Kin.ins {c : KC} {H : Hp} : ∀ {k : Kd} {x : Addr}, Kin c H k x → ∃ dx fs, H x = some (.ins (c (kiOf k)) dx fs) ∧ fs.lookup ("places" : Str) = some (V.int (placesK k))
  | .halves _, _, ⟨dx, h⟩ => ⟨dx, _, h, rfl⟩
  | .boxes _, _, ⟨dx, h⟩ => ⟨dx, _, h, rfl⟩
  | .rising _, _, ⟨dx, h⟩ => ⟨dx, _, h, rfl⟩
  | .flats _, _, ⟨dx, h⟩ => ⟨dx, _, h, rfl⟩
  | .turns _, _, ⟨dx, h⟩ => ⟨dx, _, h, rfl⟩
  | .no _, _, ⟨dx, y, h, q⟩ => ⟨dx, _, h, rfl⟩
  | .both _ _, _, ⟨dx, y, z, h, q, r⟩ => ⟨dx, _, h, rfl⟩
  | .either _ _, _, ⟨dx, y, z, h, q, r⟩ => ⟨dx, _, h, rfl⟩
  | .any _ _, _, ⟨dx, y, z, h, q, r⟩ => ⟨dx, _, h, rfl⟩
structure KCl (K : PySem.W.Frag) (c : KC) : Prop where
  cl : ∀ i, Cls K (c i)
  na : ∀ i f, f ∈ (["places", "most", "kind", "word", "one", "other"] : List Str) → NoAttr K (c i) f
structure TxK (mg : Str → Option Value) : Prop extends TxF mg where
  c_GREATEST_MOST : ∃ t, mg "GREATEST_MOST" = some (.int 6 t)
/-- all but x stays -/
def Off (x : Addr) (H H' : Hp) : Prop := ∀ a o, a ≠ x → H a = some o → H' a = some o
def spCheckP : Sp := fun vs H Q _ => ∃ p : Int, vs = [.int p] ∧ 1 ≤ p ∧ p ≤ 3 ∧ ∀ H', Ex H H' → Q .non H'
def spI1 (C : Addr) : Sp := fun vs H Q _ => ∃ x dx p, vs = [.ref x, .int p] ∧ H x = some (.ins C dx []) ∧ 1 ≤ p ∧ p ≤ 3 ∧ ∀ H', Off x H H' → H' x = some (.ins C dx [("places", .int p)]) → Q .non H'
def spIT (C : Addr) : Sp := fun vs H Q _ => ∃ x dx m, vs = [.ref x, .int m] ∧ H x = some (.ins C dx []) ∧ 0 ≤ m ∧ m ≤ 6 ∧ ∀ H', Off x H H' → H' x = some (.ins C dx [("places", .int 1), ("most", .int m)]) → Q .non H'
def spIC (c : KC) : Sp := fun vs H Q _ => ∃ x dx y i dy fs p, vs = [.ref x, .ref y] ∧ H x = some (.ins (c .co) dx []) ∧ H y = some (.ins (c i) dy fs) ∧ fs.lookup ("places" : Str) = some (V.int p) ∧ ∀ H', Off x H H' → H' x = some (.ins (c .co) dx [("places", .int p), ("kind", .ref y)]) → Q .non H'
def spIP (c : KC) : Sp := fun vs H Q _ => ∃ x dx z y1 i1 d1 f1 y2 i2 d2 f2 p, vs = [.ref x, .str z, .ref y1, .ref y2] ∧ H x = some (.ins (c .pa) dx []) ∧ y1 ≠ x ∧ H y1 = some (.ins (c i1) d1 f1) ∧ f1.lookup ("places" : Str) = some (V.int p) ∧ H y2 = some (.ins (c i2) d2 f2) ∧ f2.lookup ("places" : Str) = some (V.int p) ∧
  ∀ H', Off x H H' → H' x = some (.ins (c .pa) dx [("places", .int p), ("word", .str z), ("one", .ref y1), ("other", .ref y2)]) → Q .non H'
def spInv (K : PySem.W.Frag) (c : KC) : Sp := fun vs H Q _ => ∃ x k L, vs = [.ref x] ∧ Hid L H ∧ Kin c (W L H) k x ∧ ∀ y H', H y = none → Ex H H' → Kin c (W L H') (.no k) y → Q (.ref y) H'
def spPr (c : KC) (f : Kd → Kd → Kd) : Sp := fun vs H Q _ => ∃ x y k m L, vs = [.ref x, .ref y] ∧ Hid L H ∧ Kin c (W L H) k x ∧ Kin c (W L H) m y ∧ placesK k = placesK m ∧ ∀ z H', H z = none → Ex H H' → Kin c (W L H') (f k m) z → Q (.ref z) H'
section
variable {P : Program} {w : World} {K : PySem.W.Frag} {mg : Str → Option Value} {base : Heap} {c : KC}
theorem off_upd {x : Addr} {H : Hp} {o : HO} : Off x H (upd H x o) := fun a u n h => by
  rw [upd_ne n]
  exact h
theorem Off.of {x : Addr} {H H' : Hp} (e : Ex H H') : Off x H H' := fun a o _ h => e a o h
theorem Off.trans {x : Addr} {H H1 H2 : Hp} (a : Off x H H1) (b : Off x H1 H2) : Off x H H2 := fun d o n h => b d o n (a d o n h)
theorem ok_checkP {f : Addr} {fd : FuncData} (F : Fun K "_check_number_of_places" "_check_number_of_places" s_check_number_of_places f fd) (T : TxK mg) (D_is_number_of_places : DefAt P w K mg base "is_number_of_places" 2 ["thing"] (spB K isN)) : FnOk P w K mg base CX0 3 f fd ["places"] spCheckP := by
  refine F.ok sc_check_number_of_places (fun vs H Q E h => ?_) (fun cdv A outer s H vs Q E hr h => ?_)
  · obtain ⟨_, rfl, _⟩ := h
    rfl
  · obtain ⟨p, rfl, p1, p3, k⟩ := h
    refine ⟨_, (pss_one (ps_if (pt_not (pt_val (pe_callD D_is_number_of_places (by first | exact hr | exact hr.mono (by decide) | exact hr.mono (by omega)) (by rfl) (pa_cons (pv 0) pa_nil)))) (pss_one ps_never) pss_nil)), ?_⟩
    have hN : isN (.int p) = true := by
      show (decide (1 ≤ p) && decide (p ≤ 3)) = true
      simp [p1, p3]
    exact Evl.s_when (D := { nx := fun _ H' => Q .non H', rt := Q }) (b := false) (Evl.et_is (Evl.et_not (Evl.et_B (ev_spB (K := K) (d := .int p) (Evl.ev_var (v := .int p) rfl) (.int p)))) (by rw [hN]; rfl)) (fun z => nomatch z) (fun _ H1 e1 => k H1 e1)
theorem ok_Halves_init {f : Addr} {fd : FuncData} (F : Fun K "__init__" "Halves.__init__" s_Halves_init f fd) (T : TxK mg) (S : KCl K c) (D_check_number_of_places : DefAt P w K mg base "_check_number_of_places" 3 ["places"] spCheckP) : FnOk P w K mg base CX0 4 f fd ["self", "places"] (spI1 (c .ha)) := by
  refine F.ok sc_Halves_init (fun vs H Q E h => ?_) (fun cdv A outer s H vs Q E hr h => ?_)
  · obtain ⟨_, _, _, rfl, _⟩ := h
    rfl
  · obtain ⟨x, dx, p, rfl, hx, p1, p3, k⟩ := h
    refine ⟨_, (pss_cons (ps_expr (pe_callD D_check_number_of_places (by first | exact hr | exact hr.mono (by decide) | exact hr.mono (by omega)) (by rfl) (pa_cons (pv 1) pa_nil)))
    (pss_one (ps_fld (pv 0) (pv 1) rfl))), ?_⟩
    refine ⟨_, rfl, p, rfl, p1, p3, fun H1 e1 => ?_⟩
    refine ⟨_, rfl, _, rfl, x, c .ha, dx, [], rfl, e1 x _ hx, S.cl _, S.na _ _ (by decide), by decide, ?_⟩
    exact k _ ((Off.of e1).trans off_upd) upd_same
theorem ok_Boxes_init {f : Addr} {fd : FuncData} (F : Fun K "__init__" "Boxes.__init__" s_Boxes_init f fd) (T : TxK mg) (S : KCl K c) (D_check_number_of_places : DefAt P w K mg base "_check_number_of_places" 3 ["places"] spCheckP) : FnOk P w K mg base CX0 4 f fd ["self", "places"] (spI1 (c .bo)) := by
  refine F.ok sc_Boxes_init (fun vs H Q E h => ?_) (fun cdv A outer s H vs Q E hr h => ?_)
  · obtain ⟨_, _, _, rfl, _⟩ := h
    rfl
  · obtain ⟨x, dx, p, rfl, hx, p1, p3, k⟩ := h
    refine ⟨_, (pss_cons (ps_expr (pe_callD D_check_number_of_places (by first | exact hr | exact hr.mono (by decide) | exact hr.mono (by omega)) (by rfl) (pa_cons (pv 1) pa_nil)))
    (pss_one (ps_fld (pv 0) (pv 1) rfl))), ?_⟩
    refine ⟨_, rfl, p, rfl, p1, p3, fun H1 e1 => ?_⟩
    refine ⟨_, rfl, _, rfl, x, c .bo, dx, [], rfl, e1 x _ hx, S.cl _, S.na _ _ (by decide), by decide, ?_⟩
    exact k _ ((Off.of e1).trans off_upd) upd_same
theorem ok_Rising_init {f : Addr} {fd : FuncData} (F : Fun K "__init__" "Rising.__init__" s_Rising_init f fd) (T : TxK mg) (S : KCl K c) (D_check_number_of_places : DefAt P w K mg base "_check_number_of_places" 3 ["places"] spCheckP) : FnOk P w K mg base CX0 4 f fd ["self", "places"] (spI1 (c .ri)) := by
  refine F.ok sc_Rising_init (fun vs H Q E h => ?_) (fun cdv A outer s H vs Q E hr h => ?_)
  · obtain ⟨_, _, _, rfl, _⟩ := h
    rfl
  · obtain ⟨x, dx, p, rfl, hx, p1, p3, k⟩ := h
    refine ⟨_, (pss_cons (ps_expr (pe_callD D_check_number_of_places (by first | exact hr | exact hr.mono (by decide) | exact hr.mono (by omega)) (by rfl) (pa_cons (pv 1) pa_nil)))
    (pss_one (ps_fld (pv 0) (pv 1) rfl))), ?_⟩
    refine ⟨_, rfl, p, rfl, p1, p3, fun H1 e1 => ?_⟩
    refine ⟨_, rfl, _, rfl, x, c .ri, dx, [], rfl, e1 x _ hx, S.cl _, S.na _ _ (by decide), by decide, ?_⟩
    exact k _ ((Off.of e1).trans off_upd) upd_same
theorem ok_Flats_init {f : Addr} {fd : FuncData} (F : Fun K "__init__" "Flats.__init__" s_Flats_init f fd) (T : TxK mg) (S : KCl K c) (D_check_number_of_places : DefAt P w K mg base "_check_number_of_places" 3 ["places"] spCheckP) : FnOk P w K mg base CX0 4 f fd ["self", "places"] (spI1 (c .fl)) := by
  refine F.ok sc_Flats_init (fun vs H Q E h => ?_) (fun cdv A outer s H vs Q E hr h => ?_)
  · obtain ⟨_, _, _, rfl, _⟩ := h
    rfl
  · obtain ⟨x, dx, p, rfl, hx, p1, p3, k⟩ := h
    refine ⟨_, (pss_cons (ps_expr (pe_callD D_check_number_of_places (by first | exact hr | exact hr.mono (by decide) | exact hr.mono (by omega)) (by rfl) (pa_cons (pv 1) pa_nil)))
    (pss_one (ps_fld (pv 0) (pv 1) rfl))), ?_⟩
    refine ⟨_, rfl, p, rfl, p1, p3, fun H1 e1 => ?_⟩
    refine ⟨_, rfl, _, rfl, x, c .fl, dx, [], rfl, e1 x _ hx, S.cl _, S.na _ _ (by decide), by decide, ?_⟩
    exact k _ ((Off.of e1).trans off_upd) upd_same
theorem ok_Turns_init {f : Addr} {fd : FuncData} (F : Fun K "__init__" "Turns.__init__" s_Turns_init f fd) (T : TxK mg) (S : KCl K c) (D_is_integer : DefAt P w K mg base "is_integer" 1 ["thing"] (spB K isI)) : FnOk P w K mg base CX0 2 f fd ["self", "most"] (spIT (c .tu)) := by
  refine F.ok sc_Turns_init (fun vs H Q E h => ?_) (fun cdv A outer s H vs Q E hr h => ?_)
  · obtain ⟨_, _, _, rfl, _⟩ := h
    rfl
  · obtain ⟨x, dx, m, rfl, hx, m0, m6, k⟩ := h
    refine ⟨_, (pss_cons (ps_if (PW.pt (pw_or (pt_not (pt_val (pe_callD D_is_integer (by first | exact hr | exact hr.mono (by decide) | exact hr.mono (by omega)) (by rfl) (pa_cons (pv 1) pa_nil)))) (pw_or1 (pt_not (pt_chain op_le op_le pe_int (pv 1) (pe_glob (v := .int 6) (by rfl) T.c_GREATEST_MOST.choose_spec (by exact ⟨_, rfl⟩))))))) (pss_one ps_never) pss_nil)
    (pss_cons (ps_fld (pv 0) pe_int rfl)
    (pss_one (ps_fld (pv 0) (pv 1) rfl)))), ?_⟩
    have v1 : Evl.Ev (tVar 1) (start sc_Turns_init_N [.ref x, .int m]) H (.int m) := Evl.ev_var rfl
    refine Evl.q_when (b := false) (Evl.et_is (Evl.et_or (a := false) (b := false) (Evl.et_is (Evl.et_not (Evl.et_B (ev_spB (K := K) (d := .int m) v1 (.int m)))) rfl) fun _ => Evl.et_is (Evl.et_not (Evl.et_is (b := true) (Evl.et_test (ev_chain (k := decide (0 ≤ m)) (l := decide (m ≤ 6)) Evl.ev_c v1 (Evl.rv_I0 (g := fun a b => .bl (decide (a ≤ b)))) (fun _ => Evl.ev_c) (fun _ => Evl.rv_I0 (g := fun a b => .bl (decide (a ≤ b)))) (fun z => absurd m0 (of_decide_eq_false z)))) (decide_eq_true m6))) rfl) rfl) (fun z => nomatch z) (fun _ H1 e1 => ?_)
    refine ⟨_, rfl, x, c .tu, dx, [], rfl, e1 x _ hx, S.cl _, S.na _ _ (by decide), by decide, ?_⟩
    refine ⟨_, rfl, _, rfl, x, c .tu, dx, _, rfl, upd_same, S.cl _, S.na _ _ (by decide), by show 1 < 1000; omega, ?_⟩
    exact k _ (((Off.of e1).trans off_upd).trans off_upd) upd_same
theorem ok_Contrary_init {f : Addr} {fd : FuncData} (F : Fun K "__init__" "Contrary.__init__" s_Contrary_init f fd) (S : KCl K c) : FnOk P w K mg base CX0 1 f fd ["self", "kind"] (spIC c) := by
  refine F.ok sc_Contrary_init (fun vs H Q E h => ?_) (fun cdv A outer s H vs Q E hr h => ?_)
  · obtain ⟨_, _, _, _, _, _, _, rfl, _⟩ := h
    rfl
  · obtain ⟨x, dx, y, i, dy, fs, p, rfl, hx, hy, hp, k⟩ := h
    refine ⟨_, (pss_cons (ps_fld (pv 0) (pe_fld (pv 1) rfl) rfl)
    (pss_one (ps_fld (pv 0) (pv 1) rfl))), ?_⟩
    refine ⟨_, rfl, y, c i, dy, fs, .int p, rfl, hy, S.cl _, S.na _ _ (by decide), hp, _, rfl, x, c .co, dx, [], rfl, hx, S.cl _, S.na _ _ (by decide), by decide, ?_⟩
    refine ⟨_, rfl, _, rfl, x, c .co, dx, _, rfl, upd_same, S.cl _, S.na _ _ (by decide), by show 1 < 1000; omega, ?_⟩
    exact k _ (off_upd.trans off_upd) upd_same
theorem ok_Pair_init {f : Addr} {fd : FuncData} (F : Fun K "__init__" "Pair.__init__" s_Pair_init f fd) (S : KCl K c) : FnOk P w K mg base CX0 1 f fd ["self", "word", "one", "other"] (spIP c) := by
  refine F.ok sc_Pair_init (fun vs H Q E h => ?_) (fun cdv A outer s H vs Q E hr h => ?_)
  · obtain ⟨_, _, _, _, _, _, _, _, _, _, _, _, rfl, _⟩ := h
    rfl
  · obtain ⟨x, dx, z, y1, i1, d1, f1, y2, i2, d2, f2, p, rfl, hx, ne, h1, hp1, h2, hp2, k⟩ := h
    refine ⟨_, (pss_cons (ps_if (pt_cmpR op_ne (pe_fld (pv 2) rfl) (pe_fld (pv 3) rfl) (nomark _)) (pss_one ps_never) pss_nil)
    (pss_cons (ps_fld (pv 0) (pe_fld (pv 2) rfl) rfl)
    (pss_cons (ps_fld (pv 0) (pv 1) rfl)
    (pss_cons (ps_fld (pv 0) (pv 2) rfl)
    (pss_one (ps_fld (pv 0) (pv 3) rfl)))))), ?_⟩
    have a1 : Evl.Ev (tFld K (tVar 2) "places") (start sc_Pair_init_N [.ref x, .str z, .ref y1, .ref y2]) H (.int p) := ev_fld (Evl.ev_var (v := .ref y1) rfl) h1 (S.cl _) (S.na _ _ (by decide)) hp1
    have a2 : Evl.Ev (tFld K (tVar 3) "places") (start sc_Pair_init_N [.ref x, .str z, .ref y1, .ref y2]) H (.int p) := ev_fld (Evl.ev_var (v := .ref y2) rfl) h2 (S.cl _) (S.na _ _ (by decide)) hp2
    refine Evl.q_when (b := false) (Evl.et_is (Evl.et_test (Evl.ev_op a1 a2 (Evl.rv_ne rfl))) (by simp)) (fun z => nomatch z) (fun _ H1 e1 => ?_)
    refine ⟨_, rfl, y1, c i1, d1, f1, .int p, rfl, e1 _ _ h1, S.cl _, S.na _ _ (by decide), hp1, _, rfl, x, c .pa, dx, [], rfl, e1 _ _ hx, S.cl _, S.na _ _ (by decide), by decide, ?_⟩
    refine ⟨_, rfl, _, rfl, x, c .pa, dx, _, rfl, upd_same, S.cl _, S.na _ _ (by decide), by show 1 < 1000; omega, ?_⟩
    refine ⟨_, rfl, _, rfl, x, c .pa, dx, _, rfl, upd_same, S.cl _, S.na _ _ (by decide), by show 2 < 1000; omega, ?_⟩
    refine ⟨_, rfl, _, rfl, x, c .pa, dx, _, rfl, upd_same, S.cl _, S.na _ _ (by decide), by show 3 < 1000; omega, ?_⟩
    exact k _ (((((Off.of e1).trans off_upd).trans off_upd).trans off_upd).trans off_upd) upd_same
/-- evaluates to a new instance for the kind -/
def EvK (c : KC) (L : List Addr) (te : TE) (σ : L2.St) (H : Hp) (k : Kd) : Prop := ∀ H1, Ex H H1 → ∀ Q : VK, (∀ x H2, H1 x = none → Ex H1 H2 → Kin c (W L H2) k x → Q (.ref x) H2) → te σ H1 Q
section
variable {σ : L2.St} {H : Hp} {L : List Addr} {te ta tb : TE} {C : Addr} {p m : Int} {k k2 : Kd} {x y : Addr}
theorem new_ex {H3 H' : Hp} {x dx : Addr} {o : HO} (hx : H3 x = none) (hdx : H3 dx = none) (ne : dx ≠ x) (b : Off x (upd (upd H3 dx (.own x)) x o) H') : Ex H3 H' := fun a u h => by
  have n1 : a ≠ x := ne_of_none h hx
  have n2 : a ≠ dx := ne_of_none h hdx
  exact b a u n1 (by rw [upd_ne n1, upd_ne n2]; exact h)
theorem mk_1 {i : KI} (h : Evl.Ev te σ H (.int p)) (hL : Hid L H) (p1 : 1 ≤ p) (p3 : p ≤ 3) (hk : ∀ H' x dx, H' x = some (.ins (c i) dx [("places", .int p)]) → Kin c H' k x) : EvK c L (tMake (c i) (spI1 (c i)) [] E0 (tCons te tNil)) σ H k := fun H1 e Q q =>
  h H1 e _ fun H2 e2 x dx hx hdx ne => ⟨x, dx, p, rfl, upd_same, p1, p3, fun H' b hf => ⟨rfl, q x H' (Evl.fresh_back e2 hx) (e2.trans (new_ex hx hdx ne b)) (hk _ x dx (w_of (hid_not (hid_ex (e.trans e2) hL) hx) hf))⟩⟩
theorem mk_T (h : Evl.Ev te σ H (.int m)) (hL : Hid L H) (m0 : 0 ≤ m) (m6 : m ≤ 6) : EvK c L (tMake (c .tu) (spIT (c .tu)) [] E0 (tCons te tNil)) σ H (.turns m) := fun H1 e Q q =>
  h H1 e _ fun H2 e2 x dx hx hdx ne => ⟨x, dx, m, rfl, upd_same, m0, m6, fun H' b hf => ⟨rfl, q x H' (Evl.fresh_back e2 hx) (e2.trans (new_ex hx hdx ne b)) ⟨dx, w_of (hid_not (hid_ex (e.trans e2) hL) hx) hf⟩⟩⟩
theorem mk_C (h : Evl.Ev te σ H (.ref y)) (hL : Hid L H) (hk : Kin c (W L H) k y) : EvK c L (tMake (c .co) (spIC c) [] E0 (tCons te tNil)) σ H (.no k) := fun H1 e Q q =>
  h H1 e _ fun H2 e2 x dx hx hdx ne => by
    have hk2 := hk.up (w_ex (e.trans e2))
    obtain ⟨dy, fs, hy, hp⟩ := hk2.ins
    have hy2 := (w_in hy).1
    have eN : Ex H2 (upd (upd H2 dx (.own x)) x (.ins (c .co) dx [])) := new_ex hx hdx ne (fun _ _ _ h => h)
    refine ⟨x, dx, y, kiOf k, dy, fs, placesK k, rfl, upd_same, eN _ _ hy2, hp, fun H' b hf => ⟨rfl, q x H' (Evl.fresh_back e2 hx) (e2.trans (new_ex hx hdx ne b)) ⟨dx, y, w_of (hid_not (hid_ex (e.trans e2) hL) hx) hf, hk2.up (w_ex (new_ex hx hdx ne b))⟩⟩⟩
theorem mk_P {z : Str} {f : Kd} (hz : Evl.Ev te σ H (.str z)) (h1 : Evl.Ev ta σ H (.ref x)) (h2 : Evl.Ev tb σ H (.ref y)) (hL : Hid L H) (hk : Kin c (W L H) k x) (hk2 : Kin c (W L H) k2 y) (hp : placesK k = placesK k2)
    (hf : ∀ H' u dx, H' u = some (.ins (c .pa) dx [("places", .int (placesK k)), ("word", .str z), ("one", .ref x), ("other", .ref y)]) → Kin c H' k x → Kin c H' k2 y → Kin c H' f u) : EvK c L (tMake (c .pa) (spIP c) [] E0 (tCons te (tCons ta (tCons tb tNil)))) σ H f := fun H1 e Q q =>
  hz H1 e _ fun H2 e2 => h1 H2 (e.trans e2) _ fun H3 e3 => h2 H3 ((e.trans e2).trans e3) _ fun H4 e4 u dx hu hdx ne => by
    have eA := ((e.trans e2).trans e3).trans e4
    have a1 := hk.up (w_ex eA)
    have a2 := hk2.up (w_ex eA)
    obtain ⟨d1, f1, y1, q1⟩ := a1.ins
    obtain ⟨d2, f2, y2, q2⟩ := a2.ins
    have z1 := (w_in y1).1
    have z2 := (w_in y2).1
    have eN : Ex H4 (upd (upd H4 dx (.own u)) u (.ins (c .pa) dx [])) := new_ex hu hdx ne (fun _ _ _ h => h)
    rw [← hp] at q2
    refine ⟨u, dx, z, x, kiOf k, d1, f1, y, kiOf k2, d2, f2, placesK k, rfl, upd_same, ne_of_none z1 hu, eN _ _ z1, q1, eN _ _ z2, q2, fun H' b hx => ⟨rfl, q u H' (Evl.fresh_back ((e2.trans e3).trans e4) hu) (((e2.trans e3).trans e4).trans (new_ex hu hdx ne b)) ?_⟩⟩
    exact hf _ u dx (w_of (hid_not (hid_ex eA hL) hu) hx) (a1.up (w_ex (new_ex hu hdx ne b))) (a2.up (w_ex (new_ex hu hdx ne b)))
end
theorem ok_Halves_invert {f : Addr} {fd : FuncData} (F : Fun K "__invert__" "Halves.__invert__" s_Halves_invert f fd) (N_Contrary : Mak P w K mg base 1 "Contrary" (c .co) (spIC c) []) : FnOk P w K mg base CX0 3 f fd ["self"] (spInv K c) := by
  refine F.ok sc_Halves_invert (fun vs H Q E h => ?_) (fun cdv A outer s H vs Q E hr h => ?_)
  · obtain ⟨_, _, _, rfl, _⟩ := h
    rfl
  · obtain ⟨x, k, L, rfl, hL, hk, kk⟩ := h
    refine ⟨_, (pss_one (ps_ret (pe_mk N_Contrary hr (by decide) (by rfl) (pa_cons (pv 0) pa_nil)))), ?_⟩
    exact mk_C (Evl.ev_var (v := .ref x) rfl) hL hk H (Ex.refl H) _ kk
theorem ok_Halves_and {f : Addr} {fd : FuncData} (F : Fun K "__and__" "Halves.__and__" s_Halves_and f fd) (N_Pair : Mak P w K mg base 1 "Pair" (c .pa) (spIP c) []) : FnOk P w K mg base CX0 3 f fd ["self", "other"] (spPr c .both) := by
  refine F.ok sc_Halves_and (fun vs H Q E h => ?_) (fun cdv A outer s H vs Q E hr h => ?_)
  · obtain ⟨_, _, _, _, _, rfl, _⟩ := h
    rfl
  · obtain ⟨x, y, k, m, L, rfl, hL, hk, hm, hp, kk⟩ := h
    refine ⟨_, (pss_one (ps_ret (pe_mk N_Pair hr (by decide) (by rfl) (pa_cons pe_str (pa_cons (pv 0) (pa_cons (pv 1) pa_nil)))))), ?_⟩
    exact mk_P (z := "both") (f := .both k m) Evl.ev_c (Evl.ev_var (v := .ref x) rfl) (Evl.ev_var (v := .ref y) rfl) hL hk hm hp (fun H' u dx h a b => ⟨dx, x, y, h, a, b⟩) H (Ex.refl H) _ kk
theorem ok_Halves_or {f : Addr} {fd : FuncData} (F : Fun K "__or__" "Halves.__or__" s_Halves_or f fd) (N_Pair : Mak P w K mg base 1 "Pair" (c .pa) (spIP c) []) : FnOk P w K mg base CX0 3 f fd ["self", "other"] (spPr c .either) := by
  refine F.ok sc_Halves_or (fun vs H Q E h => ?_) (fun cdv A outer s H vs Q E hr h => ?_)
  · obtain ⟨_, _, _, _, _, rfl, _⟩ := h
    rfl
  · obtain ⟨x, y, k, m, L, rfl, hL, hk, hm, hp, kk⟩ := h
    refine ⟨_, (pss_one (ps_ret (pe_mk N_Pair hr (by decide) (by rfl) (pa_cons pe_str (pa_cons (pv 0) (pa_cons (pv 1) pa_nil)))))), ?_⟩
    exact mk_P (z := "either") (f := .either k m) Evl.ev_c (Evl.ev_var (v := .ref x) rfl) (Evl.ev_var (v := .ref y) rfl) hL hk hm hp (fun H' u dx h a b => ⟨dx, x, y, h, a, b⟩) H (Ex.refl H) _ kk
theorem ok_Halves_add {f : Addr} {fd : FuncData} (F : Fun K "__add__" "Halves.__add__" s_Halves_add f fd) (N_Pair : Mak P w K mg base 1 "Pair" (c .pa) (spIP c) []) : FnOk P w K mg base CX0 3 f fd ["self", "other"] (spPr c .any) := by
  refine F.ok sc_Halves_add (fun vs H Q E h => ?_) (fun cdv A outer s H vs Q E hr h => ?_)
  · obtain ⟨_, _, _, _, _, rfl, _⟩ := h
    rfl
  · obtain ⟨x, y, k, m, L, rfl, hL, hk, hm, hp, kk⟩ := h
    refine ⟨_, (pss_one (ps_ret (pe_mk N_Pair hr (by decide) (by rfl) (pa_cons pe_str (pa_cons (pv 0) (pa_cons (pv 1) pa_nil)))))), ?_⟩
    exact mk_P (z := "any") (f := .any k m) Evl.ev_c (Evl.ev_var (v := .ref x) rfl) (Evl.ev_var (v := .ref y) rfl) hL hk hm hp (fun H' u dx h a b => ⟨dx, x, y, h, a, b⟩) H (Ex.refl H) _ kk
theorem ok_Boxes_invert {f : Addr} {fd : FuncData} (F : Fun K "__invert__" "Boxes.__invert__" s_Boxes_invert f fd) (N_Contrary : Mak P w K mg base 1 "Contrary" (c .co) (spIC c) []) : FnOk P w K mg base CX0 3 f fd ["self"] (spInv K c) := by
  refine F.ok sc_Boxes_invert (fun vs H Q E h => ?_) (fun cdv A outer s H vs Q E hr h => ?_)
  · obtain ⟨_, _, _, rfl, _⟩ := h
    rfl
  · obtain ⟨x, k, L, rfl, hL, hk, kk⟩ := h
    refine ⟨_, (pss_one (ps_ret (pe_mk N_Contrary hr (by decide) (by rfl) (pa_cons (pv 0) pa_nil)))), ?_⟩
    exact mk_C (Evl.ev_var (v := .ref x) rfl) hL hk H (Ex.refl H) _ kk
theorem ok_Boxes_and {f : Addr} {fd : FuncData} (F : Fun K "__and__" "Boxes.__and__" s_Boxes_and f fd) (N_Pair : Mak P w K mg base 1 "Pair" (c .pa) (spIP c) []) : FnOk P w K mg base CX0 3 f fd ["self", "other"] (spPr c .both) := by
  refine F.ok sc_Boxes_and (fun vs H Q E h => ?_) (fun cdv A outer s H vs Q E hr h => ?_)
  · obtain ⟨_, _, _, _, _, rfl, _⟩ := h
    rfl
  · obtain ⟨x, y, k, m, L, rfl, hL, hk, hm, hp, kk⟩ := h
    refine ⟨_, (pss_one (ps_ret (pe_mk N_Pair hr (by decide) (by rfl) (pa_cons pe_str (pa_cons (pv 0) (pa_cons (pv 1) pa_nil)))))), ?_⟩
    exact mk_P (z := "both") (f := .both k m) Evl.ev_c (Evl.ev_var (v := .ref x) rfl) (Evl.ev_var (v := .ref y) rfl) hL hk hm hp (fun H' u dx h a b => ⟨dx, x, y, h, a, b⟩) H (Ex.refl H) _ kk
theorem ok_Boxes_or {f : Addr} {fd : FuncData} (F : Fun K "__or__" "Boxes.__or__" s_Boxes_or f fd) (N_Pair : Mak P w K mg base 1 "Pair" (c .pa) (spIP c) []) : FnOk P w K mg base CX0 3 f fd ["self", "other"] (spPr c .either) := by
  refine F.ok sc_Boxes_or (fun vs H Q E h => ?_) (fun cdv A outer s H vs Q E hr h => ?_)
  · obtain ⟨_, _, _, _, _, rfl, _⟩ := h
    rfl
  · obtain ⟨x, y, k, m, L, rfl, hL, hk, hm, hp, kk⟩ := h
    refine ⟨_, (pss_one (ps_ret (pe_mk N_Pair hr (by decide) (by rfl) (pa_cons pe_str (pa_cons (pv 0) (pa_cons (pv 1) pa_nil)))))), ?_⟩
    exact mk_P (z := "either") (f := .either k m) Evl.ev_c (Evl.ev_var (v := .ref x) rfl) (Evl.ev_var (v := .ref y) rfl) hL hk hm hp (fun H' u dx h a b => ⟨dx, x, y, h, a, b⟩) H (Ex.refl H) _ kk
theorem ok_Boxes_add {f : Addr} {fd : FuncData} (F : Fun K "__add__" "Boxes.__add__" s_Boxes_add f fd) (N_Pair : Mak P w K mg base 1 "Pair" (c .pa) (spIP c) []) : FnOk P w K mg base CX0 3 f fd ["self", "other"] (spPr c .any) := by
  refine F.ok sc_Boxes_add (fun vs H Q E h => ?_) (fun cdv A outer s H vs Q E hr h => ?_)
  · obtain ⟨_, _, _, _, _, rfl, _⟩ := h
    rfl
  · obtain ⟨x, y, k, m, L, rfl, hL, hk, hm, hp, kk⟩ := h
    refine ⟨_, (pss_one (ps_ret (pe_mk N_Pair hr (by decide) (by rfl) (pa_cons pe_str (pa_cons (pv 0) (pa_cons (pv 1) pa_nil)))))), ?_⟩
    exact mk_P (z := "any") (f := .any k m) Evl.ev_c (Evl.ev_var (v := .ref x) rfl) (Evl.ev_var (v := .ref y) rfl) hL hk hm hp (fun H' u dx h a b => ⟨dx, x, y, h, a, b⟩) H (Ex.refl H) _ kk
theorem ok_Rising_invert {f : Addr} {fd : FuncData} (F : Fun K "__invert__" "Rising.__invert__" s_Rising_invert f fd) (N_Contrary : Mak P w K mg base 1 "Contrary" (c .co) (spIC c) []) : FnOk P w K mg base CX0 3 f fd ["self"] (spInv K c) := by
  refine F.ok sc_Rising_invert (fun vs H Q E h => ?_) (fun cdv A outer s H vs Q E hr h => ?_)
  · obtain ⟨_, _, _, rfl, _⟩ := h
    rfl
  · obtain ⟨x, k, L, rfl, hL, hk, kk⟩ := h
    refine ⟨_, (pss_one (ps_ret (pe_mk N_Contrary hr (by decide) (by rfl) (pa_cons (pv 0) pa_nil)))), ?_⟩
    exact mk_C (Evl.ev_var (v := .ref x) rfl) hL hk H (Ex.refl H) _ kk
theorem ok_Rising_and {f : Addr} {fd : FuncData} (F : Fun K "__and__" "Rising.__and__" s_Rising_and f fd) (N_Pair : Mak P w K mg base 1 "Pair" (c .pa) (spIP c) []) : FnOk P w K mg base CX0 3 f fd ["self", "other"] (spPr c .both) := by
  refine F.ok sc_Rising_and (fun vs H Q E h => ?_) (fun cdv A outer s H vs Q E hr h => ?_)
  · obtain ⟨_, _, _, _, _, rfl, _⟩ := h
    rfl
  · obtain ⟨x, y, k, m, L, rfl, hL, hk, hm, hp, kk⟩ := h
    refine ⟨_, (pss_one (ps_ret (pe_mk N_Pair hr (by decide) (by rfl) (pa_cons pe_str (pa_cons (pv 0) (pa_cons (pv 1) pa_nil)))))), ?_⟩
    exact mk_P (z := "both") (f := .both k m) Evl.ev_c (Evl.ev_var (v := .ref x) rfl) (Evl.ev_var (v := .ref y) rfl) hL hk hm hp (fun H' u dx h a b => ⟨dx, x, y, h, a, b⟩) H (Ex.refl H) _ kk
theorem ok_Rising_or {f : Addr} {fd : FuncData} (F : Fun K "__or__" "Rising.__or__" s_Rising_or f fd) (N_Pair : Mak P w K mg base 1 "Pair" (c .pa) (spIP c) []) : FnOk P w K mg base CX0 3 f fd ["self", "other"] (spPr c .either) := by
  refine F.ok sc_Rising_or (fun vs H Q E h => ?_) (fun cdv A outer s H vs Q E hr h => ?_)
  · obtain ⟨_, _, _, _, _, rfl, _⟩ := h
    rfl
  · obtain ⟨x, y, k, m, L, rfl, hL, hk, hm, hp, kk⟩ := h
    refine ⟨_, (pss_one (ps_ret (pe_mk N_Pair hr (by decide) (by rfl) (pa_cons pe_str (pa_cons (pv 0) (pa_cons (pv 1) pa_nil)))))), ?_⟩
    exact mk_P (z := "either") (f := .either k m) Evl.ev_c (Evl.ev_var (v := .ref x) rfl) (Evl.ev_var (v := .ref y) rfl) hL hk hm hp (fun H' u dx h a b => ⟨dx, x, y, h, a, b⟩) H (Ex.refl H) _ kk
theorem ok_Rising_add {f : Addr} {fd : FuncData} (F : Fun K "__add__" "Rising.__add__" s_Rising_add f fd) (N_Pair : Mak P w K mg base 1 "Pair" (c .pa) (spIP c) []) : FnOk P w K mg base CX0 3 f fd ["self", "other"] (spPr c .any) := by
  refine F.ok sc_Rising_add (fun vs H Q E h => ?_) (fun cdv A outer s H vs Q E hr h => ?_)
  · obtain ⟨_, _, _, _, _, rfl, _⟩ := h
    rfl
  · obtain ⟨x, y, k, m, L, rfl, hL, hk, hm, hp, kk⟩ := h
    refine ⟨_, (pss_one (ps_ret (pe_mk N_Pair hr (by decide) (by rfl) (pa_cons pe_str (pa_cons (pv 0) (pa_cons (pv 1) pa_nil)))))), ?_⟩
    exact mk_P (z := "any") (f := .any k m) Evl.ev_c (Evl.ev_var (v := .ref x) rfl) (Evl.ev_var (v := .ref y) rfl) hL hk hm hp (fun H' u dx h a b => ⟨dx, x, y, h, a, b⟩) H (Ex.refl H) _ kk
theorem ok_Flats_invert {f : Addr} {fd : FuncData} (F : Fun K "__invert__" "Flats.__invert__" s_Flats_invert f fd) (N_Contrary : Mak P w K mg base 1 "Contrary" (c .co) (spIC c) []) : FnOk P w K mg base CX0 3 f fd ["self"] (spInv K c) := by
  refine F.ok sc_Flats_invert (fun vs H Q E h => ?_) (fun cdv A outer s H vs Q E hr h => ?_)
  · obtain ⟨_, _, _, rfl, _⟩ := h
    rfl
  · obtain ⟨x, k, L, rfl, hL, hk, kk⟩ := h
    refine ⟨_, (pss_one (ps_ret (pe_mk N_Contrary hr (by decide) (by rfl) (pa_cons (pv 0) pa_nil)))), ?_⟩
    exact mk_C (Evl.ev_var (v := .ref x) rfl) hL hk H (Ex.refl H) _ kk
theorem ok_Flats_and {f : Addr} {fd : FuncData} (F : Fun K "__and__" "Flats.__and__" s_Flats_and f fd) (N_Pair : Mak P w K mg base 1 "Pair" (c .pa) (spIP c) []) : FnOk P w K mg base CX0 3 f fd ["self", "other"] (spPr c .both) := by
  refine F.ok sc_Flats_and (fun vs H Q E h => ?_) (fun cdv A outer s H vs Q E hr h => ?_)
  · obtain ⟨_, _, _, _, _, rfl, _⟩ := h
    rfl
  · obtain ⟨x, y, k, m, L, rfl, hL, hk, hm, hp, kk⟩ := h
    refine ⟨_, (pss_one (ps_ret (pe_mk N_Pair hr (by decide) (by rfl) (pa_cons pe_str (pa_cons (pv 0) (pa_cons (pv 1) pa_nil)))))), ?_⟩
    exact mk_P (z := "both") (f := .both k m) Evl.ev_c (Evl.ev_var (v := .ref x) rfl) (Evl.ev_var (v := .ref y) rfl) hL hk hm hp (fun H' u dx h a b => ⟨dx, x, y, h, a, b⟩) H (Ex.refl H) _ kk
theorem ok_Flats_or {f : Addr} {fd : FuncData} (F : Fun K "__or__" "Flats.__or__" s_Flats_or f fd) (N_Pair : Mak P w K mg base 1 "Pair" (c .pa) (spIP c) []) : FnOk P w K mg base CX0 3 f fd ["self", "other"] (spPr c .either) := by
  refine F.ok sc_Flats_or (fun vs H Q E h => ?_) (fun cdv A outer s H vs Q E hr h => ?_)
  · obtain ⟨_, _, _, _, _, rfl, _⟩ := h
    rfl
  · obtain ⟨x, y, k, m, L, rfl, hL, hk, hm, hp, kk⟩ := h
    refine ⟨_, (pss_one (ps_ret (pe_mk N_Pair hr (by decide) (by rfl) (pa_cons pe_str (pa_cons (pv 0) (pa_cons (pv 1) pa_nil)))))), ?_⟩
    exact mk_P (z := "either") (f := .either k m) Evl.ev_c (Evl.ev_var (v := .ref x) rfl) (Evl.ev_var (v := .ref y) rfl) hL hk hm hp (fun H' u dx h a b => ⟨dx, x, y, h, a, b⟩) H (Ex.refl H) _ kk
theorem ok_Flats_add {f : Addr} {fd : FuncData} (F : Fun K "__add__" "Flats.__add__" s_Flats_add f fd) (N_Pair : Mak P w K mg base 1 "Pair" (c .pa) (spIP c) []) : FnOk P w K mg base CX0 3 f fd ["self", "other"] (spPr c .any) := by
  refine F.ok sc_Flats_add (fun vs H Q E h => ?_) (fun cdv A outer s H vs Q E hr h => ?_)
  · obtain ⟨_, _, _, _, _, rfl, _⟩ := h
    rfl
  · obtain ⟨x, y, k, m, L, rfl, hL, hk, hm, hp, kk⟩ := h
    refine ⟨_, (pss_one (ps_ret (pe_mk N_Pair hr (by decide) (by rfl) (pa_cons pe_str (pa_cons (pv 0) (pa_cons (pv 1) pa_nil)))))), ?_⟩
    exact mk_P (z := "any") (f := .any k m) Evl.ev_c (Evl.ev_var (v := .ref x) rfl) (Evl.ev_var (v := .ref y) rfl) hL hk hm hp (fun H' u dx h a b => ⟨dx, x, y, h, a, b⟩) H (Ex.refl H) _ kk
theorem ok_Turns_invert {f : Addr} {fd : FuncData} (F : Fun K "__invert__" "Turns.__invert__" s_Turns_invert f fd) (N_Contrary : Mak P w K mg base 1 "Contrary" (c .co) (spIC c) []) : FnOk P w K mg base CX0 3 f fd ["self"] (spInv K c) := by
  refine F.ok sc_Turns_invert (fun vs H Q E h => ?_) (fun cdv A outer s H vs Q E hr h => ?_)
  · obtain ⟨_, _, _, rfl, _⟩ := h
    rfl
  · obtain ⟨x, k, L, rfl, hL, hk, kk⟩ := h
    refine ⟨_, (pss_one (ps_ret (pe_mk N_Contrary hr (by decide) (by rfl) (pa_cons (pv 0) pa_nil)))), ?_⟩
    exact mk_C (Evl.ev_var (v := .ref x) rfl) hL hk H (Ex.refl H) _ kk
theorem ok_Turns_and {f : Addr} {fd : FuncData} (F : Fun K "__and__" "Turns.__and__" s_Turns_and f fd) (N_Pair : Mak P w K mg base 1 "Pair" (c .pa) (spIP c) []) : FnOk P w K mg base CX0 3 f fd ["self", "other"] (spPr c .both) := by
  refine F.ok sc_Turns_and (fun vs H Q E h => ?_) (fun cdv A outer s H vs Q E hr h => ?_)
  · obtain ⟨_, _, _, _, _, rfl, _⟩ := h
    rfl
  · obtain ⟨x, y, k, m, L, rfl, hL, hk, hm, hp, kk⟩ := h
    refine ⟨_, (pss_one (ps_ret (pe_mk N_Pair hr (by decide) (by rfl) (pa_cons pe_str (pa_cons (pv 0) (pa_cons (pv 1) pa_nil)))))), ?_⟩
    exact mk_P (z := "both") (f := .both k m) Evl.ev_c (Evl.ev_var (v := .ref x) rfl) (Evl.ev_var (v := .ref y) rfl) hL hk hm hp (fun H' u dx h a b => ⟨dx, x, y, h, a, b⟩) H (Ex.refl H) _ kk
theorem ok_Turns_or {f : Addr} {fd : FuncData} (F : Fun K "__or__" "Turns.__or__" s_Turns_or f fd) (N_Pair : Mak P w K mg base 1 "Pair" (c .pa) (spIP c) []) : FnOk P w K mg base CX0 3 f fd ["self", "other"] (spPr c .either) := by
  refine F.ok sc_Turns_or (fun vs H Q E h => ?_) (fun cdv A outer s H vs Q E hr h => ?_)
  · obtain ⟨_, _, _, _, _, rfl, _⟩ := h
    rfl
  · obtain ⟨x, y, k, m, L, rfl, hL, hk, hm, hp, kk⟩ := h
    refine ⟨_, (pss_one (ps_ret (pe_mk N_Pair hr (by decide) (by rfl) (pa_cons pe_str (pa_cons (pv 0) (pa_cons (pv 1) pa_nil)))))), ?_⟩
    exact mk_P (z := "either") (f := .either k m) Evl.ev_c (Evl.ev_var (v := .ref x) rfl) (Evl.ev_var (v := .ref y) rfl) hL hk hm hp (fun H' u dx h a b => ⟨dx, x, y, h, a, b⟩) H (Ex.refl H) _ kk
theorem ok_Turns_add {f : Addr} {fd : FuncData} (F : Fun K "__add__" "Turns.__add__" s_Turns_add f fd) (N_Pair : Mak P w K mg base 1 "Pair" (c .pa) (spIP c) []) : FnOk P w K mg base CX0 3 f fd ["self", "other"] (spPr c .any) := by
  refine F.ok sc_Turns_add (fun vs H Q E h => ?_) (fun cdv A outer s H vs Q E hr h => ?_)
  · obtain ⟨_, _, _, _, _, rfl, _⟩ := h
    rfl
  · obtain ⟨x, y, k, m, L, rfl, hL, hk, hm, hp, kk⟩ := h
    refine ⟨_, (pss_one (ps_ret (pe_mk N_Pair hr (by decide) (by rfl) (pa_cons pe_str (pa_cons (pv 0) (pa_cons (pv 1) pa_nil)))))), ?_⟩
    exact mk_P (z := "any") (f := .any k m) Evl.ev_c (Evl.ev_var (v := .ref x) rfl) (Evl.ev_var (v := .ref y) rfl) hL hk hm hp (fun H' u dx h a b => ⟨dx, x, y, h, a, b⟩) H (Ex.refl H) _ kk
theorem ok_Contrary_invert {f : Addr} {fd : FuncData} (F : Fun K "__invert__" "Contrary.__invert__" s_Contrary_invert f fd) (N_Contrary : Mak P w K mg base 1 "Contrary" (c .co) (spIC c) []) : FnOk P w K mg base CX0 3 f fd ["self"] (spInv K c) := by
  refine F.ok sc_Contrary_invert (fun vs H Q E h => ?_) (fun cdv A outer s H vs Q E hr h => ?_)
  · obtain ⟨_, _, _, rfl, _⟩ := h
    rfl
  · obtain ⟨x, k, L, rfl, hL, hk, kk⟩ := h
    refine ⟨_, (pss_one (ps_ret (pe_mk N_Contrary hr (by decide) (by rfl) (pa_cons (pv 0) pa_nil)))), ?_⟩
    exact mk_C (Evl.ev_var (v := .ref x) rfl) hL hk H (Ex.refl H) _ kk
theorem ok_Contrary_and {f : Addr} {fd : FuncData} (F : Fun K "__and__" "Contrary.__and__" s_Contrary_and f fd) (N_Pair : Mak P w K mg base 1 "Pair" (c .pa) (spIP c) []) : FnOk P w K mg base CX0 3 f fd ["self", "other"] (spPr c .both) := by
  refine F.ok sc_Contrary_and (fun vs H Q E h => ?_) (fun cdv A outer s H vs Q E hr h => ?_)
  · obtain ⟨_, _, _, _, _, rfl, _⟩ := h
    rfl
  · obtain ⟨x, y, k, m, L, rfl, hL, hk, hm, hp, kk⟩ := h
    refine ⟨_, (pss_one (ps_ret (pe_mk N_Pair hr (by decide) (by rfl) (pa_cons pe_str (pa_cons (pv 0) (pa_cons (pv 1) pa_nil)))))), ?_⟩
    exact mk_P (z := "both") (f := .both k m) Evl.ev_c (Evl.ev_var (v := .ref x) rfl) (Evl.ev_var (v := .ref y) rfl) hL hk hm hp (fun H' u dx h a b => ⟨dx, x, y, h, a, b⟩) H (Ex.refl H) _ kk
theorem ok_Contrary_or {f : Addr} {fd : FuncData} (F : Fun K "__or__" "Contrary.__or__" s_Contrary_or f fd) (N_Pair : Mak P w K mg base 1 "Pair" (c .pa) (spIP c) []) : FnOk P w K mg base CX0 3 f fd ["self", "other"] (spPr c .either) := by
  refine F.ok sc_Contrary_or (fun vs H Q E h => ?_) (fun cdv A outer s H vs Q E hr h => ?_)
  · obtain ⟨_, _, _, _, _, rfl, _⟩ := h
    rfl
  · obtain ⟨x, y, k, m, L, rfl, hL, hk, hm, hp, kk⟩ := h
    refine ⟨_, (pss_one (ps_ret (pe_mk N_Pair hr (by decide) (by rfl) (pa_cons pe_str (pa_cons (pv 0) (pa_cons (pv 1) pa_nil)))))), ?_⟩
    exact mk_P (z := "either") (f := .either k m) Evl.ev_c (Evl.ev_var (v := .ref x) rfl) (Evl.ev_var (v := .ref y) rfl) hL hk hm hp (fun H' u dx h a b => ⟨dx, x, y, h, a, b⟩) H (Ex.refl H) _ kk
theorem ok_Contrary_add {f : Addr} {fd : FuncData} (F : Fun K "__add__" "Contrary.__add__" s_Contrary_add f fd) (N_Pair : Mak P w K mg base 1 "Pair" (c .pa) (spIP c) []) : FnOk P w K mg base CX0 3 f fd ["self", "other"] (spPr c .any) := by
  refine F.ok sc_Contrary_add (fun vs H Q E h => ?_) (fun cdv A outer s H vs Q E hr h => ?_)
  · obtain ⟨_, _, _, _, _, rfl, _⟩ := h
    rfl
  · obtain ⟨x, y, k, m, L, rfl, hL, hk, hm, hp, kk⟩ := h
    refine ⟨_, (pss_one (ps_ret (pe_mk N_Pair hr (by decide) (by rfl) (pa_cons pe_str (pa_cons (pv 0) (pa_cons (pv 1) pa_nil)))))), ?_⟩
    exact mk_P (z := "any") (f := .any k m) Evl.ev_c (Evl.ev_var (v := .ref x) rfl) (Evl.ev_var (v := .ref y) rfl) hL hk hm hp (fun H' u dx h a b => ⟨dx, x, y, h, a, b⟩) H (Ex.refl H) _ kk
theorem ok_Pair_invert {f : Addr} {fd : FuncData} (F : Fun K "__invert__" "Pair.__invert__" s_Pair_invert f fd) (N_Contrary : Mak P w K mg base 1 "Contrary" (c .co) (spIC c) []) : FnOk P w K mg base CX0 3 f fd ["self"] (spInv K c) := by
  refine F.ok sc_Pair_invert (fun vs H Q E h => ?_) (fun cdv A outer s H vs Q E hr h => ?_)
  · obtain ⟨_, _, _, rfl, _⟩ := h
    rfl
  · obtain ⟨x, k, L, rfl, hL, hk, kk⟩ := h
    refine ⟨_, (pss_one (ps_ret (pe_mk N_Contrary hr (by decide) (by rfl) (pa_cons (pv 0) pa_nil)))), ?_⟩
    exact mk_C (Evl.ev_var (v := .ref x) rfl) hL hk H (Ex.refl H) _ kk
theorem ok_Pair_and {f : Addr} {fd : FuncData} (F : Fun K "__and__" "Pair.__and__" s_Pair_and f fd) (N_Pair : Mak P w K mg base 1 "Pair" (c .pa) (spIP c) []) : FnOk P w K mg base CX0 3 f fd ["self", "other"] (spPr c .both) := by
  refine F.ok sc_Pair_and (fun vs H Q E h => ?_) (fun cdv A outer s H vs Q E hr h => ?_)
  · obtain ⟨_, _, _, _, _, rfl, _⟩ := h
    rfl
  · obtain ⟨x, y, k, m, L, rfl, hL, hk, hm, hp, kk⟩ := h
    refine ⟨_, (pss_one (ps_ret (pe_mk N_Pair hr (by decide) (by rfl) (pa_cons pe_str (pa_cons (pv 0) (pa_cons (pv 1) pa_nil)))))), ?_⟩
    exact mk_P (z := "both") (f := .both k m) Evl.ev_c (Evl.ev_var (v := .ref x) rfl) (Evl.ev_var (v := .ref y) rfl) hL hk hm hp (fun H' u dx h a b => ⟨dx, x, y, h, a, b⟩) H (Ex.refl H) _ kk
theorem ok_Pair_or {f : Addr} {fd : FuncData} (F : Fun K "__or__" "Pair.__or__" s_Pair_or f fd) (N_Pair : Mak P w K mg base 1 "Pair" (c .pa) (spIP c) []) : FnOk P w K mg base CX0 3 f fd ["self", "other"] (spPr c .either) := by
  refine F.ok sc_Pair_or (fun vs H Q E h => ?_) (fun cdv A outer s H vs Q E hr h => ?_)
  · obtain ⟨_, _, _, _, _, rfl, _⟩ := h
    rfl
  · obtain ⟨x, y, k, m, L, rfl, hL, hk, hm, hp, kk⟩ := h
    refine ⟨_, (pss_one (ps_ret (pe_mk N_Pair hr (by decide) (by rfl) (pa_cons pe_str (pa_cons (pv 0) (pa_cons (pv 1) pa_nil)))))), ?_⟩
    exact mk_P (z := "either") (f := .either k m) Evl.ev_c (Evl.ev_var (v := .ref x) rfl) (Evl.ev_var (v := .ref y) rfl) hL hk hm hp (fun H' u dx h a b => ⟨dx, x, y, h, a, b⟩) H (Ex.refl H) _ kk
theorem ok_Pair_add {f : Addr} {fd : FuncData} (F : Fun K "__add__" "Pair.__add__" s_Pair_add f fd) (N_Pair : Mak P w K mg base 1 "Pair" (c .pa) (spIP c) []) : FnOk P w K mg base CX0 3 f fd ["self", "other"] (spPr c .any) := by
  refine F.ok sc_Pair_add (fun vs H Q E h => ?_) (fun cdv A outer s H vs Q E hr h => ?_)
  · obtain ⟨_, _, _, _, _, rfl, _⟩ := h
    rfl
  · obtain ⟨x, y, k, m, L, rfl, hL, hk, hm, hp, kk⟩ := h
    refine ⟨_, (pss_one (ps_ret (pe_mk N_Pair hr (by decide) (by rfl) (pa_cons pe_str (pa_cons (pv 0) (pa_cons (pv 1) pa_nil)))))), ?_⟩
    exact mk_P (z := "any") (f := .any k m) Evl.ev_c (Evl.ev_var (v := .ref x) rfl) (Evl.ev_var (v := .ref y) rfl) hL hk hm hp (fun H' u dx h a b => ⟨dx, x, y, h, a, b⟩) H (Ex.refl H) _ kk
end
end U

set_option Elab.async false
set_option linter.all false
set_option maxRecDepth 100000
set_option maxHeartbeats 4000000
/-! texts of kinds -/
namespace U
open PySem PySem.Spec PyProof.Rows L2
open Evl (Ex)
open C8 (Met Mak pe_mt pe_mt0 pe_mk)
abbrev s_Halves_text : Stmt := inClass (top 14) 3
abbrev sc_Halves_text_N : List Str := ["self"]
theorem sc_Halves_text : FnScope sc_Halves_text_N ["self"] (defScope s_Halves_text) := ⟨rfl, rfl, rfl, by decide +kernel, rfl, by decide +kernel, by decide +kernel⟩
abbrev s_Boxes_text : Stmt := inClass (top 15) 3
abbrev sc_Boxes_text_N : List Str := ["self"]
theorem sc_Boxes_text : FnScope sc_Boxes_text_N ["self"] (defScope s_Boxes_text) := ⟨rfl, rfl, rfl, by decide +kernel, rfl, by decide +kernel, by decide +kernel⟩
abbrev s_Rising_text : Stmt := inClass (top 16) 3
abbrev sc_Rising_text_N : List Str := ["self"]
theorem sc_Rising_text : FnScope sc_Rising_text_N ["self"] (defScope s_Rising_text) := ⟨rfl, rfl, rfl, by decide +kernel, rfl, by decide +kernel, by decide +kernel⟩
abbrev s_Flats_text : Stmt := inClass (top 17) 3
abbrev sc_Flats_text_N : List Str := ["self"]
theorem sc_Flats_text : FnScope sc_Flats_text_N ["self"] (defScope s_Flats_text) := ⟨rfl, rfl, rfl, by decide +kernel, rfl, by decide +kernel, by decide +kernel⟩
abbrev s_Turns_text : Stmt := inClass (top 18) 3
abbrev sc_Turns_text_N : List Str := ["self"]
theorem sc_Turns_text : FnScope sc_Turns_text_N ["self"] (defScope s_Turns_text) := ⟨rfl, rfl, rfl, by decide +kernel, rfl, by decide +kernel, by decide +kernel⟩
abbrev s_Contrary_text : Stmt := inClass (top 19) 3
abbrev sc_Contrary_text_N : List Str := ["self"]
theorem sc_Contrary_text : FnScope sc_Contrary_text_N ["self"] (defScope s_Contrary_text) := ⟨rfl, rfl, rfl, by decide +kernel, rfl, by decide +kernel, by decide +kernel⟩
abbrev s_Pair_text : Stmt := inClass (top 20) 3
abbrev sc_Pair_text_N : List Str := ["self"]
theorem sc_Pair_text : FnScope sc_Pair_text_N ["self"] (defScope s_Pair_text) := ⟨rfl, rfl, rfl, by decide +kernel, rfl, by decide +kernel, by decide +kernel⟩
/-- the words of a kind -/
def wordsK : Kd → List Str
  | .halves p => ["halves", toString p]
  | .boxes p => ["boxes", toString p]
  | .rising p => ["rising", toString p]
  | .flats p => ["flats", toString p]
  | .turns m => ["turns", toString m]
  | .no k => "not" :: wordsK k
  | .both k m => "both" :: (wordsK k ++ wordsK m)
  | .either k m => "either" :: (wordsK k ++ wordsK m)
  | .any k m => "any" :: (wordsK k ++ wordsK m)
def smK : Kd → Prop
  | .halves p => 0 ≤ p ∧ p ≤ 9
  | .boxes p => 0 ≤ p ∧ p ≤ 9
  | .rising p => 0 ≤ p ∧ p ≤ 9
  | .flats p => 0 ≤ p ∧ p ≤ 9
  | .turns p => 0 ≤ p ∧ p ≤ 9
  | .no k => smK k
  | .both k m => smK k ∧ smK m
  | .either k m => smK k ∧ smK m
  | .any k m => smK k ∧ smK m
theorem smK_of : ∀ {k : Kd} {p : Int}, okK p k → 1 ≤ p → p ≤ 3 → smK k
  | .halves q, p, h, h1, h3 => by have : q = p := h; exact ⟨by omega, by omega⟩
  | .boxes q, p, h, h1, h3 => by have : q = p := h; exact ⟨by omega, by omega⟩
  | .rising q, p, h, h1, h3 => by have : q = p := h; exact ⟨by omega, by omega⟩
  | .flats q, p, h, h1, h3 => by have : q = p := h; exact ⟨by omega, by omega⟩
  | .turns q, p, h, h1, h3 => ⟨h.2.1, by have := h.2.2; omega⟩
  | .no k, p, h, h1, h3 => smK_of (k := k) h h1 h3
  | .both k m, p, h, h1, h3 => ⟨smK_of h.1 h1 h3, smK_of h.2 h1 h3⟩
  | .either k m, p, h, h1, h3 => ⟨smK_of h.1 h1 h3, smK_of h.2 h1 h3⟩
  | .any k m, p, h, h1, h3 => ⟨smK_of h.1 h1 h3, smK_of h.2 h1 h3⟩
def textK (k : Kd) : Str := Str.join " " (wordsK k)
theorem small_num {p : Int} (h : 0 ≤ p ∧ p ≤ 9) : ((toString p : String) : Str).length ≤ 1 := by
  have : p = 0 ∨ p = 1 ∨ p = 2 ∨ p = 3 ∨ p = 4 ∨ p = 5 ∨ p = 6 ∨ p = 7 ∨ p = 8 ∨ p = 9 := by omega
  rcases this with rfl | rfl | rfl | rfl | rfl | rfl | rfl | rfl | rfl | rfl <;> decide
theorem words_ne : ∀ k : Kd, wordsK k ≠ []
  | .halves _ => by simp [wordsK]
  | .boxes _ => by simp [wordsK]
  | .rising _ => by simp [wordsK]
  | .flats _ => by simp [wordsK]
  | .turns _ => by simp [wordsK]
  | .no _ => by simp [wordsK]
  | .both _ _ => by simp [wordsK]
  | .either _ _ => by simp [wordsK]
  | .any _ _ => by simp [wordsK]
theorem word_len : ∀ {k : Kd}, smK k → ∀ z ∈ wordsK k, z.length ≤ 6 := by
  intro k
  induction k with
  | no k ih =>
    intro h z hz
    rcases List.mem_cons.mp hz with rfl | hz
    · decide
    · exact ih h z hz
  | both k m ih1 ih2 =>
    intro h z hz
    rcases List.mem_cons.mp hz with rfl | hz
    · decide
    · exact (List.mem_append.mp hz).elim (ih1 h.1 z) (ih2 h.2 z)
  | either k m ih1 ih2 =>
    intro h z hz
    rcases List.mem_cons.mp hz with rfl | hz
    · decide
    · exact (List.mem_append.mp hz).elim (ih1 h.1 z) (ih2 h.2 z)
  | any k m ih1 ih2 =>
    intro h z hz
    rcases List.mem_cons.mp hz with rfl | hz
    · decide
    · exact (List.mem_append.mp hz).elim (ih1 h.1 z) (ih2 h.2 z)
  | _ =>
    intro h z hz
    rcases List.mem_cons.mp hz with rfl | hz
    · decide
    · rw [List.mem_singleton.mp hz]
      exact Nat.le_trans (small_num h) (by decide)
theorem sum_le {α : Type} (f : α → Nat) (n : Nat) : ∀ l : List α, (∀ x ∈ l, f x ≤ n) → (l.map f).sum ≤ n * l.length
  | [], _ => by simp
  | x :: l, h => by
    have h1 := h x (List.mem_cons_self ..)
    have h2 := sum_le f n l fun y hy => h y (List.mem_cons_of_mem _ hy)
    rw [List.map_cons, List.sum_cons, List.length_cons, Nat.mul_succ]
    omega
theorem text_len {k : Kd} (h : smK k) : (textK k).length ≤ 7 * (wordsK k).length := by
  have h1 := StrLaws.join_length_le " " (wordsK k)
  have h2 := sum_le (·.length) 6 (wordsK k) (word_len h)
  have h3 : (" " : Str).length = 1 := by decide
  have h4 : (textK k).length ≤ (List.map (fun x => x.length) (wordsK k)).sum + (wordsK k).length * (" " : Str).length := h1
  rw [h3] at h4
  omega
theorem empty_app (x : Str) : Str.empty ++ x = x := Str.append_left_empty rfl
theorem join_app (y : Str) : ∀ a b : List Str, a ≠ [] → b ≠ [] → Str.join y (a ++ b) = Str.join y a ++ y ++ Str.join y b
  | [x], b, _, hb => by
    cases b with
    | nil => exact absurd rfl hb
    | cons z r => rfl
  | x :: z :: r, b, _, hb => by
    show x ++ y ++ Str.join y ((z :: r) ++ b) = x ++ y ++ Str.join y (z :: r) ++ y ++ Str.join y b
    rw [join_app y (z :: r) b (by simp) hb]
    simp only [Str.append_assoc]
  | [], b, ha, _ => absurd rfl ha
theorem join_cons (y x : Str) {b : List Str} (hb : b ≠ []) : Str.join y (x :: b) = x ++ y ++ Str.join y b := join_app y [x] b (by simp) hb
/-- the parts of an f-string -/
inductive EvJ : List TE → List Str → L2.St → Hp → Prop where
  | nil {σ : L2.St} {H : Hp} : EvJ [] [] σ H
  | cons {t : TE} {ts : List TE} {x : Str} {xs : List Str} {σ : L2.St} {H : Hp} (h : ∀ H1, Ex H H1 → Evl.Ev t σ H1 (.str x)) (r : EvJ ts xs σ H) : EvJ (t :: ts) (x :: xs) σ H
def gluedJ : List Str → Str → Str
  | [], acc => acc
  | x :: xs, acc => gluedJ xs (acc ++ x)
theorem gluedJ_len : ∀ (xs : List Str) (acc : Str), (gluedJ xs acc).length = acc.length + (xs.map (·.length)).sum
  | [], acc => by simp [gluedJ]
  | x :: xs, acc => by
    show (gluedJ xs (acc ++ x)).length = _
    rw [gluedJ_len xs, Str.length_append, List.map_cons, List.sum_cons]
    omega
theorem evj_run {ts : List TE} {xs : List Str} {σ : L2.St} {H : Hp} (h : EvJ ts xs σ H) : ∀ (acc : Str) (H1 : Hp) (Q : Str → Hp → Prop), Ex H H1 → acc.length + (xs.map (·.length)).sum ≤ sizeLine → (∀ H2, Ex H1 H2 → Q (gluedJ xs acc) H2) → tJs ts acc σ H1 Q := by
  induction h with
  | nil => exact fun acc H1 Q e hz q => q H1 (Ex.refl _)
  | @cons t ts x xs σ H h r ih =>
    intro acc H1 Q e hz q
    rw [List.map_cons, List.sum_cons] at hz
    refine h H1 e H1 (Ex.refl _) _ fun H2 e2 => ⟨x, rfl, by rw [Str.length_append]; omega, ih (acc ++ x) H2 Q (e.trans e2) (by rw [Str.length_append]; omega) fun H3 e3 => q H3 (e2.trans e3)⟩
theorem ev_joined {ts : List TE} {xs : List Str} {σ : L2.St} {H : Hp} (h : EvJ ts xs σ H) (hz : (xs.map (·.length)).sum ≤ sizeLine) : Evl.Ev (fun σ H Q => tJs ts Str.empty σ H fun out H1 => Q (.str out) H1) σ H (.str (gluedJ xs Str.empty)) := fun H1 e Q q =>
  evj_run h Str.empty H1 _ e (by show 0 + _ ≤ _; omega) fun H2 e2 => q H2 e2
theorem ev_fmtS {te : TE} {σ : L2.St} {H : Hp} {y : Str} (h : Evl.Ev te σ H (.str y)) (hz : y.length ≤ sizeLine) : Evl.Ev (tFmt te) σ H (.str y) := fun H1 e Q q => h H1 e _ fun H2 e2 => .inl ⟨y, rfl, hz, q H2 e2⟩
theorem ev_fmtI {te : TE} {σ : L2.St} {H : Hp} {i : Int} (h : Evl.Ev te σ H (.int i)) (hi : 0 ≤ i ∧ i ≤ 9) : Evl.Ev (tFmt te) σ H (.str (toString i)) := fun H1 e Q q => h H1 e _ fun H2 e2 => .inr ⟨i, rfl, by
  have : i = 0 ∨ i = 1 ∨ i = 2 ∨ i = 3 ∨ i = 4 ∨ i = 5 ∨ i = 6 ∨ i = 7 ∨ i = 8 ∨ i = 9 := by omega
  rcases this with rfl | rfl | rfl | rfl | rfl | rfl | rfl | rfl | rfl | rfl <;> decide, q H2 e2⟩
def spText (K : PySem.W.Frag) (c : KC) (n : Nat) (i : KI) : Sp := fun vs H Q _ => ∃ x k, vs = [.ref x] ∧ Kin c H k x ∧ kiOf k = i ∧ depK k ≤ n ∧ smK k ∧ (wordsK k).length ≤ 1000 ∧ ∀ H', Ex H H' → Q (.str (textK k)) H'
def TextM (P : Program) (w : World) (K : PySem.W.Frag) (mg : Str → Option Value) (base : Heap) (c : KC) (n : Nat) : Prop := ∀ i, ∃ k, k ≤ n + 1 ∧ Met P w K mg base k (c i) "text" (spText K c n i) []
def tText (K : PySem.W.Frag) (c : KC) (n : Nat) (ta : TE) : TE := tAny (fun _ => True) fun i : KI => tMeth (c i) "text" (spText K c n i) [] E0 ta tNil
theorem pe_text {X : Cx} {c : KC} {n j : Nat} {o : Expr} {ta : TE} {pos apos : Pos} {pl : Sem Bool} (M : TextM X.prog X.w X.K X.mg X.base c n) (hr : Room j X.A) (hj : n + 1 ≤ j) (he : PE X o ta)
    (ht : eval (.Call (.Attribute o "text" apos) [] [] pos) X.env = (do
      let ov ← eval o X.env
      standAt apos.atName
      let (f, first) ← holding [ov] (getMethod ov "text" pl)
      callWith pos f first (backTo pos (starEach [] X.env)) (backToKw pos (keywordEach [] X.env))) := by rfl) :
    PE X (.Call (.Attribute o "text" apos) [] [] pos) (tText X.K c n ta) := pe_any fun i _ => by
  obtain ⟨k, hk, m⟩ := M i
  exact pe_mt0 m hr (by omega) he ht
section
variable {P : Program} {w : World} {K : PySem.W.Frag} {mg : Str → Option Value} {base : Heap} {c : KC}
theorem Kin.insT {H : Hp} : ∀ {k : Kd} {x : Addr}, Kin c H k x → ∃ dx fs, H x = some (.ins (c (kiOf k)) dx fs) ∧ fs.lookup ("text" : Str) = none
  | .halves _, _, ⟨dx, h⟩ => ⟨dx, _, h, rfl⟩
  | .boxes _, _, ⟨dx, h⟩ => ⟨dx, _, h, rfl⟩
  | .rising _, _, ⟨dx, h⟩ => ⟨dx, _, h, rfl⟩
  | .flats _, _, ⟨dx, h⟩ => ⟨dx, _, h, rfl⟩
  | .turns _, _, ⟨dx, h⟩ => ⟨dx, _, h, rfl⟩
  | .no _, _, ⟨dx, y, h, q⟩ => ⟨dx, _, h, rfl⟩
  | .both _ _, _, ⟨dx, y, z, h, q, r⟩ => ⟨dx, _, h, rfl⟩
  | .either _ _, _, ⟨dx, y, z, h, q, r⟩ => ⟨dx, _, h, rfl⟩
  | .any _ _, _, ⟨dx, y, z, h, q, r⟩ => ⟨dx, _, h, rfl⟩
theorem ev_text {σ : L2.St} {H : Hp} {ta : TE} {x : Addr} {k : Kd} {n : Nat} (h : Evl.Ev ta σ H (.ref x)) (hk : Kin c H k x) (hn : depK k ≤ n) (hs : smK k) (hw : (wordsK k).length ≤ 1000) : Evl.Ev (tText K c n ta) σ H (.str (textK k)) := fun H1 e Q q => by
  refine ⟨kiOf k, trivial, h H1 e _ fun H2 e2 => ?_⟩
  obtain ⟨dx, fs, hx, hl⟩ := (hk.up (e.trans e2)).insT
  exact ⟨x, dx, fs, rfl, hx, hl, x, k, rfl, hk.up (e.trans e2), rfl, hn, hs, hw, fun H3 e3 => q H3 (e2.trans e3)⟩
theorem ok_Halves_text {f : Addr} {fd : FuncData} (F : Fun K "text" "Halves.text" s_Halves_text f fd) (S : KCl K c) (n : Nat) : FnOk P w K mg base CX0 1 f fd ["self"] (spText K c n .ha) := by
  refine F.ok sc_Halves_text (fun vs H Q E h => ?_) (fun cdv A outer s H vs Q E hr h => ?_)
  · obtain ⟨_, _, rfl, _⟩ := h
    rfl
  · obtain ⟨x, k, rfl, hk, hi, hn, hs, hw, kk⟩ := h
    cases k with
    | halves p =>
      obtain ⟨dx, hx⟩ := hk
      refine ⟨_, (pss_one (ps_ret (pe_joined (PJ.cons pe_str (PJ.cons (pe_fmt (pe_fld (pv 0) rfl)) PJ.nil))))), ?_⟩
      have e : textK (.halves p) = gluedJ ["halves ", toString p] Str.empty := by
        show ("halves" : Str) ++ " " ++ (toString p : String) = Str.empty ++ "halves " ++ (toString p : String)
        rw [empty_app, show ("halves" : Str) ++ " " = "halves " by decide]
      rw [e] at kk
      have hz := small_num hs
      refine Evl.s_ret (ev_joined (.cons (fun H1 _ => Evl.ev_c) (.cons (fun H1 e1 => ev_fmtI (ev_fld (Evl.ev_var rfl) (e1 _ _ hx) (S.cl _) (S.na _ _ (by decide)) (v := .int p) rfl) hs) .nil)) ?_) kk
      simp only [List.map_cons, List.map_nil, List.sum_cons, List.sum_nil]
      rw [sizeLine_eq, show ("halves " : Str).length = 7 by decide]
      omega
    | _ => cases hi
theorem ok_Boxes_text {f : Addr} {fd : FuncData} (F : Fun K "text" "Boxes.text" s_Boxes_text f fd) (S : KCl K c) (n : Nat) : FnOk P w K mg base CX0 1 f fd ["self"] (spText K c n .bo) := by
  refine F.ok sc_Boxes_text (fun vs H Q E h => ?_) (fun cdv A outer s H vs Q E hr h => ?_)
  · obtain ⟨_, _, rfl, _⟩ := h
    rfl
  · obtain ⟨x, k, rfl, hk, hi, hn, hs, hw, kk⟩ := h
    cases k with
    | boxes p =>
      obtain ⟨dx, hx⟩ := hk
      refine ⟨_, (pss_one (ps_ret (pe_joined (PJ.cons pe_str (PJ.cons (pe_fmt (pe_fld (pv 0) rfl)) PJ.nil))))), ?_⟩
      have e : textK (.boxes p) = gluedJ ["boxes ", toString p] Str.empty := by
        show ("boxes" : Str) ++ " " ++ (toString p : String) = Str.empty ++ "boxes " ++ (toString p : String)
        rw [empty_app, show ("boxes" : Str) ++ " " = "boxes " by decide]
      rw [e] at kk
      have hz := small_num hs
      refine Evl.s_ret (ev_joined (.cons (fun H1 _ => Evl.ev_c) (.cons (fun H1 e1 => ev_fmtI (ev_fld (Evl.ev_var rfl) (e1 _ _ hx) (S.cl _) (S.na _ _ (by decide)) (v := .int p) rfl) hs) .nil)) ?_) kk
      simp only [List.map_cons, List.map_nil, List.sum_cons, List.sum_nil]
      rw [sizeLine_eq, show ("boxes " : Str).length = 6 by decide]
      omega
    | _ => cases hi
theorem ok_Rising_text {f : Addr} {fd : FuncData} (F : Fun K "text" "Rising.text" s_Rising_text f fd) (S : KCl K c) (n : Nat) : FnOk P w K mg base CX0 1 f fd ["self"] (spText K c n .ri) := by
  refine F.ok sc_Rising_text (fun vs H Q E h => ?_) (fun cdv A outer s H vs Q E hr h => ?_)
  · obtain ⟨_, _, rfl, _⟩ := h
    rfl
  · obtain ⟨x, k, rfl, hk, hi, hn, hs, hw, kk⟩ := h
    cases k with
    | rising p =>
      obtain ⟨dx, hx⟩ := hk
      refine ⟨_, (pss_one (ps_ret (pe_joined (PJ.cons pe_str (PJ.cons (pe_fmt (pe_fld (pv 0) rfl)) PJ.nil))))), ?_⟩
      have e : textK (.rising p) = gluedJ ["rising ", toString p] Str.empty := by
        show ("rising" : Str) ++ " " ++ (toString p : String) = Str.empty ++ "rising " ++ (toString p : String)
        rw [empty_app, show ("rising" : Str) ++ " " = "rising " by decide]
      rw [e] at kk
      have hz := small_num hs
      refine Evl.s_ret (ev_joined (.cons (fun H1 _ => Evl.ev_c) (.cons (fun H1 e1 => ev_fmtI (ev_fld (Evl.ev_var rfl) (e1 _ _ hx) (S.cl _) (S.na _ _ (by decide)) (v := .int p) rfl) hs) .nil)) ?_) kk
      simp only [List.map_cons, List.map_nil, List.sum_cons, List.sum_nil]
      rw [sizeLine_eq, show ("rising " : Str).length = 7 by decide]
      omega
    | _ => cases hi
theorem ok_Flats_text {f : Addr} {fd : FuncData} (F : Fun K "text" "Flats.text" s_Flats_text f fd) (S : KCl K c) (n : Nat) : FnOk P w K mg base CX0 1 f fd ["self"] (spText K c n .fl) := by
  refine F.ok sc_Flats_text (fun vs H Q E h => ?_) (fun cdv A outer s H vs Q E hr h => ?_)
  · obtain ⟨_, _, rfl, _⟩ := h
    rfl
  · obtain ⟨x, k, rfl, hk, hi, hn, hs, hw, kk⟩ := h
    cases k with
    | flats p =>
      obtain ⟨dx, hx⟩ := hk
      refine ⟨_, (pss_one (ps_ret (pe_joined (PJ.cons pe_str (PJ.cons (pe_fmt (pe_fld (pv 0) rfl)) PJ.nil))))), ?_⟩
      have e : textK (.flats p) = gluedJ ["flats ", toString p] Str.empty := by
        show ("flats" : Str) ++ " " ++ (toString p : String) = Str.empty ++ "flats " ++ (toString p : String)
        rw [empty_app, show ("flats" : Str) ++ " " = "flats " by decide]
      rw [e] at kk
      have hz := small_num hs
      refine Evl.s_ret (ev_joined (.cons (fun H1 _ => Evl.ev_c) (.cons (fun H1 e1 => ev_fmtI (ev_fld (Evl.ev_var rfl) (e1 _ _ hx) (S.cl _) (S.na _ _ (by decide)) (v := .int p) rfl) hs) .nil)) ?_) kk
      simp only [List.map_cons, List.map_nil, List.sum_cons, List.sum_nil]
      rw [sizeLine_eq, show ("flats " : Str).length = 6 by decide]
      omega
    | _ => cases hi
theorem ok_Turns_text {f : Addr} {fd : FuncData} (F : Fun K "text" "Turns.text" s_Turns_text f fd) (S : KCl K c) (n : Nat) : FnOk P w K mg base CX0 1 f fd ["self"] (spText K c n .tu) := by
  refine F.ok sc_Turns_text (fun vs H Q E h => ?_) (fun cdv A outer s H vs Q E hr h => ?_)
  · obtain ⟨_, _, rfl, _⟩ := h
    rfl
  · obtain ⟨x, k, rfl, hk, hi, hn, hs, hw, kk⟩ := h
    cases k with
    | turns p =>
      obtain ⟨dx, hx⟩ := hk
      refine ⟨_, (pss_one (ps_ret (pe_joined (PJ.cons pe_str (PJ.cons (pe_fmt (pe_fld (pv 0) rfl)) PJ.nil))))), ?_⟩
      have e : textK (.turns p) = gluedJ ["turns ", toString p] Str.empty := by
        show ("turns" : Str) ++ " " ++ (toString p : String) = Str.empty ++ "turns " ++ (toString p : String)
        rw [empty_app, show ("turns" : Str) ++ " " = "turns " by decide]
      rw [e] at kk
      have hz := small_num hs
      refine Evl.s_ret (ev_joined (.cons (fun H1 _ => Evl.ev_c) (.cons (fun H1 e1 => ev_fmtI (ev_fld (Evl.ev_var rfl) (e1 _ _ hx) (S.cl _) (S.na _ _ (by decide)) (v := .int p) rfl) hs) .nil)) ?_) kk
      simp only [List.map_cons, List.map_nil, List.sum_cons, List.sum_nil]
      rw [sizeLine_eq, show ("turns " : Str).length = 6 by decide]
      omega
    | _ => cases hi
theorem ok_Contrary_text {f : Addr} {fd : FuncData} (F : Fun K "text" "Contrary.text" s_Contrary_text f fd) (S : KCl K c) (n : Nat) (M : TextM P w K mg base c n) : FnOk P w K mg base CX0 (n + 2) f fd ["self"] (spText K c (n + 1) .co) := by
  refine F.ok sc_Contrary_text (fun vs H Q E h => ?_) (fun cdv A outer s H vs Q E hr h => ?_)
  · obtain ⟨_, _, rfl, _⟩ := h
    rfl
  · obtain ⟨x, k, rfl, hk, hi, hn, hs, hw, kk⟩ := h
    cases k with
    | no k1 =>
      obtain ⟨dx, y, hx, hy⟩ := hk
      refine ⟨_, (pss_one (ps_ret (pe_joined (PJ.cons pe_str (PJ.cons (pe_fmt (pe_text M hr (by omega) (pe_fld (pv 0) rfl))) PJ.nil))))), ?_⟩
      have e : textK (.no k1) = gluedJ ["not ", textK k1] Str.empty := by
        show Str.join " " ("not" :: wordsK k1) = Str.empty ++ "not " ++ textK k1
        rw [empty_app, join_cons _ _ (words_ne k1), show ("not" : Str) ++ " " = "not " by decide]
        rfl
      rw [e] at kk
      have hw1 : (wordsK k1).length ≤ 999 := by
        have : (wordsK k1).length + 1 ≤ 1000 := hw
        omega
      have hz := text_len (k := k1) hs
      refine Evl.s_ret (ev_joined (.cons (fun H1 _ => Evl.ev_c) (.cons (fun H1 e1 => ev_fmtS (ev_text (ev_fld (Evl.ev_var rfl) (e1 _ _ hx) (S.cl _) (S.na _ _ (by decide)) (v := .ref y) rfl) (hy.up e1) (Nat.le_of_succ_le_succ hn) hs (by omega)) (by rw [sizeLine_eq]; omega)) .nil)) ?_) kk
      simp only [List.map_cons, List.map_nil, List.sum_cons, List.sum_nil]
      rw [sizeLine_eq, show ("not " : Str).length = 4 by decide]
      omega
    | _ => cases hi
theorem ok_Pair_text {f : Addr} {fd : FuncData} (F : Fun K "text" "Pair.text" s_Pair_text f fd) (S : KCl K c) (n : Nat) (M : TextM P w K mg base c n) : FnOk P w K mg base CX0 (n + 2) f fd ["self"] (spText K c (n + 1) .pa) := by
  refine F.ok sc_Pair_text (fun vs H Q E h => ?_) (fun cdv A outer s H vs Q E hr h => ?_)
  · obtain ⟨_, _, rfl, _⟩ := h
    rfl
  · obtain ⟨x, k, rfl, hk, hi, hn, hs, hw, kk⟩ := h
    cases k with
    | both k1 k2 =>
      obtain ⟨dx, y1, y2, hx, hy1, hy2⟩ := hk
      have hn1 : depK k1 ≤ n := by
        have h1 : max (depK k1) (depK k2) + 1 ≤ n + 1 := hn
        have h2 := Nat.le_max_left (depK k1) (depK k2)
        omega
      have hn2 : depK k2 ≤ n := by
        have h1 : max (depK k1) (depK k2) + 1 ≤ n + 1 := hn
        have h2 := Nat.le_max_right (depK k1) (depK k2)
        omega
      refine ⟨_, (pss_one (ps_ret (pe_joined (PJ.cons (pe_fmt (pe_fld (pv 0) rfl)) (PJ.cons pe_str (PJ.cons (pe_fmt (pe_text M hr (by omega) (pe_fld (pv 0) rfl))) (PJ.cons pe_str (PJ.cons (pe_fmt (pe_text M hr (by omega) (pe_fld (pv 0) rfl))) PJ.nil)))))))), ?_⟩
      have e : textK (.both k1 k2) = gluedJ ["both", " ", textK k1, " ", textK k2] Str.empty := by
        show Str.join " " ("both" :: (wordsK k1 ++ wordsK k2)) = Str.empty ++ "both" ++ " " ++ textK k1 ++ " " ++ textK k2
        rw [empty_app, join_cons _ _ (by simp [words_ne k1]), join_app _ _ _ (words_ne k1) (words_ne k2)]
        show _ = ("both" : Str) ++ " " ++ Str.join " " (wordsK k1) ++ " " ++ Str.join " " (wordsK k2)
        simp only [Str.append_assoc]
      rw [e] at kk
      have hw1 : (wordsK k1).length + (wordsK k2).length ≤ 999 := by
        have : (wordsK k1 ++ wordsK k2).length + 1 ≤ 1000 := hw
        rw [List.length_append] at this
        omega
      have hz1 := text_len (k := k1) hs.1
      have hz2 := text_len (k := k2) hs.2
      refine Evl.s_ret (ev_joined (.cons (fun H1 e1 => ev_fmtS (ev_fld (Evl.ev_var rfl) (e1 _ _ hx) (S.cl _) (S.na _ _ (by decide)) (v := .str "both") rfl) (by decide)) (.cons (fun H1 _ => Evl.ev_c) (.cons (fun H1 e1 => ev_fmtS (ev_text (ev_fld (Evl.ev_var rfl) (e1 _ _ hx) (S.cl _) (S.na _ _ (by decide)) (v := .ref y1) rfl) (hy1.up e1) hn1 hs.1 (by omega)) (by rw [sizeLine_eq]; omega))
        (.cons (fun H1 _ => Evl.ev_c) (.cons (fun H1 e1 => ev_fmtS (ev_text (ev_fld (Evl.ev_var rfl) (e1 _ _ hx) (S.cl _) (S.na _ _ (by decide)) (v := .ref y2) rfl) (hy2.up e1) hn2 hs.2 (by omega)) (by rw [sizeLine_eq]; omega)) .nil))))) ?_) kk
      simp only [List.map_cons, List.map_nil, List.sum_cons, List.sum_nil]
      rw [sizeLine_eq, show ("both" : Str).length = 4 by decide, show (" " : Str).length = 1 by decide]
      omega
    | either k1 k2 =>
      obtain ⟨dx, y1, y2, hx, hy1, hy2⟩ := hk
      have hn1 : depK k1 ≤ n := by
        have h1 : max (depK k1) (depK k2) + 1 ≤ n + 1 := hn
        have h2 := Nat.le_max_left (depK k1) (depK k2)
        omega
      have hn2 : depK k2 ≤ n := by
        have h1 : max (depK k1) (depK k2) + 1 ≤ n + 1 := hn
        have h2 := Nat.le_max_right (depK k1) (depK k2)
        omega
      refine ⟨_, (pss_one (ps_ret (pe_joined (PJ.cons (pe_fmt (pe_fld (pv 0) rfl)) (PJ.cons pe_str (PJ.cons (pe_fmt (pe_text M hr (by omega) (pe_fld (pv 0) rfl))) (PJ.cons pe_str (PJ.cons (pe_fmt (pe_text M hr (by omega) (pe_fld (pv 0) rfl))) PJ.nil)))))))), ?_⟩
      have e : textK (.either k1 k2) = gluedJ ["either", " ", textK k1, " ", textK k2] Str.empty := by
        show Str.join " " ("either" :: (wordsK k1 ++ wordsK k2)) = Str.empty ++ "either" ++ " " ++ textK k1 ++ " " ++ textK k2
        rw [empty_app, join_cons _ _ (by simp [words_ne k1]), join_app _ _ _ (words_ne k1) (words_ne k2)]
        show _ = ("either" : Str) ++ " " ++ Str.join " " (wordsK k1) ++ " " ++ Str.join " " (wordsK k2)
        simp only [Str.append_assoc]
      rw [e] at kk
      have hw1 : (wordsK k1).length + (wordsK k2).length ≤ 999 := by
        have : (wordsK k1 ++ wordsK k2).length + 1 ≤ 1000 := hw
        rw [List.length_append] at this
        omega
      have hz1 := text_len (k := k1) hs.1
      have hz2 := text_len (k := k2) hs.2
      refine Evl.s_ret (ev_joined (.cons (fun H1 e1 => ev_fmtS (ev_fld (Evl.ev_var rfl) (e1 _ _ hx) (S.cl _) (S.na _ _ (by decide)) (v := .str "either") rfl) (by decide)) (.cons (fun H1 _ => Evl.ev_c) (.cons (fun H1 e1 => ev_fmtS (ev_text (ev_fld (Evl.ev_var rfl) (e1 _ _ hx) (S.cl _) (S.na _ _ (by decide)) (v := .ref y1) rfl) (hy1.up e1) hn1 hs.1 (by omega)) (by rw [sizeLine_eq]; omega))
        (.cons (fun H1 _ => Evl.ev_c) (.cons (fun H1 e1 => ev_fmtS (ev_text (ev_fld (Evl.ev_var rfl) (e1 _ _ hx) (S.cl _) (S.na _ _ (by decide)) (v := .ref y2) rfl) (hy2.up e1) hn2 hs.2 (by omega)) (by rw [sizeLine_eq]; omega)) .nil))))) ?_) kk
      simp only [List.map_cons, List.map_nil, List.sum_cons, List.sum_nil]
      rw [sizeLine_eq, show ("either" : Str).length = 6 by decide, show (" " : Str).length = 1 by decide]
      omega
    | any k1 k2 =>
      obtain ⟨dx, y1, y2, hx, hy1, hy2⟩ := hk
      have hn1 : depK k1 ≤ n := by
        have h1 : max (depK k1) (depK k2) + 1 ≤ n + 1 := hn
        have h2 := Nat.le_max_left (depK k1) (depK k2)
        omega
      have hn2 : depK k2 ≤ n := by
        have h1 : max (depK k1) (depK k2) + 1 ≤ n + 1 := hn
        have h2 := Nat.le_max_right (depK k1) (depK k2)
        omega
      refine ⟨_, (pss_one (ps_ret (pe_joined (PJ.cons (pe_fmt (pe_fld (pv 0) rfl)) (PJ.cons pe_str (PJ.cons (pe_fmt (pe_text M hr (by omega) (pe_fld (pv 0) rfl))) (PJ.cons pe_str (PJ.cons (pe_fmt (pe_text M hr (by omega) (pe_fld (pv 0) rfl))) PJ.nil)))))))), ?_⟩
      have e : textK (.any k1 k2) = gluedJ ["any", " ", textK k1, " ", textK k2] Str.empty := by
        show Str.join " " ("any" :: (wordsK k1 ++ wordsK k2)) = Str.empty ++ "any" ++ " " ++ textK k1 ++ " " ++ textK k2
        rw [empty_app, join_cons _ _ (by simp [words_ne k1]), join_app _ _ _ (words_ne k1) (words_ne k2)]
        show _ = ("any" : Str) ++ " " ++ Str.join " " (wordsK k1) ++ " " ++ Str.join " " (wordsK k2)
        simp only [Str.append_assoc]
      rw [e] at kk
      have hw1 : (wordsK k1).length + (wordsK k2).length ≤ 999 := by
        have : (wordsK k1 ++ wordsK k2).length + 1 ≤ 1000 := hw
        rw [List.length_append] at this
        omega
      have hz1 := text_len (k := k1) hs.1
      have hz2 := text_len (k := k2) hs.2
      refine Evl.s_ret (ev_joined (.cons (fun H1 e1 => ev_fmtS (ev_fld (Evl.ev_var rfl) (e1 _ _ hx) (S.cl _) (S.na _ _ (by decide)) (v := .str "any") rfl) (by decide)) (.cons (fun H1 _ => Evl.ev_c) (.cons (fun H1 e1 => ev_fmtS (ev_text (ev_fld (Evl.ev_var rfl) (e1 _ _ hx) (S.cl _) (S.na _ _ (by decide)) (v := .ref y1) rfl) (hy1.up e1) hn1 hs.1 (by omega)) (by rw [sizeLine_eq]; omega))
        (.cons (fun H1 _ => Evl.ev_c) (.cons (fun H1 e1 => ev_fmtS (ev_text (ev_fld (Evl.ev_var rfl) (e1 _ _ hx) (S.cl _) (S.na _ _ (by decide)) (v := .ref y2) rfl) (hy2.up e1) hn2 hs.2 (by omega)) (by rw [sizeLine_eq]; omega)) .nil))))) ?_) kk
      simp only [List.map_cons, List.map_nil, List.sum_cons, List.sum_nil]
      rw [sizeLine_eq, show ("any" : Str).length = 3 by decide, show (" " : Str).length = 1 by decide]
      omega
    | _ => cases hi
theorem ok_Contrary_text0 {f : Addr} {fd : FuncData} (F : Fun K "text" "Contrary.text" s_Contrary_text f fd) : FnOk P w K mg base CX0 1 f fd ["self"] (spText K c 0 .co) := by
  refine F.ok sc_Contrary_text (fun vs H Q E h => ?_) (fun cdv A outer s H vs Q E hr h => ?_)
  · obtain ⟨_, _, rfl, _⟩ := h
    rfl
  · obtain ⟨x, k, rfl, hk, hi, hn, _⟩ := h
    cases k <;> first | exact absurd hn (Nat.not_succ_le_zero _) | cases hi
theorem ok_Pair_text0 {f : Addr} {fd : FuncData} (F : Fun K "text" "Pair.text" s_Pair_text f fd) : FnOk P w K mg base CX0 1 f fd ["self"] (spText K c 0 .pa) := by
  refine F.ok sc_Pair_text (fun vs H Q E h => ?_) (fun cdv A outer s H vs Q E hr h => ?_)
  · obtain ⟨_, _, rfl, _⟩ := h
    rfl
  · obtain ⟨x, k, rfl, hk, hi, hn, _⟩ := h
    cases k <;> first | exact absurd hn (Nat.not_succ_le_zero _) | cases hi
structure TextFs (K : PySem.W.Frag) (c : KC) : Prop where
  ha : ∃ f fd, Meth K (c .ha) "text" f ∧ Fun K "text" "Halves.text" s_Halves_text f fd ∧ Binds K fd ["self"] []
  bo : ∃ f fd, Meth K (c .bo) "text" f ∧ Fun K "text" "Boxes.text" s_Boxes_text f fd ∧ Binds K fd ["self"] []
  ri : ∃ f fd, Meth K (c .ri) "text" f ∧ Fun K "text" "Rising.text" s_Rising_text f fd ∧ Binds K fd ["self"] []
  fl : ∃ f fd, Meth K (c .fl) "text" f ∧ Fun K "text" "Flats.text" s_Flats_text f fd ∧ Binds K fd ["self"] []
  tu : ∃ f fd, Meth K (c .tu) "text" f ∧ Fun K "text" "Turns.text" s_Turns_text f fd ∧ Binds K fd ["self"] []
  co : ∃ f fd, Meth K (c .co) "text" f ∧ Fun K "text" "Contrary.text" s_Contrary_text f fd ∧ Binds K fd ["self"] []
  pa : ∃ f fd, Meth K (c .pa) "text" f ∧ Fun K "text" "Pair.text" s_Pair_text f fd ∧ Binds K fd ["self"] []
theorem text_all (S : KCl K c) (Fs : TextFs K c) : ∀ n, TextM P w K mg base c n := by
  intro n
  induction n with
  | zero =>
    intro i
    cases i with
    | ha =>
      obtain ⟨f, fd, m, F, b⟩ := Fs.ha
      exact ⟨1, by omega, ⟨f, fd, _, _, S.cl _, m, ok_Halves_text F S 0, b, .nil⟩⟩
    | bo =>
      obtain ⟨f, fd, m, F, b⟩ := Fs.bo
      exact ⟨1, by omega, ⟨f, fd, _, _, S.cl _, m, ok_Boxes_text F S 0, b, .nil⟩⟩
    | ri =>
      obtain ⟨f, fd, m, F, b⟩ := Fs.ri
      exact ⟨1, by omega, ⟨f, fd, _, _, S.cl _, m, ok_Rising_text F S 0, b, .nil⟩⟩
    | fl =>
      obtain ⟨f, fd, m, F, b⟩ := Fs.fl
      exact ⟨1, by omega, ⟨f, fd, _, _, S.cl _, m, ok_Flats_text F S 0, b, .nil⟩⟩
    | tu =>
      obtain ⟨f, fd, m, F, b⟩ := Fs.tu
      exact ⟨1, by omega, ⟨f, fd, _, _, S.cl _, m, ok_Turns_text F S 0, b, .nil⟩⟩
    | co =>
      obtain ⟨f, fd, m, F, b⟩ := Fs.co
      exact ⟨1, by omega, ⟨f, fd, _, _, S.cl _, m, ok_Contrary_text0 F, b, .nil⟩⟩
    | pa =>
      obtain ⟨f, fd, m, F, b⟩ := Fs.pa
      exact ⟨1, by omega, ⟨f, fd, _, _, S.cl _, m, ok_Pair_text0 F, b, .nil⟩⟩
  | succ n ih =>
    intro i
    cases i with
    | ha =>
      obtain ⟨f, fd, m, F, b⟩ := Fs.ha
      exact ⟨1, by omega, ⟨f, fd, _, _, S.cl _, m, ok_Halves_text F S (n + 1), b, .nil⟩⟩
    | bo =>
      obtain ⟨f, fd, m, F, b⟩ := Fs.bo
      exact ⟨1, by omega, ⟨f, fd, _, _, S.cl _, m, ok_Boxes_text F S (n + 1), b, .nil⟩⟩
    | ri =>
      obtain ⟨f, fd, m, F, b⟩ := Fs.ri
      exact ⟨1, by omega, ⟨f, fd, _, _, S.cl _, m, ok_Rising_text F S (n + 1), b, .nil⟩⟩
    | fl =>
      obtain ⟨f, fd, m, F, b⟩ := Fs.fl
      exact ⟨1, by omega, ⟨f, fd, _, _, S.cl _, m, ok_Flats_text F S (n + 1), b, .nil⟩⟩
    | tu =>
      obtain ⟨f, fd, m, F, b⟩ := Fs.tu
      exact ⟨1, by omega, ⟨f, fd, _, _, S.cl _, m, ok_Turns_text F S (n + 1), b, .nil⟩⟩
    | co =>
      obtain ⟨f, fd, m, F, b⟩ := Fs.co
      exact ⟨n + 2, by omega, ⟨f, fd, _, _, S.cl _, m, ok_Contrary_text F S n ih, b, .nil⟩⟩
    | pa =>
      obtain ⟨f, fd, m, F, b⟩ := Fs.pa
      exact ⟨n + 2, by omega, ⟨f, fd, _, _, S.cl _, m, ok_Pair_text F S n ih, b, .nil⟩⟩
end
end U

set_option Elab.async false
set_option linter.all false
set_option maxRecDepth 100000
set_option maxHeartbeats 4000000
/-! kinds built from what is said of them -/
namespace U
open PySem PySem.Spec PyProof.Rows L2
open Evl (Ex)
open C8 (Met Mak pe_mt pe_mt0 pe_mk)
structure OpI (P : Program) (w : World) (K : PySem.W.Frag) (mg : Str → Option Value) (base : Heap) (C : Addr) (op : Operator) (sp : Sp) : Prop where
  ex : ∃ (f : Addr) (fd : FuncData), FnOk P w K mg base CX0 3 f fd ["self", "other"] sp ∧ OpC K C (PySem.dunder op.info.2) (PySem.dunderR op.info.2) f ∧ Binds K fd ["self", "other"] []
structure InvI (P : Program) (w : World) (K : PySem.W.Frag) (mg : Str → Option Value) (base : Heap) (C : Addr) (sp : Sp) : Prop where
  ex : ∃ (f : Addr) (fd : FuncData), FnOk P w K mg base CX0 3 f fd ["self"] sp ∧ PySem.W.findIn K (.ref C) "__invert__" = some (some (.ref f)) ∧ PySem.W.isFn K (.ref f) = true ∧ Binds K fd ["self"] []
/-- the operators of kinds -/
structure KOp (P : Program) (w : World) (K : PySem.W.Frag) (mg : Str → Option Value) (base : Heap) (c : KC) : Prop where
  inv : ∀ i, InvI P w K mg base (c i) (spInv K c)
  and : ∀ i, OpI P w K mg base (c i) .BitAnd (spPr c .both)
  or : ∀ i, OpI P w K mg base (c i) .BitOr (spPr c .either)
  add : ∀ i, OpI P w K mg base (c i) .Add (spPr c .any)
  sub : ∀ i j, c i = c j ∨ PySem.W.subIn K (.ref (c j)) (.ref (c i)) = some false
def tK2 (c : KC) (sp : Sp) (ta tb : TE) : TE := tAny (fun _ => True) fun ij : KI × KI => tOwn2 (c ij.1) (c ij.2) sp ta tb
def tK1 (c : KC) (sp : Sp) (ta : TE) : TE := tAny (fun _ => True) fun i : KI => tInv (c i) sp ta
section
variable {X : Cx} {c : KC} {a b : Expr} {ta tb : TE} {pos : Pos} {op : Operator} {sp : Sp} {n : Nat}
theorem pe_k2 (O : ∀ i, OpI X.prog X.w X.K X.mg X.base (c i) op sp) (S : ∀ i j, c i = c j ∨ PySem.W.subIn X.K (.ref (c j)) (.ref (c i)) = some false) (hr : Room n X.A) (hn : 3 ≤ n) (ha : PE X a ta) (hb : PE X b tb) : PE X (.BinOp a op b pos) (tK2 c sp ta tb) := pe_any fun ij _ => by
  obtain ⟨f, fd, F, o1, hB⟩ := (O ij.1).ex
  obtain ⟨g, gd, G, o2, _⟩ := (O ij.2).ex
  exact pe_own2 F (hr.mono hn) o1 o2 (S ij.1 ij.2) hB ha hb
theorem pe_k1 (O : ∀ i, InvI X.prog X.w X.K X.mg X.base (c i) sp) (hr : Room n X.A) (hn : 3 ≤ n) (ha : PE X a ta) : PE X (.UnaryOp .Invert a pos) (tK1 c sp ta) := pe_any fun i _ => by
  obtain ⟨f, fd, F, hs, hf, hB⟩ := (O i).ex
  exact pe_inv F (hr.mono hn) hs hf hB ha
end
section
variable {K : PySem.W.Frag} {c : KC} {σ : L2.St} {H : Hp} {L : List Addr} {ta tb : TE} {x y : Addr} {k m : Kd}
theorem evk_2 {f : Kd → Kd → Kd} (h1 : Evl.Ev ta σ H (.ref x)) (h2 : Evl.Ev tb σ H (.ref y)) (hL : Hid L H) (hk : Kin c (W L H) k x) (hm : Kin c (W L H) m y) (hp : placesK k = placesK m) : EvK c L (tK2 c (spPr c f) ta tb) σ H (f k m) := fun H1 e Q q => by
  refine ⟨(kiOf k, kiOf m), trivial, h1 H1 e _ fun H2 e2 => h2 H2 (e.trans e2) _ fun H3 e3 => ?_⟩
  have eA := (e.trans e2).trans e3
  have a1 := hk.up (w_ex eA)
  have a2 := hm.up (w_ex eA)
  obtain ⟨d1, f1, y1, _⟩ := a1.ins
  obtain ⟨d2, f2, y2, _⟩ := a2.ins
  exact ⟨x, y, d1, d2, f1, f2, rfl, rfl, (w_in y1).1, (w_in y2).1, x, y, k, m, L, rfl, hid_ex eA hL, a1, a2, hp, fun z H' hz e' hz2 => ⟨z, rfl, q z H' (Evl.fresh_back (e2.trans e3) hz) ((e2.trans e3).trans e') hz2⟩⟩
theorem evk_1 (h1 : Evl.Ev ta σ H (.ref x)) (hL : Hid L H) (hk : Kin c (W L H) k x) : EvK c L (tK1 c (spInv K c) ta) σ H (.no k) := fun H1 e Q q => by
  refine ⟨kiOf k, trivial, h1 H1 e _ fun H2 e2 => ?_⟩
  have eA := e.trans e2
  have a1 := hk.up (w_ex eA)
  obtain ⟨d1, f1, y1, _⟩ := a1.ins
  exact ⟨x, d1, f1, rfl, (w_in y1).1, x, k, L, rfl, hid_ex eA hL, a1, fun z H' hz e' hz2 => q z H' (Evl.fresh_back e2 hz) (e2.trans e') hz2⟩
end
/-- makers of kinds -/
structure KMk (P : Program) (w : World) (K : PySem.W.Frag) (mg : Str → Option Value) (base : Heap) (c : KC) : Prop where
  ha : Mak P w K mg base 4 "Halves" (c .ha) (spI1 (c .ha)) []
  bo : Mak P w K mg base 4 "Boxes" (c .bo) (spI1 (c .bo)) []
  ri : Mak P w K mg base 4 "Rising" (c .ri) (spI1 (c .ri)) []
  fl : Mak P w K mg base 4 "Flats" (c .fl) (spI1 (c .fl)) []
  tu : Mak P w K mg base 2 "Turns" (c .tu) (spIT (c .tu)) []
def spBuilt (K : PySem.W.Frag) (c : KC) (n : Nat) : Sp := fun vs H Q _ => ∃ v k p L, vs = [v] ∧ Hid L H ∧ Dp K (W L H) v (kdD k) ∧ okK p k ∧ 1 ≤ p ∧ p ≤ 3 ∧ depK k ≤ n ∧ ∀ x H', H x = none → Ex H H' → Kin c (W L H') k x → Q (.ref x) H'
def spBuiltP (K : PySem.W.Frag) (c : KC) : Nat → Sp
  | 0 => fun _ _ _ _ => False
  | n + 1 => spBuilt K c n
theorem okK_places : ∀ {k : Kd} {p : Int}, okK p k → placesK k = p
  | .halves _, _, h => h
  | .boxes _, _, h => h
  | .rising _, _, h => h
  | .flats _, _, h => h
  | .turns _, _, h => h.1.symm
  | .no k, _, h => okK_places (k := k) h
  | .both k _, _, h => okK_places (k := k) h.1
  | .either k _, _, h => okK_places (k := k) h.1
  | .any k _, _, h => okK_places (k := k) h.1
section
variable {P : Program} {w : World} {K : PySem.W.Frag} {mg : Str → Option Value} {base : Heap} {c : KC}
theorem k_ret {te : TE} {σ : L2.St} {H : Hp} {L : List Addr} {k : Kd} {D : Ends} (h : EvK c L te σ H k) (q : ∀ x H', H x = none → Ex H H' → Kin c (W L H') k x → D.rt (.ref x) H') : tRet te D σ H := h H (Ex.refl H) _ q
theorem q_asgK {te : TE} {σ : L2.St} {H : Hp} {L : List Addr} {k : Kd} {D : Ends} {tz : TS} {i : Nat} (h : EvK c L te σ H k) (q : ∀ x H', H x = none → Ex H H' → Kin c (W L H') k x → tz D (σ.set i (some (.ref x))) H') : tSeq (tAsg te (gName i)) tz D σ H := h H (Ex.refl H) _ q
theorem ev_built {te : TE} {σ : L2.St} {H : Hp} {L : List Addr} {k : Kd} {p : Int} {n : Nat} {v : V} (h : Evl.Ev te σ H v) (hL : Hid L H) (hv : Dp K (W L H) v (kdD k)) (hok : okK p k) (p1 : 1 ≤ p) (p3 : p ≤ 3) (hdep : depK k ≤ n) : EvK c L (tCallD (spBuiltP K c (n + 1)) (tCons te tNil)) σ H k := fun H1 e Q q =>
  h H1 e _ fun H2 e2 => ⟨v, k, p, L, rfl, hid_ex (e.trans e2) hL, hv.up (w_ex (e.trans e2)), hok, p1, p3, hdep, fun x H' hx e' hk => q x H' (Evl.fresh_back e2 hx) (e2.trans e') hk⟩
theorem evk_ift {tc : TT} {ta tb : TE} {σ : L2.St} {H : Hp} {L : List Addr} {k : Kd} (ht : Evl.EvT tc σ H true) (h : ∀ H1, Ex H H1 → EvK c L ta σ H1 k) : EvK c L (tIf tc ta tb) σ H k := fun H1 e Q q => ht H1 e _ fun H2 e2 => by
  show (if true = true then _ else _)
  simp only [if_true]
  exact h H2 (e.trans e2) H2 (Ex.refl _) Q fun x H3 hx e3 hk => q x H3 (Evl.fresh_back e2 hx) (e2.trans e3) hk
theorem evk_iff {tc : TT} {ta tb : TE} {σ : L2.St} {H : Hp} {L : List Addr} {k : Kd} (ht : Evl.EvT tc σ H false) (h : ∀ H1, Ex H H1 → EvK c L tb σ H1 k) : EvK c L (tIf tc ta tb) σ H k := fun H1 e Q q => ht H1 e _ fun H2 e2 => by
  show (if false = true then _ else _)
  simp only [Bool.false_eq_true, if_false]
  exact h H2 (e.trans e2) H2 (Ex.refl _) Q fun x H3 hx e3 hk => q x H3 (Evl.fresh_back e2 hx) (e2.trans e3) hk
end
end U

set_option Elab.async false
set_option linter.all false
set_option maxRecDepth 100000
set_option maxHeartbeats 2000000
/-! defs that may raise an own error with one field -/
namespace U
open PySem PySem.Spec PyProof.Rows L2
open Evl (Ex)
/-- a def that may raise, with its promise -/
structure DefX (P : Program) (w : World) (K : PySem.W.Frag) (mg : Str → Option Value) (base : Heap) (x : Str) (k : Nat) (ps : List Str) (sp : Sp) : Prop where
  ex : ∃ (f : Addr) (fd : FuncData), FnOk P w K mg base (CX P w) k f fd ps sp ∧ mg x = some (.ref f) ∧ PySem.W.keepIn K (.ref f) = true ∧ Binds K fd ps []
/-- f(e, ..): what it raises is E -/
def tCallX (sp : Sp) (E : XK) (t : TA) : TE := fun σ H Q => t σ H fun vs H1 => sp vs H1 Q E
theorem pe_callX {X : Cx} {x : Str} {k : Nat} {ps : List Str} {sp : Sp} {p pos : Pos} {e : Expr} {es : List Expr} {t : TA} {E : XK} (D : DefX X.prog X.w X.K X.mg X.base x k ps sp) (hr : Room k X.A) (hx : Passes (CX X.prog X.w) X E) (hg : Gl X x) (ha : PA X (e :: es) t)
    (hdb : (x == ("__debug__" : Str)) = false := by decide) (he : starEach (e :: es) X.env = (false, eval e X.env) :: starEach es X.env := by rfl) (hpl : (backTo pos (starEach es X.env)).any (·.1) = false := by rfl) :
    PE X (.Call (.Name x p) (e :: es) [] pos) (tCallX sp E t) := by
  obtain ⟨f, fd, F, hm, hk, hb⟩ := D.ex
  refine ⟨fun pins s σ H Q I h => (pe_call (E := E) F hr hg hm hk hb .nil hx ha hdb he hpl).run pins s σ H Q I ?_⟩
  have e1 : (fun (vs : List V) (H1 : Hp) => sp (vs ++ []) H1 Q E) = fun vs H1 => sp vs H1 Q E := by
    funext vs H1
    rw [List.append_nil]
  show t σ H fun vs H1 => sp (vs ++ []) H1 Q E
  rw [e1]
  exact h
/-- nothing leaves -/
theorem passX0 {X : Cx} : Passes (CX X.prog X.w) X E0 := fun _ _ _ _ _ _ _ c => by
  obtain ⟨_, _, _, _, _, _, _, _, _, _, _, _, z⟩ := c
  exact z.elim
theorem Passes.of {X : Cx} {E : XK} (tk : Takes X (fun cls d _ H => E cls d H)) : Passes (CX X.prog X.w) X E := passes_call tk fun _ _ _ _ h => h
/-- what an own __init__(self, f) promises -/
def spErrI (C : Addr) (f : Str) : Sp := fun vs H Q _ => ∃ (a : Addr) (v : V), vs = [.ref a, v] ∧ H a = some (exo a C none) ∧ ∀ dx, H dx = none → dx ≠ a → Q .non (upd (upd H dx (exd dx [(f, v)])) a (exo a C (some dx)))
theorem pmk_err {X : Cx} {x f : Str} {C : Addr} {e : Expr} {te : TE} {p pos : Pos} (R : ErrC X.prog X.w X.K X.mg X.base x C f) (hr : Room 2 X.A) (hg : Gl X x) (he : PE X e te) (hdb : (x == ("__debug__" : Str)) = false := by decide)
    (hs : starEach [e] X.env = (false, eval e X.env) :: starEach [] X.env := by rfl) : PMk X (.Call (.Name x p) [e] [] pos) (tMkO C (spErrI C f) [] (tCons te tNil)) := by
  obtain ⟨fI, fd, iC, tI, F1, hb, _⟩ := R.init
  exact pmk_oex R.T iC tI F1 hr hb .nil pass0 hg R.gC (pa_cons he pa_nil hs) hdb hs (by rfl)
theorem mk_err_run {C : Addr} {f : Str} {te : TE} {σ : L2.St} {H : Hp} {v : V} {Q : XK} (h : Evl.Ev te σ H v) (k : ∀ d H2, H d = none → Ex H H2 → H2 d = some (.xd [(f, v)]) → Q (.ref C) (some d) H2) : tMkO C (spErrI C f) [] (tCons te tNil) σ H Q :=
  h H (Ex.refl _) _ fun H1 e1 => ⟨by simp, fun a ha => ⟨a, v, rfl, upd_same, fun dx hdx nx => by
    have hd1 : H1 dx = none := by
      rw [upd_ne nx] at hdx
      exact hdx
    refine ⟨rfl, dx, [(f, v)], upd_same, by rw [upd_ne nx, upd_same], hd1, k dx _ (Evl.fresh_back e1 hd1) (fun b o e => ?_) upd_same⟩
    have e' := e1 b o e
    have n1 : b ≠ a := ne_of_none e' ha
    have n2 : b ≠ dx := ne_of_none e' hd1
    rw [upd_ne n2]
    show del _ a b = _
    rw [del_ne n1, upd_ne n1, upd_ne n2, upd_ne n1]
    exact e'⟩⟩
/-- an error whose field is v was made and raised -/
def ErrE (C : Addr) (f : Str) (v : V) (H : Hp) (E : XK) : Prop := ∀ d H2, H d = none → Ex H H2 → H2 d = some (.xd [(f, v)]) → E (.ref C) (some d) H2
theorem ErrE.ex {C : Addr} {f : Str} {v : V} {H H1 : Hp} {E : XK} (h : ErrE C f v H E) (e : Ex H H1) : ErrE C f v H1 E := fun d H2 hd e2 hx => h d H2 (Evl.fresh_back e hd) (e.trans e2) hx
end U

set_option Elab.async false
set_option linter.all false
set_option maxRecDepth 100000
set_option maxHeartbeats 4000000
/-! kinds read from words -/
namespace U
open PySem PySem.Spec PyProof.Rows L2
open Evl (Ex)
open C8 (Met Mak pe_mt pe_mt0 pe_mk)
abbrev s_word_at : Stmt := top 28
abbrev sc_word_at_N : List Str := ["words", "at"]
theorem sc_word_at : FnScope sc_word_at_N ["words", "at"] (defScope s_word_at) := ⟨rfl, rfl, rfl, by decide +kernel, rfl, by decide +kernel, by decide +kernel⟩
abbrev s_number_at : Stmt := top 27
abbrev sc_number_at_N : List Str := ["words", "at", "least", "most", "word", "number"]
theorem sc_number_at : FnScope sc_number_at_N ["words", "at", "least", "most"] (defScope s_number_at) := ⟨rfl, rfl, rfl, by decide +kernel, rfl, by decide +kernel, by decide +kernel⟩
abbrev s_plain_kind_at : Stmt := top 26
abbrev sc_plain_kind_at_N : List Str := ["words", "at", "places", "word", "number"]
theorem sc_plain_kind_at : FnScope sc_plain_kind_at_N ["words", "at", "places"] (defScope s_plain_kind_at) := ⟨rfl, rfl, rfl, by decide +kernel, rfl, by decide +kernel, by decide +kernel⟩
abbrev s_put_together : Stmt := top 25
abbrev sc_put_together_N : List Str := ["word", "one", "other"]
theorem sc_put_together : FnScope sc_put_together_N ["word", "one", "other"] (defScope s_put_together) := ⟨rfl, rfl, rfl, by decide +kernel, rfl, by decide +kernel, by decide +kernel⟩
abbrev s_kind_at : Stmt := top 24
abbrev sc_kind_at_N : List Str := ["words", "at", "places", "word", "kind", "end", "one", "middle", "other"]
theorem sc_kind_at : FnScope sc_kind_at_N ["words", "at", "places"] (defScope s_kind_at) := ⟨rfl, rfl, rfl, by decide +kernel, rfl, by decide +kernel, by decide +kernel⟩
abbrev s_read_kind : Stmt := top 23
abbrev sc_read_kind_N : List Str := ["text", "words", "kind", "end"]
theorem sc_read_kind : FnScope sc_read_kind_N ["text"] (defScope s_read_kind) := ⟨rfl, rfl, rfl, by decide +kernel, rfl, by decide +kernel, by decide +kernel⟩
abbrev BadT (P : Program) (w : World) (K : PySem.W.Frag) (mg : Str → Option Value) (base : Heap) (BT : Addr) : Prop := ErrC P w K mg base "BadText" BT "index"
structure TxS (mg : Str → Option Value) : Prop extends TxK mg where
  m_str : mg "str" = none
  m_min : mg "min" = none
def numFirst (w : Str) (lo : Int) : Nat → Option Int
  | 0 => none
  | n + 1 => if w = toString lo then some lo else numFirst w (lo + 1) n
def numAt (ws : List Str) (i : Nat) (lo hi : Int) : Except Nat Int := match ws[i]? with
  | none => .error i
  | some w => match numFirst w lo (hi + 1 - lo).toNat with
    | some n => .ok n
    | none => .error i
def plV : Option Int → V
  | none => .non
  | some p => .int p
def plLo : Option Int → Int
  | none => 1
  | some p => p
def plHi : Option Int → Int
  | none => 3
  | some p => p
def plOk (pl : Option Int) : Prop := ∀ p, pl = some p → 1 ≤ p ∧ p ≤ 3
def mkPl (w : Str) (n : Int) : Kd := if w = "halves" then .halves n else if w = "boxes" then .boxes n else if w = "rising" then .rising n else .flats n
def plainAt (ws : List Str) (w : Str) (i : Nat) (pl : Option Int) : Except Nat Kd :=
  if w = "turns" ∧ (pl = none ∨ pl = some 1) then (numAt ws (i + 1) 0 6).map Kd.turns
  else if ¬ (w = "halves" ∨ w = "boxes" ∨ w = "rising" ∨ w = "flats") then .error i
  else (numAt ws (i + 1) (plLo pl) (plHi pl)).map (mkPl w)
def mkJ (w : Str) (k m : Kd) : Kd := if w = "both" then .both k m else if w = "either" then .either k m else .any k m
def kindAt (ws : List Str) : Nat → Nat → Option Int → Except Nat (Kd × Nat)
  | 0, i, _ => .error i
  | n + 1, i, pl => match ws[i]? with
    | none => .error i
    | some w =>
      if w = "not" then match kindAt ws n (i + 1) pl with
        | .error e => .error e
        | .ok (k, j) => .ok (.no k, j)
      else if w = "both" ∨ w = "either" ∨ w = "any" then match kindAt ws n (i + 1) pl with
        | .error e => .error e
        | .ok (k, j) => match kindAt ws n j (some (placesK k)) with
          | .error e => .error e
          | .ok (m, j2) => .ok (mkJ w k m, j2)
      else match plainAt ws w i pl with
        | .error e => .error e
        | .ok k => .ok (k, i + 2)
/-- of so many places, its numbers as the program takes them -/
def okT (p : Int) : Kd → Prop
  | .halves q => q = p
  | .boxes q => q = p
  | .rising q => q = p
  | .flats q => q = p
  | .turns m => p = 1 ∧ 0 ≤ m ∧ m ≤ 6
  | .no k => okT p k
  | .both k m => okT p k ∧ okT p m
  | .either k m => okT p k ∧ okT p m
  | .any k m => okT p k ∧ okT p m
theorem okT_places : ∀ {k : Kd} {p : Int}, okT p k → placesK k = p
  | .halves _, _, h => h
  | .boxes _, _, h => h
  | .rising _, _, h => h
  | .flats _, _, h => h
  | .turns _, _, h => h.1.symm
  | .no k, _, h => okT_places (k := k) h
  | .both k _, _, h => okT_places (k := k) h.1
  | .either k _, _, h => okT_places (k := k) h.1
  | .any k _, _, h => okT_places (k := k) h.1
theorem numFirst_in {w : Str} : ∀ {n : Nat} {lo r : Int}, numFirst w lo n = some r → lo ≤ r ∧ r < lo + n
  | 0, _, _, h => nomatch h
  | n + 1, lo, r, h => by
    unfold numFirst at h
    split at h
    · cases h
      omega
    · have := numFirst_in h
      omega
theorem numAt_in {ws : List Str} {i : Nat} {lo hi r : Int} (h : numAt ws i lo hi = .ok r) : lo ≤ r ∧ r ≤ hi := by
  unfold numAt at h
  split at h
  · cases h
  · split at h
    · rename_i e
      cases h
      have := numFirst_in e
      omega
    · cases h
theorem plainAt_ok {ws : List Str} {w : Str} {i : Nat} {pl : Option Int} {k : Kd} (hp : plOk pl) (h : plainAt ws w i pl = .ok k) : ∃ p, 1 ≤ p ∧ p ≤ 3 ∧ okT p k ∧ (pl = none ∨ pl = some p) := by
  unfold plainAt at h
  split at h
  · rename_i z
    cases e : numAt ws (i + 1) 0 6 with
    | error _ => rw [e] at h; cases h
    | ok m =>
      rw [e] at h
      cases h
      have := numAt_in e
      exact ⟨1, by decide, by decide, ⟨rfl, this⟩, z.2⟩
  · split at h
    · cases h
    · cases e : numAt ws (i + 1) (plLo pl) (plHi pl) with
      | error _ => rw [e] at h; cases h
      | ok m =>
        rw [e] at h
        cases h
        have hm := numAt_in e
        have ok : okT m (mkPl w m) := by
          unfold mkPl
          split
          · rfl
          · split
            · rfl
            · split <;> rfl
        cases pl with
        | none => exact ⟨m, by have := hm.1; simp [plLo] at this; omega, by have := hm.2; simp [plHi] at this; omega, ok, .inl rfl⟩
        | some p =>
          have h1 := hp p rfl
          have : m = p := by
            have a := hm.1
            have b := hm.2
            simp [plLo, plHi] at a b
            omega
          subst this
          exact ⟨m, h1.1, h1.2, ok, .inr rfl⟩
theorem kindAt_ok {ws : List Str} : ∀ {n i : Nat} {pl : Option Int} {k : Kd} {j : Nat}, plOk pl → kindAt ws n i pl = .ok (k, j) → i < j ∧ ∃ p, 1 ≤ p ∧ p ≤ 3 ∧ okT p k ∧ (pl = none ∨ pl = some p)
  | 0, _, _, _, _, _, h => nomatch h
  | n + 1, i, pl, k, j, hp, h => by
    unfold kindAt at h
    split at h
    · cases h
    · split at h
      · split at h
        · cases h
        · rename_i e
          cases h
          have := kindAt_ok hp e
          exact ⟨by omega, this.2⟩
      · split at h
        · split at h
          · cases h
          · rename_i k1 j1 e1
            obtain ⟨l1, p, p1, p3, o1, z1⟩ := kindAt_ok hp e1
            have hp2 : plOk (some (placesK k1)) := fun q hq => by
              cases hq
              rw [okT_places o1]
              exact ⟨p1, p3⟩
            split at h
            · cases h
            · rename_i m j2 e2
              obtain ⟨l2, p', _, _, o2, z2⟩ := kindAt_ok hp2 e2
              cases h
              have ep : p' = p := by
                rcases z2 with z2 | z2
                · cases z2
                · have := Option.some.inj z2
                  rw [← this, okT_places o1]
              rw [ep] at o2
              refine ⟨by omega, p, p1, p3, ?_, z1⟩
              unfold mkJ
              split
              · exact ⟨o1, o2⟩
              · split <;> exact ⟨o1, o2⟩
        · split at h
          · cases h
          · rename_i e
            cases h
            obtain ⟨p, p1, p3, o, z⟩ := plainAt_ok hp e
            exact ⟨by omega, p, p1, p3, o, z⟩
theorem eqS (a b : Str) : eqV (.str a) (.str b) = decide (a = b) := by
  by_cases e : a = b
  · subst e
    simp [eqV]
  · simp [eqV, e]
theorem dS (a b : Str) : decide (V.str a = V.str b) = decide (a = b) := decide_eq_decide.mpr ⟨fun h => by injection h, fun h => by rw [h]⟩
theorem inSs (z : Str) (l : List Str) : inV (.str z) (l.map V.str) = decide (z ∈ l) := by
  unfold inV
  rw [List.any_map]
  induction l with
  | nil => rfl
  | cons a r ih =>
    rw [List.any_cons, ih]
    show (eqV (.str a) (.str z) || _) = _
    rw [eqS]
    by_cases h : a = z
    · subst h
      simp
    · have h' : ¬ z = a := fun e => h e.symm
      simp [h, h']
theorem inS3 (z a b c : Str) : inV (.str z) [.str a, .str b, .str c] = decide (z = a ∨ z = b ∨ z = c) := (inSs z [a, b, c]).trans (by simp)
theorem inS4 (z a b c d : Str) : inV (.str z) [.str a, .str b, .str c, .str d] = decide (z = a ∨ z = b ∨ z = c ∨ z = d) := (inSs z [a, b, c, d]).trans (by simp)
section
variable {P : Program} {w : World} {K : PySem.W.Frag} {mg : Str → Option Value} {base : Heap} {c : KC} {BT : Addr}
def spWordAt (K : PySem.W.Frag) (BT : Addr) : Sp := fun vs H Q E => ∃ (a : Addr) (ws : List Str) (i : Nat), vs = [.ref a, .int i] ∧ SqL K H a (ws.map V.str) ∧ ws.length ≤ 5000 ∧ match ws[i]? with
  | some w => ∀ H', Ex H H' → Q (.str w) H'
  | none => ErrE BT "index" (.int i) H E
theorem ok_word_at {f : Addr} {fd : FuncData} (F : Fun K "_word_at" "_word_at" s_word_at f fd) (T : TxF mg) (R : BadT P w K mg base BT) : FnOk P w K mg base (CX P w) 3 f fd ["words", "at"] (spWordAt K BT) := by
  refine F.okX sc_word_at (fun vs H Q E h => ?_) (fun cdv A outer s H vs Q E hr h => ?_)
  · obtain ⟨_, _, _, rfl, _⟩ := h
    rfl
  · obtain ⟨a, ws, i, rfl, hx, hl, k⟩ := h
    refine ⟨_, (pss_cons (ps_if (pt_cmpR op_ge (pv 1) (pe_callB call_len_seq (by rfl) T.m_len (by decide +kernel) (pa_cons (pv 0) pa_nil)) (nomark _)) (pss_one (ps_raise rfl (takes_of rfl rfl rfl rfl) (pmk_err R hr (by rfl) (pv 1)))) pss_nil)
    (pss_one (ps_ret (pe_ix ix_list (pv 0) (pv 1) (fun _ _ => rfl))))), ?_⟩
    have v0 : ∀ H1, Evl.Ev (tVar 0) (start sc_word_at_N [.ref a, .int i]) H1 (.ref a) := fun H1 => Evl.ev_var rfl
    have v1 : ∀ H1, Evl.Ev (tVar 1) (start sc_word_at_N [.ref a, .int i]) H1 (.int i) := fun H1 => Evl.ev_var rfl
    refine Evl.q_when (b := decide ((i : Int) ≥ ((ws.length : Nat) : Int))) (Evl.et_is (Evl.et_test (Evl.ev_op (v1 H) (ev_lenS (v0 H) (.inl hx)) (Evl.rv_I0 (g := fun a b => .bl (decide (a ≥ b)))))) (by rw [List.length_map])) (fun z H1 e1 => ?_) (fun z H1 e1 => ?_)
    · have hi : ws[i]? = none := List.getElem?_eq_none (by have := of_decide_eq_true z; omega)
      rw [hi] at k
      exact mk_err_run (v1 H1) fun d H2 hd e2 hx => k d H2 (Evl.fresh_back e1 hd) (e1.trans e2) hx
    · have hi : i < ws.length := by have := of_decide_eq_false z; omega
      rw [List.getElem?_eq_getElem hi] at k
      exact Evl.s_ret (Evl.ev_op (v0 H1) (v1 H1) (Evl.rv_ixL (Evl.ex_l e1 hx) (atI_nat (by rw [List.getElem?_map, List.getElem?_eq_getElem hi]; rfl)))) fun H2 e2 => k H2 (e1.trans e2)
theorem evx_ok {sp : Sp} {E : XK} {ta : TA} {vs : List V} {z : V} {σ : L2.St} {H : Hp} (h : Evl.EvA ta σ H vs) (hs : ∀ H1, Ex H H1 → ∀ Q : VK, (∀ H2, Ex H1 H2 → Q z H2) → sp vs H1 Q E) : Evl.Ev (tCallX sp E ta) σ H z := fun H1 e Q q =>
  h H1 e _ fun H2 e2 => hs H2 (e.trans e2) Q fun H3 e3 => q H3 (e2.trans e3)
theorem evx_run {sp : Sp} {E : XK} {ta : TA} {vs : List V} {σ : L2.St} {H : Hp} {Q : VK} (h : Evl.EvA ta σ H vs) (hs : ∀ H1, Ex H H1 → sp vs H1 Q E) : tCallX sp E ta σ H Q := h H (Ex.refl _) _ hs
def spNumAt (K : PySem.W.Frag) (BT : Addr) : Sp := fun vs H Q E => ∃ (a : Addr) (ws : List Str) (i : Nat) (lo hi : Int), vs = [.ref a, .int i, .int lo, .int hi] ∧ SqL K H a (ws.map V.str) ∧ ws.length ≤ 5000 ∧ 0 ≤ lo ∧ lo ≤ 9 ∧ 0 ≤ hi ∧ hi ≤ 9 ∧ match numAt ws i lo hi with
  | .ok n => ∀ H', Ex H H' → Q (.int n) H'
  | .error j => ErrE BT "index" (.int j) H E
theorem numFirst_skip {w : Str} : ∀ (j : Nat) {n : Nat} {lo : Int}, j ≤ n → (∀ i : Nat, i < j → w ≠ toString (lo + i)) → numFirst w lo n = numFirst w (lo + j) (n - j)
  | 0, n, lo, _, _ => by simp
  | j + 1, 0, lo, h, _ => by omega
  | j + 1, n + 1, lo, h, q => by
    have q0 := q 0 (by omega)
    have e0 : lo + ((0 : Nat) : Int) = lo := by omega
    rw [e0] at q0
    have h1 : numFirst w lo (n + 1) = numFirst w (lo + 1) n := if_neg q0
    rw [h1, numFirst_skip j (n := n) (lo := lo + 1) (by omega) fun i hi => by
      have := q (i + 1) (by omega)
      have e : lo + ((i + 1 : Nat) : Int) = lo + 1 + i := by omega
      rw [e] at this
      exact this]
    have e1 : lo + 1 + (j : Int) = lo + ((j + 1 : Nat) : Int) := by omega
    rw [e1, show n + 1 - (j + 1) = n - j by omega]
theorem ok_number_at {f : Addr} {fd : FuncData} (F : Fun K "_number_at" "_number_at" s_number_at f fd) (T : TxS mg) (R : BadT P w K mg base BT) (D_word : DefX P w K mg base "_word_at" 3 ["words", "at"] (spWordAt K BT)) : FnOk P w K mg base (CX P w) 4 f fd ["words", "at", "least", "most"] (spNumAt K BT) := by
  refine F.okX sc_number_at (fun vs H Q E h => ?_) (fun cdv A outer s H vs Q E hr h => ?_)
  · obtain ⟨_, _, _, _, _, rfl, _⟩ := h
    rfl
  · obtain ⟨a, ws, i, lo, hi, rfl, hx, hl, l0, l9, h0, h9, k⟩ := h
    refine ⟨_, (pss_cons (ps_set (i := 4) sc_number_at.nd rfl (by first | exact Or.inl rfl | exact Or.inr rfl) (pe_callX D_word (hr.mono (by omega)) (Passes.of (takes_of rfl rfl rfl rfl)) (by rfl) (pa_cons (pv 0) (pa_cons (pv 1) pa_nil))))
    (pss_cons (ps_for (passes_of rfl) rfl (pi_range2 (by rfl) T.m_range (pa_cons (pv 2) (pa_cons (pe_op op_add (pv 3) pe_int) pa_nil))) (pg_name (i := 5) sc_number_at.nd rfl (by first | exact Or.inl rfl | exact Or.inr rfl))
      (pss_one (ps_if (pt_cmpR op_eq (pv 4) (pe_callTy call_str_int (by rfl) T.m_str (by decide +kernel) (pa_cons (pv 5) pa_nil)) (nomark _)) (pss_one (ps_ret (pv 5))) pss_nil)))
    (pss_one (ps_raise rfl (takes_of rfl rfl rfl rfl) (pmk_err R (hr.mono (by omega)) (by rfl) (pv 1)))))), ?_⟩
    have args : Evl.EvA (tCons (tVar 0) (tCons (tVar 1) tNil)) (start sc_number_at_N [.ref a, .int i, .int lo, .int hi]) H [.ref a, .int i] := Evl.ea_cons (Evl.ev_var rfl) (Evl.ea_cons (Evl.ev_var rfl) Evl.ea_nil)
    unfold numAt at k
    cases hw : ws[i]? with
    | none =>
      rw [hw] at k
      exact evx_run args fun H1 e1 => ⟨a, ws, i, rfl, Evl.ex_l e1 hx, hl, by rw [hw]; exact ErrE.ex k e1⟩
    | some z =>
      rw [hw] at k
      dsimp only at k
      refine Evl.q_asg (v := .str z) (evx_ok args fun H1 e1 Q q => ⟨a, ws, i, rfl, Evl.ex_l e1 hx, hl, by rw [hw]; exact q⟩) fun H2 eA => ?_
      refine Evl.q_forR2 (lo := lo) (n := hi + 1) (Evl.ea_cons (Evl.ev_var (i := 2) (v := .int lo) rfl) (Evl.ea_cons (Evl.ev_op (Evl.ev_var (i := 3) (v := .int hi) rfl) Evl.ev_c (Evl.rv_I0 (g := fun a b => .int (a + b)))) Evl.ea_nil)) (by omega)
        (fun j σ' H' => Ex H H' ∧ (∀ q : Nat, q < j → z ≠ toString (lo + q)) ∧ ∃ o, σ' = [some (.ref a), some (.int i), some (.int lo), some (.int hi), some (.str z), o]) (fun H3 e3 => ⟨eA.trans e3, fun q hq => absurd hq (Nat.not_lt_zero _), none, rfl⟩) ?_ ?_
      · rintro j σ' H3 hj ⟨e3, hq, o, rfl⟩
        have lg : (lo + (j : Int)).natAbs.log2 < 1920 := by
          have : (lo + (j : Int)).natAbs < 2 ^ 10 := by omega
          have h2 : (lo + (j : Int)).natAbs.log2 < 10 := by
            by_cases h0 : (lo + (j : Int)).natAbs = 0
            · rw [h0]; decide
            · exact (Nat.log2_lt h0).mpr this
          omega
        refine Evl.s_when (b := decide (z = toString (lo + (j : Int)))) (Evl.et_is (Evl.et_test (Evl.ev_op (y := .str (toString (lo + (j : Int)))) (Evl.ev_var (v := .str z) rfl) (fun H4 e4 Q q => ⟨_, rfl, lo + j, rfl, lg, q H4 (Ex.refl _)⟩) (Evl.rv_eq rfl))) (dS _ _)) (fun hz H4 e4 => ?_) (fun hz H4 e4 => ?_)
        · have e : numFirst z lo (hi + 1 - lo).toNat = some (lo + j) := by
            rw [numFirst_skip j (by omega) hq]
            obtain ⟨m, hm⟩ : ∃ m, (hi + 1 - lo).toNat - j = m + 1 := ⟨(hi + 1 - lo).toNat - j - 1, by omega⟩
            rw [hm]
            exact if_pos (of_decide_eq_true hz)
          rw [e] at k
          exact Evl.s_ret (Evl.ev_var rfl) fun H5 e5 => k H5 ((e3.trans e4).trans e5)
        · refine ⟨e3.trans e4, fun q hq' => ?_, _, rfl⟩
          rcases Nat.lt_succ_iff_lt_or_eq.mp hq' with h | h
          · exact hq q h
          · rw [h]
            exact of_decide_eq_false hz
      · rintro σ' H3 ⟨e3, hq, o, rfl⟩
        have e : numFirst z lo (hi + 1 - lo).toNat = none := by
          rw [numFirst_skip _ (Nat.le_refl _) hq, Nat.sub_self]
          rfl
        rw [e] at k
        exact mk_err_run (Evl.ev_var (v := .int i) rfl) fun d H4 hd e4 hx4 => k d H4 (Evl.fresh_back e3 hd) (e3.trans e4) hx4
theorem ev_ninU {σ : L2.St} {H : Hp} {ta tb : TE} {x : V} {xs : List V} (ha : Evl.Ev ta σ H x) (hb : Evl.EvU tb σ H xs) (hx : flatV x = true) (hf : xs.all flatV = true) : Evl.Ev (tOp (rIn K true) ta tb) σ H (.bl (!inV x xs)) := Evl.ev_opU ha hb fun _ _ h _ => Evl.rv_inT (neg := true) (SqT.of h) hx hf
def spPlainAt (K : PySem.W.Frag) (c : KC) (BT : Addr) : Sp := fun vs H Q E => ∃ (a : Addr) (ws : List Str) (i : Nat) (pl : Option Int) (z : Str) (L : List Addr), vs = [.ref a, .int i, plV pl] ∧ SqL K H a (ws.map V.str) ∧ ws.length ≤ 5000 ∧ plOk pl ∧ ws[i]? = some z ∧ Hid L H ∧ match plainAt ws z i pl with
  | .ok k => ∀ x H', H x = none → Ex H H' → Kin c (W L H') k x → Q (.ref x) H'
  | .error j => ErrE BT "index" (.int j) H E
theorem plV_in (pl : Option Int) : inV (plV pl) [.non, .int 1] = decide (pl = none ∨ pl = some 1) := by
  cases pl with
  | none => rfl
  | some p =>
    by_cases h : p = 1
    · subst h
      rfl
    · have h' : ¬ (1 : Int) = p := fun e => h e.symm
      simp [inV, plV, eqV, h, h']
theorem ev_orPl {σ : L2.St} {H : Hp} {te : TE} {pl : Option Int} {d : Int} (hp : plOk pl) (h : Evl.Ev te σ H (plV pl)) : Evl.Ev (tOrT K te (tC (.int d))) σ H (.int (pl.getD d)) := fun H1 e Q q => h H1 e _ fun H2 e2 => by
  cases pl with
  | none => exact ⟨false, rfl, q H2 e2⟩
  | some p =>
    have := hp p rfl
    exact ⟨true, by show true = (p != 0); simp; omega, q H2 e2⟩
theorem ok_plain_kind_at {f : Addr} {fd : FuncData} (F : Fun K "_plain_kind_at" "_plain_kind_at" s_plain_kind_at f fd) (T : TxS mg) (R : BadT P w K mg base BT) (N : KMk P w K mg base c) (D_num : DefX P w K mg base "_number_at" 4 ["words", "at", "least", "most"] (spNumAt K BT)) : FnOk P w K mg base (CX P w) 6 f fd ["words", "at", "places"] (spPlainAt K c BT) := by
  refine F.okX sc_plain_kind_at (fun vs H Q E h => ?_) (fun cdv A outer s H vs Q E hr h => ?_)
  · obtain ⟨_, _, _, _, _, _, rfl, _⟩ := h
    rfl
  · obtain ⟨a, ws, i, pl, z, L, rfl, hx, hl, hp, hz, hL, k⟩ := h
    refine ⟨_, (pss_cons (ps_set (i := 3) sc_plain_kind_at.nd rfl (by first | exact Or.inl rfl | exact Or.inr rfl) (pe_ix ix_list (pv 0) (pv 1) (fun _ _ => rfl)))
    (pss_cons (ps_if (PW.pt (pw_and (pt_cmpR op_eq (pv 3) pe_str (nomark _)) (pw_and1 (pt_cmpR op_in_seq (pv 2) (pe_tup (pa_cons pe_non (pa_cons pe_int pa_nil))) (by rfl))))) (pss_one (ps_ret (pe_mk N.tu hr (by omega) (by rfl) (pa_cons (pe_callX D_num (hr.mono (by omega)) (Passes.of (takes_of rfl rfl rfl rfl)) (by rfl) (pa_cons (pv 0) (pa_cons (pe_op op_add (pv 1) pe_int) (pa_cons pe_int (pa_cons (pe_glob (v := .int 6) (by rfl) T.c_GREATEST_MOST.choose_spec (by exact ⟨_, rfl⟩)) pa_nil))))) pa_nil)))) pss_nil)
    (pss_cons (ps_if (pt_cmpR op_notIn_seq (pv 3) (pe_tup (pa_cons pe_str (pa_cons pe_str (pa_cons pe_str (pa_cons pe_str pa_nil))))) (by rfl)) (pss_one (ps_raise rfl (takes_of rfl rfl rfl rfl) (pmk_err R (hr.mono (by omega)) (by rfl) (pv 1)))) pss_nil)
    (pss_cons (ps_set (i := 4) sc_plain_kind_at.nd rfl (by first | exact Or.inl rfl | exact Or.inr rfl) (pe_callX D_num (hr.mono (by omega)) (Passes.of (takes_of rfl rfl rfl rfl)) (by rfl) (pa_cons (pv 0) (pa_cons (pe_op op_add (pv 1) pe_int) (pa_cons (pe_orT (pv 2) (pe_one (pe_glob (v := .int 1) (by rfl) T.c_LEAST_PLACES.choose_spec (by exact ⟨_, rfl⟩)))) (pa_cons (pe_orT (pv 2) (pe_one (pe_glob (v := .int 3) (by rfl) T.c_MOST_PLACES.choose_spec (by exact ⟨_, rfl⟩)))) pa_nil))))))
    (pss_cons (ps_if (pt_cmpR op_eq (pv 3) pe_str (nomark _)) (pss_one (ps_ret (pe_mk N.ha hr (by omega) (by rfl) (pa_cons (pv 4) pa_nil)))) pss_nil)
    (pss_cons (ps_if (pt_cmpR op_eq (pv 3) pe_str (nomark _)) (pss_one (ps_ret (pe_mk N.bo hr (by omega) (by rfl) (pa_cons (pv 4) pa_nil)))) pss_nil)
    (pss_cons (ps_if (pt_cmpR op_eq (pv 3) pe_str (nomark _)) (pss_one (ps_ret (pe_mk N.ri hr (by omega) (by rfl) (pa_cons (pv 4) pa_nil)))) pss_nil)
    (pss_one (ps_ret (pe_mk N.fl hr (by omega) (by rfl) (pa_cons (pv 4) pa_nil))))))))))), ?_⟩
    have iz : i < ws.length := (List.getElem?_eq_some_iff.mp hz).1
    refine Evl.q_asg (v := .str z) (Evl.ev_op (Evl.ev_var (v := .ref a) rfl) (Evl.ev_var (v := .int i) rfl) (Evl.rv_ixL hx (atI_nat (by rw [List.getElem?_map, hz]; rfl)))) fun H1 e1 => ?_
    have args : ∀ (lo hi : Int) (H2 : Hp) (t1 t2 : TE) (σ : L2.St), σ = [some (.ref a), some (.int i), some (plV pl), some (.str z), none] → Evl.Ev t1 σ H2 (.int lo) → Evl.Ev t2 σ H2 (.int hi) → Evl.EvA (tCons (tVar 0) (tCons (tOp (rI0 fun a b => .int (a + b)) (tVar 1) (tC (.int 1))) (tCons t1 (tCons t2 tNil)))) σ H2 [.ref a, .int ((i + 1 : Nat) : Int), .int lo, .int hi] := fun lo hi H2 t1 t2 σ hσ h1 h2 => by
      subst hσ
      exact Evl.ea_cons (Evl.ev_var rfl) (Evl.ea_cons (Evl.ev_is (Evl.ev_op (Evl.ev_var (v := .int i) rfl) Evl.ev_c (Evl.rv_I0 (g := fun a b => .int (a + b)))) (congrArg V.int (by omega))) (Evl.ea_cons h1 (Evl.ea_cons h2 Evl.ea_nil)))
    unfold plainAt at k
    have tst : ∀ H2, Evl.EvT (tAnd (tTest (tOp rEq (tVar 3) (tC (.str "turns")))) (tTest (tOp (rIn K false) (tVar 2) (tTup (tCons (tC .non) (tCons (tC (.int 1)) tNil)))))) [some (.ref a), some (.int i), some (plV pl), some (.str z), none] H2 (decide (z = "turns" ∧ (pl = none ∨ pl = some 1))) := fun H2 =>
      Evl.et_is (Evl.et_and (a := decide (z = "turns")) (b := decide (pl = none ∨ pl = some 1)) (Evl.et_is (Evl.et_test (Evl.ev_op (Evl.ev_var (v := .str z) rfl) Evl.ev_c (Evl.rv_eq rfl))) (dS _ _)) fun _ => Evl.et_is (Evl.et_test (Evl.ev_inU (Evl.ev_var (v := plV pl) rfl) (Evl.eu_tup (Evl.ea_cons Evl.ev_c (Evl.ea_cons Evl.ev_c Evl.ea_nil)) (by show 2 ≤ 100000; omega)) (by cases pl <;> rfl) rfl)) (plV_in pl)) (by simp)
    refine Evl.q_when (b := decide (z = "turns" ∧ (pl = none ∨ pl = some 1))) (tst H1) (fun hz1 H2 e2 => ?_) (fun hz1 H2 e2 => ?_)
    · rw [if_pos (of_decide_eq_true hz1)] at k
      have eA := e1.trans e2
      have ar := args 0 6 H2 _ _ _ rfl Evl.ev_c Evl.ev_c
      cases hn : numAt ws (i + 1) 0 6 with
      | ok m =>
        rw [hn] at k
        have hm := numAt_in hn
        refine k_ret (L := L) (mk_T (evx_ok ar fun H3 e3 Q q => ⟨a, ws, i + 1, 0, 6, rfl, Evl.ex_l (eA.trans e3) hx, hl, by decide, by decide, by decide, by decide, by rw [hn]; exact q⟩) (hid_ex eA hL) hm.1 hm.2) fun x H' hx' e' q => k x H' (Evl.fresh_back eA hx') (eA.trans e') q
      | error j =>
        rw [hn] at k
        exact evx_run ar fun H3 e3 => ⟨a, ws, i + 1, 0, 6, rfl, Evl.ex_l (eA.trans e3) hx, hl, by decide, by decide, by decide, by decide, by rw [hn]; exact ErrE.ex k (eA.trans e3)⟩
    · rw [if_neg (of_decide_eq_false hz1)] at k
      have eA := e1.trans e2
      refine Evl.q_when (b := decide (¬ (z = "halves" ∨ z = "boxes" ∨ z = "rising" ∨ z = "flats"))) (Evl.et_is (Evl.et_test (ev_ninU (Evl.ev_var (v := .str z) rfl) (Evl.eu_tup (Evl.ea_cons Evl.ev_c (Evl.ea_cons Evl.ev_c (Evl.ea_cons Evl.ev_c (Evl.ea_cons Evl.ev_c Evl.ea_nil)))) (by show 4 ≤ 100000; omega)) rfl rfl)) (by rw [inS4]; simp)) (fun hz2 H3 e3 => ?_) (fun hz2 H3 e3 => ?_)
      · rw [if_pos (of_decide_eq_true hz2)] at k
        exact mk_err_run (Evl.ev_var (v := .int i) rfl) fun d H4 hd e4 hx4 => k d H4 (Evl.fresh_back (eA.trans e3) hd) ((eA.trans e3).trans e4) hx4
      · rw [if_neg (of_decide_eq_false hz2)] at k
        have eB := eA.trans e3
        have lo1 : plLo pl = pl.getD 1 := by cases pl <;> rfl
        have hi1 : plHi pl = pl.getD 3 := by cases pl <;> rfl
        rw [lo1, hi1] at k
        have bl : 0 ≤ pl.getD 1 ∧ pl.getD 1 ≤ 9 ∧ 0 ≤ pl.getD 3 ∧ pl.getD 3 ≤ 9 := by
          cases pl with
          | none => decide
          | some p =>
            have := hp p rfl
            show 0 ≤ p ∧ p ≤ 9 ∧ 0 ≤ p ∧ p ≤ 9
            omega
        have ar := args (pl.getD 1) (pl.getD 3) H3 _ _ _ rfl (ev_orPl (K := K) (d := 1) hp (Evl.ev_var (i := 2) rfl)) (ev_orPl (K := K) (d := 3) hp (Evl.ev_var (i := 2) rfl))
        cases hn : numAt ws (i + 1) (pl.getD 1) (pl.getD 3) with
        | error j =>
          rw [hn] at k
          exact evx_run ar fun H4 e4 => ⟨a, ws, i + 1, _, _, rfl, Evl.ex_l (eB.trans e4) hx, hl, bl.1, bl.2.1, bl.2.2.1, bl.2.2.2, by rw [hn]; exact ErrE.ex k (eB.trans e4)⟩
        | ok m =>
          rw [hn] at k
          have hm := numAt_in hn
          have m13 : 1 ≤ m ∧ m ≤ 3 := by
            cases pl with
            | none => exact hm
            | some p =>
              have := hp p rfl
              have : p ≤ m ∧ m ≤ p := hm
              omega
          refine Evl.q_asg (v := .int m) (evx_ok ar fun H4 e4 Q q => ⟨a, ws, i + 1, _, _, rfl, Evl.ex_l (eB.trans e4) hx, hl, bl.1, bl.2.1, bl.2.2.1, bl.2.2.2, by rw [hn]; exact q⟩) fun H4 e4 => ?_
          have eC := eB.trans e4
          have k' : ∀ x H', H x = none → Ex H H' → Kin c (W L H') (mkPl z m) x → Q (.ref x) H' := k
          have te : ∀ (y : Str) H5, Evl.EvT (tTest (tOp rEq (tVar 3) (tC (.str y)))) [some (.ref a), some (.int i), some (plV pl), some (.str z), some (.int m)] H5 (decide (z = y)) := fun y H5 => Evl.et_is (Evl.et_test (Evl.ev_op (Evl.ev_var (v := .str z) rfl) Evl.ev_c (Evl.rv_eq rfl))) (dS _ _)
          unfold mkPl at k'
          refine Evl.q_when (te "halves" H4) (fun hq H5 e5 => ?_) (fun hq H5 e5 => ?_)
          · rw [if_pos (of_decide_eq_true hq)] at k'
            exact k_ret (L := L) (k := .halves m) (mk_1 (i := .ha) (Evl.ev_var rfl) (hid_ex (eC.trans e5) hL) m13.1 m13.2 (fun _ _ dx h => ⟨dx, h⟩)) fun x H' hx' e' q => k' x H' (Evl.fresh_back (eC.trans e5) hx') ((eC.trans e5).trans e') q
          rw [if_neg (of_decide_eq_false hq)] at k'
          refine Evl.q_when (te "boxes" H5) (fun hq H6 e6 => ?_) (fun hq H6 e6 => ?_)
          · rw [if_pos (of_decide_eq_true hq)] at k'
            have eD := (eC.trans e5).trans e6
            exact k_ret (L := L) (k := .boxes m) (mk_1 (i := .bo) (Evl.ev_var rfl) (hid_ex eD hL) m13.1 m13.2 (fun _ _ dx h => ⟨dx, h⟩)) fun x H' hx' e' q => k' x H' (Evl.fresh_back eD hx') (eD.trans e') q
          rw [if_neg (of_decide_eq_false hq)] at k'
          refine Evl.q_when (te "rising" H6) (fun hq H7 e7 => ?_) (fun hq H7 e7 => ?_)
          · rw [if_pos (of_decide_eq_true hq)] at k'
            have eD := ((eC.trans e5).trans e6).trans e7
            exact k_ret (L := L) (k := .rising m) (mk_1 (i := .ri) (Evl.ev_var rfl) (hid_ex eD hL) m13.1 m13.2 (fun _ _ dx h => ⟨dx, h⟩)) fun x H' hx' e' q => k' x H' (Evl.fresh_back eD hx') (eD.trans e') q
          · rw [if_neg (of_decide_eq_false hq)] at k'
            have eD := ((eC.trans e5).trans e6).trans e7
            exact k_ret (L := L) (k := .flats m) (mk_1 (i := .fl) (Evl.ev_var rfl) (hid_ex eD hL) m13.1 m13.2 (fun _ _ dx h => ⟨dx, h⟩)) fun x H' hx' e' q => k' x H' (Evl.fresh_back eD hx') (eD.trans e') q
def spPut (K : PySem.W.Frag) (c : KC) : Sp := fun vs H Q _ => ∃ (z : Str) (x y : Addr) (k m : Kd) (L : List Addr), vs = [.str z, .ref x, .ref y] ∧ Hid L H ∧ Kin c (W L H) k x ∧ Kin c (W L H) m y ∧ placesK k = placesK m ∧ ∀ u H', H u = none → Ex H H' → Kin c (W L H') (mkJ z k m) u → Q (.ref u) H'
theorem ok_put_together {f : Addr} {fd : FuncData} (F : Fun K "_put_together" "_put_together" s_put_together f fd) (O : KOp P w K mg base c) : FnOk P w K mg base CX0 4 f fd ["word", "one", "other"] (spPut K c) := by
  refine F.ok sc_put_together (fun vs H Q E h => ?_) (fun cdv A outer s H vs Q E hr h => ?_)
  · obtain ⟨_, _, _, _, _, _, rfl, _⟩ := h
    rfl
  · obtain ⟨z, x, y, k, m, L, rfl, hL, hk, hm, hp, q⟩ := h
    refine ⟨_, (pss_cons (ps_if (pt_cmpR op_eq (pv 0) pe_str (nomark _)) (pss_one (ps_ret (pe_k2 O.and O.sub hr (by omega) (pv 1) (pv 2)))) pss_nil)
    (pss_cons (ps_if (pt_cmpR op_eq (pv 0) pe_str (nomark _)) (pss_one (ps_ret (pe_k2 O.or O.sub hr (by omega) (pv 1) (pv 2)))) pss_nil)
    (pss_one (ps_ret (pe_k2 O.add O.sub hr (by omega) (pv 1) (pv 2)))))), ?_⟩
    have te : ∀ (y' : Str) H5, Evl.EvT (tTest (tOp rEq (tVar 0) (tC (.str y')))) (start sc_put_together_N [.str z, .ref x, .ref y]) H5 (decide (z = y')) := fun y' H5 => Evl.et_is (Evl.et_test (Evl.ev_op (Evl.ev_var (v := .str z) rfl) Evl.ev_c (Evl.rv_eq rfl))) (dS _ _)
    unfold mkJ at q
    refine Evl.q_when (te "both" H) (fun hq H1 e1 => ?_) (fun hq H1 e1 => ?_)
    · rw [if_pos (of_decide_eq_true hq)] at q
      exact k_ret (L := L) (evk_2 (f := .both) (Evl.ev_var rfl) (Evl.ev_var rfl) (hid_ex e1 hL) (hk.up (w_ex e1)) (hm.up (w_ex e1)) hp) fun u H' hu e' r => q u H' (Evl.fresh_back e1 hu) (e1.trans e') r
    rw [if_neg (of_decide_eq_false hq)] at q
    refine Evl.q_when (te "either" H1) (fun hq H2 e2 => ?_) (fun hq H2 e2 => ?_)
    · rw [if_pos (of_decide_eq_true hq)] at q
      have eA := e1.trans e2
      exact k_ret (L := L) (evk_2 (f := .either) (Evl.ev_var rfl) (Evl.ev_var rfl) (hid_ex eA hL) (hk.up (w_ex eA)) (hm.up (w_ex eA)) hp) fun u H' hu e' r => q u H' (Evl.fresh_back eA hu) (eA.trans e') r
    · rw [if_neg (of_decide_eq_false hq)] at q
      have eA := e1.trans e2
      exact k_ret (L := L) (evk_2 (f := .any) (Evl.ev_var rfl) (Evl.ev_var rfl) (hid_ex eA hL) (hk.up (w_ex eA)) (hm.up (w_ex eA)) hp) fun u H' hu e' r => q u H' (Evl.fresh_back eA hu) (eA.trans e') r
/-- what a kind and the place behind its words are told as -/
def KRes (K : PySem.W.Frag) (c : KC) (L : List Addr) (H : Hp) (Q : VK) (k : Kd) (j : Nat) : Prop := ∀ t y H', Ex H H' → SqT K H' t [.ref y, .int j] → Kin c (W L H') k y → Q (.ref t) H'
theorem KRes.ex {L : List Addr} {H H1 : Hp} {Q : VK} {k : Kd} {j : Nat} (h : KRes K c L H Q k j) (e : Ex H H1) : KRes K c L H1 Q k j := fun t y H' e' a b => h t y H' (e.trans e') a b
def spKindAt (K : PySem.W.Frag) (c : KC) (BT : Addr) (n : Nat) : Sp := fun vs H Q E => ∃ (a : Addr) (ws : List Str) (i : Nat) (pl : Option Int) (L : List Addr), vs = [.ref a, .int i, plV pl] ∧ SqL K H a (ws.map V.str) ∧ ws.length ≤ 5000 ∧ ws.length ≤ i + n ∧ plOk pl ∧ Hid L H ∧ match kindAt ws n i pl with
  | .ok kj => KRes K c L H Q kj.1 kj.2
  | .error j => ErrE BT "index" (.int j) H E
def spKindAtP (K : PySem.W.Frag) (c : KC) (BT : Addr) : Nat → Sp
  | 0 => fun _ _ _ _ => False
  | n + 1 => spKindAt K c BT n
theorem kres_ret {L : List Addr} {te tj : TE} {σ : L2.St} {H : Hp} {k : Kd} {j : Nat} {D : Ends} (h : EvK c L te σ H k) (hj : ∀ H1, Ex H H1 → Evl.Ev tj σ H1 (.int j)) (q : ∀ t y H', Ex H H' → SqT K H' t [.ref y, .int j] → Kin c (W L H') k y → D.rt (.ref t) H') : tRet (tTup (tCons te (tCons tj tNil))) D σ H :=
  h H (Ex.refl _) _ fun y H1 hy e1 hk => hj H1 e1 H1 (Ex.refl _) _ fun H2 e2 => ⟨by show 2 ≤ sizeLine; decide, fun t ht => q t y _ ((e1.trans e2).trans (Ex.new ht)) (SqT.of upd_same) (hk.up (w_ex (e2.trans (Ex.new ht))))⟩
theorem two_asg {t y : Addr} {j : Nat} {σ : L2.St} {H : Hp} {D : Ends} {tz : TS} {i1 i2 : Nat} (hs : SqT K H t [.ref y, .int j]) (q : tz D ((σ.set i1 (some (.ref y))).set i2 (some (.int j))) H) : gTup K 2 (gCons (gName i1) (gCons (gName i2) gNil)) (.ref t) σ H fun σ' H' => tz D σ' H' :=
  ⟨t, _, rfl, hs, rfl, .ref y, [.int j], rfl, .int j, [], rfl, rfl, q⟩
theorem kind_body {f : Addr} {fd : FuncData} (F : Fun K "_kind_at" "_kind_at" s_kind_at f fd) (T : TxS mg) (R : BadT P w K mg base BT) (S : KCl K c) (O : KOp P w K mg base c) (n : Nat) (D_word : DefX P w K mg base "_word_at" 3 ["words", "at"] (spWordAt K BT)) (D_plain : DefX P w K mg base "_plain_kind_at" 6 ["words", "at", "places"] (spPlainAt K c BT))
    (D_put_together : DefAt P w K mg base "_put_together" 4 ["word", "one", "other"] (spPut K c)) (D_kind : DefX P w K mg base "_kind_at" (n + 6) ["words", "at", "places"] (spKindAtP K c BT n)) : FnOk P w K mg base (CX P w) (n + 7) f fd ["words", "at", "places"] (spKindAt K c BT n) := by
  refine F.okX sc_kind_at (fun vs H Q E h => ?_) (fun cdv A outer s H vs Q E hr h => ?_)
  · obtain ⟨_, _, _, _, _, rfl, _⟩ := h
    rfl
  · obtain ⟨a, ws, i, pl, L, rfl, hx, hl, hn, hp, hL, k⟩ := h
    refine ⟨_, (pss_cons (ps_set (i := 3) sc_kind_at.nd rfl (by first | exact Or.inl rfl | exact Or.inr rfl) (pe_callX D_word (hr.mono (by omega)) (Passes.of (takes_of rfl rfl rfl rfl)) (by rfl) (pa_cons (pv 0) (pa_cons (pv 1) pa_nil))))
    (pss_cons (ps_if (pt_cmpR op_eq (pv 3) pe_str (nomark _)) (pss_cons (ps_asg (pe_callX D_kind (hr.mono (by omega)) (Passes.of (takes_of rfl rfl rfl rfl)) (by rfl) (pa_cons (pv 0) (pa_cons (pe_op op_add (pv 1) pe_int) (pa_cons (pv 2) pa_nil)))) (pg_tup (by rfl) (pgs_cons (pg_name (i := 4) sc_kind_at.nd rfl (by first | exact Or.inl rfl | exact Or.inr rfl)) (pgs_cons (pg_name (i := 5) sc_kind_at.nd rfl (by first | exact Or.inl rfl | exact Or.inr rfl)) pgs_nil))))
      (pss_one (ps_ret (pe_tup (pa_cons (pe_k1 O.inv hr (by omega) (pv 4)) (pa_cons (pv 5) pa_nil)))))) pss_nil)
    (pss_cons (ps_if (pt_cmpR op_in_seq (pv 3) (pe_tup (pa_cons pe_str (pa_cons pe_str (pa_cons pe_str pa_nil)))) (by rfl)) (pss_cons (ps_asg (pe_callX D_kind (hr.mono (by omega)) (Passes.of (takes_of rfl rfl rfl rfl)) (by rfl) (pa_cons (pv 0) (pa_cons (pe_op op_add (pv 1) pe_int) (pa_cons (pv 2) pa_nil)))) (pg_tup (by rfl) (pgs_cons (pg_name (i := 6) sc_kind_at.nd rfl (by first | exact Or.inl rfl | exact Or.inr rfl)) (pgs_cons (pg_name (i := 7) sc_kind_at.nd rfl (by first | exact Or.inl rfl | exact Or.inr rfl)) pgs_nil))))
      (pss_cons (ps_asg (pe_callX D_kind (hr.mono (by omega)) (Passes.of (takes_of rfl rfl rfl rfl)) (by rfl) (pa_cons (pv 0) (pa_cons (pv 7) (pa_cons (pe_fld (pv 6) rfl) pa_nil)))) (pg_tup (by rfl) (pgs_cons (pg_name (i := 8) sc_kind_at.nd rfl (by first | exact Or.inl rfl | exact Or.inr rfl)) (pgs_cons (pg_name (i := 5) sc_kind_at.nd rfl (by first | exact Or.inl rfl | exact Or.inr rfl)) pgs_nil))))
      (pss_one (ps_ret (pe_tup (pa_cons (pe_callD D_put_together (by first | exact hr | exact hr.mono (by decide) | exact hr.mono (by omega)) (by rfl) (pa_cons (pv 3) (pa_cons (pv 6) (pa_cons (pv 8) pa_nil)))) (pa_cons (pv 5) pa_nil))))))) pss_nil)
    (pss_one (ps_ret (pe_tup (pa_cons (pe_callX D_plain (hr.mono (by omega)) (Passes.of (takes_of rfl rfl rfl rfl)) (by rfl) (pa_cons (pv 0) (pa_cons (pv 1) (pa_cons (pv 2) pa_nil)))) (pa_cons (pe_op op_add (pv 1) pe_int) pa_nil)))))))), ?_⟩
    have args : Evl.EvA (tCons (tVar 0) (tCons (tVar 1) tNil)) (start sc_kind_at_N [.ref a, .int i, plV pl]) H [.ref a, .int i] := Evl.ea_cons (Evl.ev_var rfl) (Evl.ea_cons (Evl.ev_var rfl) Evl.ea_nil)
    cases hw : ws[i]? with
    | none =>
      have hk : kindAt ws n i pl = .error i := by
        cases n with
        | zero => rfl
        | succ n => unfold kindAt; rw [hw]
      rw [hk] at k
      exact evx_run args fun H1 e1 => ⟨a, ws, i, rfl, Evl.ex_l e1 hx, hl, by rw [hw]; exact ErrE.ex k e1⟩
    | some z =>
      have iz : i < ws.length := (List.getElem?_eq_some_iff.mp hw).1
      obtain ⟨m, rfl⟩ : ∃ m, n = m + 1 := ⟨n - 1, by omega⟩
      unfold kindAt at k
      rw [hw] at k
      dsimp only at k
      refine Evl.q_asg (v := .str z) (evx_ok args fun H1 e1 Q q => ⟨a, ws, i, rfl, Evl.ex_l e1 hx, hl, by rw [hw]; exact q⟩) fun H1 e1 => ?_
      have te : ∀ (y : Str) H5, Evl.EvT (tTest (tOp rEq (tVar 3) (tC (.str y)))) [some (.ref a), some (.int i), some (plV pl), some (.str z), none, none, none, none, none] H5 (decide (z = y)) := fun y H5 => Evl.et_is (Evl.et_test (Evl.ev_op (Evl.ev_var (v := .str z) rfl) Evl.ev_c (Evl.rv_eq rfl))) (dS _ _)
      have ar1 : ∀ H2, Evl.EvA (tCons (tVar 0) (tCons (tOp (rI0 fun a b => .int (a + b)) (tVar 1) (tC (.int 1))) (tCons (tVar 2) tNil))) [some (.ref a), some (.int i), some (plV pl), some (.str z), none, none, none, none, none] H2 [.ref a, .int ((i + 1 : Nat) : Int), plV pl] := fun H2 =>
        Evl.ea_cons (Evl.ev_var rfl) (Evl.ea_cons (Evl.ev_is (Evl.ev_op (Evl.ev_var (v := .int i) rfl) Evl.ev_c (Evl.rv_I0 (g := fun a b => .int (a + b)))) (congrArg V.int (by omega))) (Evl.ea_cons (Evl.ev_var rfl) Evl.ea_nil))
      refine Evl.q_when (te "not" H1) (fun hq H2 e2 => ?_) (fun hq H2 e2 => ?_)
      · rw [if_pos (of_decide_eq_true hq)] at k
        have eA := e1.trans e2
        refine evx_run (ar1 H2) fun H3 e3 => ⟨a, ws, i + 1, pl, L, rfl, Evl.ex_l (eA.trans e3) hx, hl, by omega, hp, hid_ex (eA.trans e3) hL, ?_⟩
        cases h1 : kindAt ws m (i + 1) pl with
        | error j =>
          rw [h1] at k
          exact ErrE.ex k (eA.trans e3)
        | ok kj =>
          obtain ⟨k1, j1⟩ := kj
          rw [h1] at k
          dsimp only at k
          intro t y H4 e4 hs hk
          have eB := (eA.trans e3).trans e4
          refine two_asg hs ?_
          exact kres_ret (L := L) (evk_1 (Evl.ev_var rfl) (hid_ex eB hL) hk) (fun H5 _ => Evl.ev_var rfl) (KRes.ex k eB)
      · rw [if_neg (of_decide_eq_false hq)] at k
        have eA := e1.trans e2
        refine Evl.q_when (b := decide (z = "both" ∨ z = "either" ∨ z = "any")) (Evl.et_is (Evl.et_test (Evl.ev_inU (Evl.ev_var (v := .str z) rfl) (Evl.eu_tup (Evl.ea_cons Evl.ev_c (Evl.ea_cons Evl.ev_c (Evl.ea_cons Evl.ev_c Evl.ea_nil))) (by show 3 ≤ 100000; omega)) rfl rfl)) (inS3 z "both" "either" "any")) (fun hq3 H3 e3 => ?_) (fun hq3 H3 e3 => ?_)
        · rw [if_pos (of_decide_eq_true hq3)] at k
          have eB := eA.trans e3
          refine evx_run (ar1 H3) fun H4 e4 => ⟨a, ws, i + 1, pl, L, rfl, Evl.ex_l (eB.trans e4) hx, hl, by omega, hp, hid_ex (eB.trans e4) hL, ?_⟩
          cases h1 : kindAt ws m (i + 1) pl with
          | error j =>
            rw [h1] at k
            exact ErrE.ex k (eB.trans e4)
          | ok kj =>
            obtain ⟨k1, j1⟩ := kj
            rw [h1] at k
            dsimp only at k
            obtain ⟨lj, p, p1, p3, o1, _⟩ := kindAt_ok hp h1
            intro t y H5 e5 hs hk
            have eC := (eB.trans e4).trans e5
            refine two_asg hs ?_
            obtain ⟨dy, fy, hy, hly⟩ := hk.ins
            have ep := okT_places o1
            have hp2 : plOk (some (placesK k1)) := fun q hq => by
              cases hq
              rw [ep]
              exact ⟨p1, p3⟩
            refine evx_run (Evl.ea_cons (Evl.ev_var (i := 0) (v := .ref a) rfl) (Evl.ea_cons (Evl.ev_var (i := 7) (v := .int j1) rfl) (Evl.ea_cons (ev_fld (Evl.ev_var (i := 6) rfl) (w_in hy).1 (S.cl _) (S.na _ _ (by decide)) hly) Evl.ea_nil))) fun H6 e6 => ⟨a, ws, j1, some (placesK k1), L, rfl, Evl.ex_l (eC.trans e6) hx, hl, by omega, hp2, hid_ex (eC.trans e6) hL, ?_⟩
            cases h2 : kindAt ws m j1 (some (placesK k1)) with
            | error j =>
              rw [h2] at k
              exact ErrE.ex k (eC.trans e6)
            | ok kj2 =>
              obtain ⟨k2, j2⟩ := kj2
              rw [h2] at k
              dsimp only at k
              obtain ⟨_, p', _, _, o2, z2⟩ := kindAt_ok hp2 h2
              have ep2 : placesK k1 = placesK k2 := by
                rcases z2 with z2 | z2
                · cases z2
                · rw [okT_places o2]
                  exact Option.some.inj z2
              intro t2 y2 H7 e7 hs2 hk2
              have eD := (eC.trans e6).trans e7
              refine two_asg hs2 ?_
              dsimp only
              refine kres_ret (K := K) (c := c) (L := L) (k := mkJ z k1 k2) (j := j2) (fun H8 e8 Q q => ?_) (fun H5 _ => Evl.ev_var rfl) ?_
              rotate_left
              · exact fun t3 y3 H' e' a1 a2 => k t3 y3 H' (eD.trans e') a1 a2
              refine (Evl.ea_cons (Evl.ev_var (i := 3) (v := .str z) rfl) (Evl.ea_cons (Evl.ev_var (i := 6) (v := .ref y) rfl) (Evl.ea_cons (Evl.ev_var (i := 8) (v := .ref y2) rfl) Evl.ea_nil))) H8 e8 _ fun H9 e9 => ?_
              exact ⟨z, y, y2, k1, k2, L, rfl, hid_ex ((eD.trans e8).trans e9) hL, hk.up (w_ex (((e6.trans e7).trans e8).trans e9)), hk2.up (w_ex (e8.trans e9)), ep2, fun u H10 hu e10 hk3 => q u H10 (Evl.fresh_back e9 hu) (e9.trans e10) hk3⟩
        · rw [if_neg (of_decide_eq_false hq3)] at k
          have eB := eA.trans e3
          have arp : Evl.EvA (tCons (tVar 0) (tCons (tVar 1) (tCons (tVar 2) tNil))) [some (.ref a), some (.int i), some (plV pl), some (.str z), none, none, none, none, none] H3 [.ref a, .int i, plV pl] := Evl.ea_cons (Evl.ev_var rfl) (Evl.ea_cons (Evl.ev_var rfl) (Evl.ea_cons (Evl.ev_var rfl) Evl.ea_nil))
          cases h1 : plainAt ws z i pl with
          | error j =>
            rw [h1] at k
            exact evx_run arp fun H4 e4 => ⟨a, ws, i, pl, z, L, rfl, Evl.ex_l (eB.trans e4) hx, hl, hp, hw, hid_ex (eB.trans e4) hL, by rw [h1]; exact ErrE.ex k (eB.trans e4)⟩
          | ok k1 =>
            rw [h1] at k
            dsimp only at k
            refine kres_ret (K := K) (c := c) (L := L) (k := k1) (j := i + 2) (fun H4 e4 Q q => ?_) (fun H5 _ => Evl.ev_is (Evl.ev_op (Evl.ev_var (v := .int i) rfl) Evl.ev_c (Evl.rv_I0 (g := fun a b => .int (a + b)))) (congrArg V.int (by omega))) (KRes.ex k eB)
            refine arp H4 e4 _ fun H5 e5 => ⟨a, ws, i, pl, z, L, rfl, Evl.ex_l ((eB.trans e4).trans e5) hx, hl, hp, hw, hid_ex ((eB.trans e4).trans e5) hL, ?_⟩
            rw [h1]
            exact fun x H6 hx6 e6 hk => q x H6 (Evl.fresh_back e5 hx6) (e5.trans e6) hk
def spRead (K : PySem.W.Frag) (c : KC) (BT : Addr) (N : Nat) : Sp := fun vs H Q E => ∃ (x : Str) (L : List Addr), vs = [.str x] ∧ x.length ≤ 100000 ∧ (Txt.split x " ").length ≤ N ∧ Hid L H ∧ match kindAt (Txt.split x " ") N 0 none with
  | .ok kj => if kj.2 < (Txt.split x " ").length then ErrE BT "index" (.int kj.2) H E else ∀ y H', Ex H H' → Kin c (W L H') kj.1 y → Q (.ref y) H'
  | .error j => ErrE BT "index" (.int j) H E
theorem read_body {f : Addr} {fd : FuncData} (F : Fun K "read_kind" "read_kind" s_read_kind f fd) (T : TxS mg) (R : BadT P w K mg base BT) (N : Nat) (hN : N ≤ 1000) (D_kind : DefX P w K mg base "_kind_at" (N + 7) ["words", "at", "places"] (spKindAt K c BT N)) : FnOk P w K mg base (CX P w) (N + 8) f fd ["text"] (spRead K c BT N) := by
  refine F.okX sc_read_kind (fun vs H Q E h => ?_) (fun cdv A outer s H vs Q E hr h => ?_)
  · obtain ⟨_, _, rfl, _⟩ := h
    rfl
  · obtain ⟨x, L, rfl, hz, hN2, hL, k⟩ := h
    refine ⟨_, (pss_cons (ps_set (i := 1) sc_read_kind.nd rfl (by first | exact Or.inl rfl | exact Or.inr rfl) (pe_m1 PySem.F.slot_str_split PySem.F.type_str_split mt_split (pv 0) pe_str))
    (pss_cons (ps_asg (pe_callX D_kind (hr.mono (by omega)) (Passes.of (takes_of rfl rfl rfl rfl)) (by rfl) (pa_cons (pv 1) (pa_cons pe_int (pa_cons pe_non pa_nil)))) (pg_tup (by rfl) (pgs_cons (pg_name (i := 2) sc_read_kind.nd rfl (by first | exact Or.inl rfl | exact Or.inr rfl)) (pgs_cons (pg_name (i := 3) sc_read_kind.nd rfl (by first | exact Or.inl rfl | exact Or.inr rfl)) pgs_nil))))
    (pss_cons (ps_if (pt_cmpR op_lt (pv 3) (pe_callB call_len_seq (by rfl) T.m_len (by decide +kernel) (pa_cons (pv 1) pa_nil)) (nomark _)) (pss_one (ps_raise rfl (takes_of rfl rfl rfl rfl) (pmk_err R (hr.mono (by omega)) (by rfl) (pv 3)))) pss_nil)
    (pss_one (ps_ret (pv 2)))))), ?_⟩
    refine ⟨_, rfl, ⟨_, rfl⟩, x, " ", rfl, rfl, by decide, ?_, fun p hp1 => ?_⟩
    · have := sizeLine_eq
      omega
    generalize hws : Txt.split x " " = ws at hN2 k ⊢
    have e1 : Ex H (upd H p (.lst (ws.map V.str))) := Ex.new hp1
    have hx1 : SqL K (upd H p (.lst (ws.map V.str))) p (ws.map V.str) := SqL.of upd_same
    generalize upd H p (.lst (ws.map V.str)) = H1 at e1 hx1 ⊢
    refine evx_run (Evl.ea_cons (Evl.ev_var (i := 1) (v := .ref p) rfl) (Evl.ea_cons Evl.ev_c (Evl.ea_cons Evl.ev_c Evl.ea_nil))) fun H2 e2 => ⟨p, ws, 0, none, L, rfl, Evl.ex_l e2 hx1, by omega, by omega, (fun _ z => nomatch z), hid_ex (e1.trans e2) hL, ?_⟩
    cases h1 : kindAt ws N 0 none with
    | error j =>
      rw [h1] at k
      exact ErrE.ex k (e1.trans e2)
    | ok kj =>
      obtain ⟨k1, j1⟩ := kj
      rw [h1] at k
      dsimp only at k
      intro t y H3 e3 hs hk
      have eA := (e1.trans e2).trans e3
      refine two_asg hs ?_
      dsimp only
      refine Evl.q_when (b := decide ((j1 : Int) < ((ws.length : Nat) : Int))) (Evl.et_is (Evl.et_test (Evl.ev_op (Evl.ev_var (i := 3) (v := .int j1) rfl) (ev_lenS (σ := [some (.str x), some (.ref p), some (.ref y), some (.int j1)]) (Evl.ev_var (i := 1) (v := .ref p) rfl) (.inl (Evl.ex_l (e2.trans e3) hx1))) (Evl.rv_I0 (g := fun a b => .bl (decide (a < b)))))) (by rw [List.length_map])) (fun z H4 e4 => ?_) (fun z H4 e4 => ?_)
      · rw [if_pos (by have := of_decide_eq_true z; omega)] at k
        exact mk_err_run (Evl.ev_var (i := 3) (v := .int j1) rfl) fun d H5 hd e5 hx5 => k d H5 (Evl.fresh_back (eA.trans e4) hd) ((eA.trans e4).trans e5) hx5
      · rw [if_neg (by have := of_decide_eq_false z; omega)] at k
        exact Evl.s_ret (Evl.ev_var (i := 2) (v := .ref y) rfl) fun H5 e5 => k y H5 ((eA.trans e4).trans e5) (hk.up (w_ex (e4.trans e5)))
end
end U

set_option Elab.async false
set_option linter.all false
set_option maxRecDepth 100000
set_option maxHeartbeats 4000000
/-! the words of a kind, read back -/
namespace U
open PySem PySem.Spec L2
theorem digit_inj {a b : Int} (ha : 0 ≤ a ∧ a ≤ 9) (hb : 0 ≤ b ∧ b ≤ 9) (h : ((toString a : String) : Str) = toString b) : a = b := by
  have ca : a = 0 ∨ a = 1 ∨ a = 2 ∨ a = 3 ∨ a = 4 ∨ a = 5 ∨ a = 6 ∨ a = 7 ∨ a = 8 ∨ a = 9 := by omega
  have cb : b = 0 ∨ b = 1 ∨ b = 2 ∨ b = 3 ∨ b = 4 ∨ b = 5 ∨ b = 6 ∨ b = 7 ∨ b = 8 ∨ b = 9 := by omega
  rcases ca with rfl | rfl | rfl | rfl | rfl | rfl | rfl | rfl | rfl | rfl <;> rcases cb with rfl | rfl | rfl | rfl | rfl | rfl | rfl | rfl | rfl | rfl <;> first | rfl | exact absurd h (by decide)
theorem numFirst_is {p : Int} (hp : 0 ≤ p ∧ p ≤ 9) : ∀ {n : Nat} {lo : Int}, 0 ≤ lo → lo ≤ p → p < lo + n → lo + n ≤ 10 → numFirst (toString p) lo n = some p
  | 0, lo, _, h1, h2, _ => by omega
  | n + 1, lo, h0, h1, h2, h3 => by
    unfold numFirst
    split
    · rename_i e
      rw [digit_inj hp (by omega) e]
    · rename_i e
      have ne : lo ≠ p := fun z => e (by rw [z])
      exact numFirst_is hp (by omega) (by omega) (by omega) (by omega)
theorem numAt_is {ws : List Str} {i : Nat} {p lo hi : Int} (h : ws[i]? = some (toString p : String)) (h0 : 0 ≤ lo) (h1 : lo ≤ p) (h2 : p ≤ hi) (h9 : hi ≤ 9) : numAt ws i lo hi = .ok p := by
  unfold numAt
  rw [h]
  show (match numFirst _ lo _ with | some n => Except.ok n | none => Except.error i) = _
  rw [numFirst_is (p := p) (by omega) h0 h1 (by omega) (by omega)]
theorem plainAt_is {ws : List Str} {w : Str} {i : Nat} {pl : Option Int} {p : Int} (hw : w = "halves" ∨ w = "boxes" ∨ w = "rising" ∨ w = "flats") (h : ws[i + 1]? = some (toString p : String)) (p1 : 1 ≤ p) (p3 : p ≤ 3) (hp : pl = none ∨ pl = some p) : plainAt ws w i pl = .ok (mkPl w p) := by
  have nt : ¬ (w = "turns" ∧ (pl = none ∨ pl = some 1)) := fun z => by
    rcases hw with rfl | rfl | rfl | rfl <;> exact absurd z.1 (by decide)
  unfold plainAt
  rw [if_neg nt, if_neg (fun z => z hw)]
  have e : numAt ws (i + 1) (plLo pl) (plHi pl) = .ok p := by
    rcases hp with rfl | rfl
    · exact numAt_is h (by decide) p1 p3 (by decide)
    · exact numAt_is h (by show 0 ≤ p; omega) (Int.le_refl _) (Int.le_refl _) (by show p ≤ 9; omega)
  rw [e]
  rfl
theorem turnsAt_is {ws : List Str} {i : Nat} {pl : Option Int} {m : Int} (h : ws[i + 1]? = some (toString m : String)) (m0 : 0 ≤ m) (m6 : m ≤ 6) (hp : pl = none ∨ pl = some 1) : plainAt ws "turns" i pl = .ok (.turns m) := by
  unfold plainAt
  rw [if_pos ⟨rfl, hp⟩, numAt_is h (by decide) m0 m6 (by decide)]
  rfl
/-- the words stand in ws from i on -/
def At (ws : List Str) (i : Nat) (us : List Str) : Prop := ∀ (j : Nat) (u : Str), us[j]? = some u → ws[i + j]? = some u
theorem At.hd {ws : List Str} {i : Nat} {u : Str} {us : List Str} (h : At ws i (u :: us)) : ws[i]? = some u := by
  have := h 0 u rfl
  simpa using this
theorem At.tl {ws : List Str} {i : Nat} {u : Str} {us : List Str} (h : At ws i (u :: us)) : At ws (i + 1) us := fun j v e => by
  have := h (j + 1) v (by simpa using e)
  rw [show i + 1 + j = i + (j + 1) by omega]
  exact this
theorem At.left {ws : List Str} {i : Nat} {us vs : List Str} (h : At ws i (us ++ vs)) : At ws i us := fun j v e => h j v (by
  rw [List.getElem?_append_left (List.getElem?_eq_some_iff.mp e).1]
  exact e)
theorem At.right {ws : List Str} {i : Nat} {us vs : List Str} (h : At ws i (us ++ vs)) : At ws (i + us.length) vs := fun j v e => by
  have := h (us.length + j) v (by rw [List.getElem?_append_right (by omega)]; simpa using e)
  rw [show i + us.length + j = i + (us.length + j) by omega]
  exact this
theorem At.lt {ws : List Str} {i : Nat} {u : Str} {us : List Str} (h : At ws i (u :: us)) : i < ws.length := (List.getElem?_eq_some_iff.mp h.hd).1
/-- of so many places -/
theorem kindAt_words {ws : List Str} : ∀ {k : Kd} {n i : Nat} {pl : Option Int} {p : Int}, okT p k → 1 ≤ p → p ≤ 3 → (pl = none ∨ pl = some p) → At ws i (wordsK k) → ws.length ≤ i + n → kindAt ws n i pl = .ok (k, i + (wordsK k).length) := by
  have pl_go : ∀ (w : Str) (k : Kd) {n i : Nat} {pl : Option Int} (p m : Int), (wordsK k = [w, (toString m : String)]) → ¬ w = "not" → ¬ (w = "both" ∨ w = "either" ∨ w = "any") → plainAt ws w i pl = .ok k → At ws i (wordsK k) → ws.length ≤ i + n → kindAt ws n i pl = .ok (k, i + (wordsK k).length) := by
    intro w k n i pl p m e n1 n2 hp hA hn
    rw [e] at hA ⊢
    have hi := hA.lt
    obtain ⟨n', rfl⟩ : ∃ n', n = n' + 1 := ⟨n - 1, by omega⟩
    unfold kindAt
    rw [hA.hd]
    dsimp only
    rw [if_neg n1, if_neg n2, hp]
    rfl
  have jn_go : ∀ (w : Str) (k m : Kd), (w = "both" ∨ w = "either" ∨ w = "any") → (∀ {n i : Nat} {pl : Option Int} {p : Int}, okT p k → 1 ≤ p → p ≤ 3 → (pl = none ∨ pl = some p) → At ws i (wordsK k) → ws.length ≤ i + n → kindAt ws n i pl = .ok (k, i + (wordsK k).length)) →
      (∀ {n i : Nat} {pl : Option Int} {p : Int}, okT p m → 1 ≤ p → p ≤ 3 → (pl = none ∨ pl = some p) → At ws i (wordsK m) → ws.length ≤ i + n → kindAt ws n i pl = .ok (m, i + (wordsK m).length)) →
      ∀ {n i : Nat} {pl : Option Int} {p : Int}, okT p k → okT p m → 1 ≤ p → p ≤ 3 → (pl = none ∨ pl = some p) → At ws i (w :: (wordsK k ++ wordsK m)) → ws.length ≤ i + n → kindAt ws n i pl = .ok (mkJ w k m, i + (w :: (wordsK k ++ wordsK m)).length) := by
    intro w k m hw ih1 ih2 n i pl p o1 o2 p1 p3 hp hA hn
    have hi := hA.lt
    obtain ⟨n', rfl⟩ : ∃ n', n = n' + 1 := ⟨n - 1, by omega⟩
    unfold kindAt
    rw [hA.hd]
    dsimp only
    have nn : ¬ w = "not" := by rcases hw with rfl | rfl | rfl <;> decide
    rw [if_neg nn, if_pos hw, ih1 o1 p1 p3 hp hA.tl.left (by omega)]
    dsimp only
    rw [okT_places o1, ih2 (pl := some p) o2 p1 p3 (.inr rfl) hA.tl.right (by omega)]
    dsimp only
    rw [List.length_cons, List.length_append]
    congr 2
    omega
  intro k
  induction k with
  | halves q => exact fun {n i pl p} o p1 p3 hp hA hn => pl_go "halves" (.halves q) p q rfl (by decide) (by decide) (by have : q = p := o; subst this; exact plainAt_is (.inl rfl) hA.tl.hd p1 p3 hp) hA hn
  | boxes q => exact fun {n i pl p} o p1 p3 hp hA hn => pl_go "boxes" (.boxes q) p q rfl (by decide) (by decide) (by have : q = p := o; subst this; exact plainAt_is (.inr (.inl rfl)) hA.tl.hd p1 p3 hp) hA hn
  | rising q => exact fun {n i pl p} o p1 p3 hp hA hn => pl_go "rising" (.rising q) p q rfl (by decide) (by decide) (by have : q = p := o; subst this; exact plainAt_is (.inr (.inr (.inl rfl))) hA.tl.hd p1 p3 hp) hA hn
  | flats q => exact fun {n i pl p} o p1 p3 hp hA hn => pl_go "flats" (.flats q) p q rfl (by decide) (by decide) (by have : q = p := o; subst this; exact plainAt_is (.inr (.inr (.inr rfl))) hA.tl.hd p1 p3 hp) hA hn
  | turns q => exact fun {n i pl p} o p1 p3 hp hA hn => pl_go "turns" (.turns q) p q rfl (by decide) (by decide) (turnsAt_is hA.tl.hd o.2.1 o.2.2 (by rw [o.1] at hp; exact hp)) hA hn
  | no k ih =>
    intro n i pl p o p1 p3 hp hA hn
    have hi := hA.lt
    obtain ⟨n', rfl⟩ : ∃ n', n = n' + 1 := ⟨n - 1, by omega⟩
    unfold kindAt
    rw [hA.hd]
    dsimp only
    rw [if_pos rfl, ih (p := p) o p1 p3 hp hA.tl (by omega)]
    dsimp only
    show Except.ok _ = Except.ok (_, i + ((wordsK k).length + 1))
    congr 2
    omega
  | both k m ih1 ih2 => exact fun {n i pl p} o p1 p3 hp hA hn => jn_go "both" k m (.inl rfl) ih1 ih2 o.1 o.2 p1 p3 hp hA hn
  | either k m ih1 ih2 => exact fun {n i pl p} o p1 p3 hp hA hn => jn_go "either" k m (.inr (.inl rfl)) ih1 ih2 o.1 o.2 p1 p3 hp hA hn
  | any k m ih1 ih2 => exact fun {n i pl p} o p1 p3 hp hA hn => jn_go "any" k m (.inr (.inr rfl)) ih1 ih2 o.1 o.2 p1 p3 hp hA hn
theorem okT_of : ∀ {k : Kd} {p : Int}, okK p k → okT p k
  | .halves _, _, h => h
  | .boxes _, _, h => h
  | .rising _, _, h => h
  | .flats _, _, h => h
  | .turns _, _, h => ⟨h.1, h.2.1, by have := h.2.2; omega⟩
  | .no k, _, h => okT_of (k := k) h
  | .both k m, _, h => ⟨okT_of h.1, okT_of h.2⟩
  | .either k m, _, h => ⟨okT_of h.1, okT_of h.2⟩
  | .any k m, _, h => ⟨okT_of h.1, okT_of h.2⟩
theorem smK_ofT : ∀ {k : Kd} {p : Int}, okT p k → 1 ≤ p → p ≤ 3 → smK k
  | .halves q, p, h, h1, h3 => by have : q = p := h; exact ⟨by omega, by omega⟩
  | .boxes q, p, h, h1, h3 => by have : q = p := h; exact ⟨by omega, by omega⟩
  | .rising q, p, h, h1, h3 => by have : q = p := h; exact ⟨by omega, by omega⟩
  | .flats q, p, h, h1, h3 => by have : q = p := h; exact ⟨by omega, by omega⟩
  | .turns q, p, h, h1, h3 => ⟨h.2.1, by have := h.2.2; omega⟩
  | .no k, p, h, h1, h3 => smK_ofT (k := k) h h1 h3
  | .both k m, p, h, h1, h3 => ⟨smK_ofT h.1 h1 h3, smK_ofT h.2 h1 h3⟩
  | .either k m, p, h, h1, h3 => ⟨smK_ofT h.1 h1 h3, smK_ofT h.2 h1 h3⟩
  | .any k m, p, h, h1, h3 => ⟨smK_ofT h.1 h1 h3, smK_ofT h.2 h1 h3⟩
theorem words_two {k m : Kd} {n : Nat} (h1 : (wordsK k).length ≤ 3 * 2 ^ n - 1) (h2 : (wordsK m).length ≤ 3 * 2 ^ n - 1) : (wordsK k ++ wordsK m).length + 1 ≤ 3 * 2 ^ (n + 1) - 1 := by
  have := Nat.one_le_two_pow (n := n)
  have e : 2 ^ (n + 1) = 2 * 2 ^ n := by rw [Nat.pow_succ]; omega
  rw [List.length_append]
  omega
theorem max_two {a b n : Nat} (h : max a b + 1 ≤ n + 1) : a ≤ n ∧ b ≤ n := by
  have a1 := Nat.le_max_left a b
  have a2 := Nat.le_max_right a b
  exact ⟨by omega, by omega⟩
/-- how many words -/
theorem words_len : ∀ (k : Kd) (n : Nat), depK k ≤ n → (wordsK k).length ≤ 3 * 2 ^ n - 1 := by
  intro k
  induction k with
  | no k ih =>
    intro n h
    cases n with
    | zero => exact absurd h (Nat.not_succ_le_zero _)
    | succ n =>
      have h1 := ih n (Nat.le_of_succ_le_succ h)
      have := Nat.one_le_two_pow (n := n)
      have e : 2 ^ (n + 1) = 2 * 2 ^ n := by rw [Nat.pow_succ]; omega
      show (wordsK k).length + 1 ≤ _
      omega
  | both k m ih1 ih2 =>
    intro n h
    cases n with
    | zero => exact absurd h (Nat.not_succ_le_zero _)
    | succ n => exact words_two (ih1 n (max_two h).1) (ih2 n (max_two h).2)
  | either k m ih1 ih2 =>
    intro n h
    cases n with
    | zero => exact absurd h (Nat.not_succ_le_zero _)
    | succ n => exact words_two (ih1 n (max_two h).1) (ih2 n (max_two h).2)
  | any k m ih1 ih2 =>
    intro n h
    cases n with
    | zero => exact absurd h (Nat.not_succ_le_zero _)
    | succ n => exact words_two (ih1 n (max_two h).1) (ih2 n (max_two h).2)
  | _ =>
    intro n h
    have := Nat.one_le_two_pow (n := n)
    show 2 ≤ _
    omega
theorem no_space {k : Kd} : smK k → ∀ z ∈ wordsK k, (32 : Nat) ∉ TL.tl z := by
  have num : ∀ {p : Int}, 0 ≤ p ∧ p ≤ 9 → (32 : Nat) ∉ TL.tl ((toString p : String) : Str) := fun {p} hp => by
    have cp : p = 0 ∨ p = 1 ∨ p = 2 ∨ p = 3 ∨ p = 4 ∨ p = 5 ∨ p = 6 ∨ p = 7 ∨ p = 8 ∨ p = 9 := by omega
    rcases cp with rfl | rfl | rfl | rfl | rfl | rfl | rfl | rfl | rfl | rfl <;> decide
  induction k with
  | no k ih =>
    intro h z hz
    rcases List.mem_cons.mp hz with rfl | hz
    · decide
    · exact ih h z hz
  | both k m ih1 ih2 =>
    intro h z hz
    rcases List.mem_cons.mp hz with rfl | hz
    · decide
    · exact (List.mem_append.mp hz).elim (ih1 h.1 z) (ih2 h.2 z)
  | either k m ih1 ih2 =>
    intro h z hz
    rcases List.mem_cons.mp hz with rfl | hz
    · decide
    · exact (List.mem_append.mp hz).elim (ih1 h.1 z) (ih2 h.2 z)
  | any k m ih1 ih2 =>
    intro h z hz
    rcases List.mem_cons.mp hz with rfl | hz
    · decide
    · exact (List.mem_append.mp hz).elim (ih1 h.1 z) (ih2 h.2 z)
  | _ =>
    intro h z hz
    rcases List.mem_cons.mp hz with rfl | hz
    · decide
    · rw [List.mem_singleton.mp hz]
      exact num h
theorem split_text {k : Kd} (h : smK k) : Txt.split (textK k) " " = wordsK k := by
  have := TL.split_join (y := " ") (s := 32) (S := []) rfl (by decide +kernel) (words_ne k) (no_space h)
  rw [TL.join_eq] at this
  exact this
end U

set_option Elab.async false
set_option linter.all false
set_option maxRecDepth 100000
set_option maxHeartbeats 4000000
/-! what is read has the words it was read from -/
namespace U
open PySem PySem.Spec L2
theorem numFirst_back {w : Str} : ∀ {n : Nat} {lo r : Int}, numFirst w lo n = some r → w = (toString r : String)
  | 0, _, _, h => nomatch h
  | n + 1, lo, r, h => by
    unfold numFirst at h
    split at h
    · cases h
      assumption
    · exact numFirst_back h
theorem numAt_back {ws : List Str} {i : Nat} {lo hi r : Int} (h : numAt ws i lo hi = .ok r) : ws[i]? = some ((toString r : String) : Str) := by
  unfold numAt at h
  split at h
  · cases h
  · rename_i w hw
    split at h
    · rename_i e
      cases h
      rw [hw, numFirst_back e]
    · cases h
theorem At.one {ws : List Str} {i : Nat} {u : Str} (h : ws[i]? = some u) : At ws i [u] := fun j v e => by
  cases j with
  | zero =>
    obtain rfl := Option.some.inj e
    exact h
  | succ j => exact absurd e (by simp)
theorem At.cons {ws : List Str} {i : Nat} {u : Str} {us : List Str} (h : ws[i]? = some u) (r : At ws (i + 1) us) : At ws i (u :: us) := fun j v e => by
  cases j with
  | zero =>
    obtain rfl := Option.some.inj e
    exact h
  | succ j =>
    rw [show i + (j + 1) = i + 1 + j by omega]
    exact r j v (by simpa using e)
theorem At.app {ws : List Str} {i : Nat} {us vs : List Str} (h : At ws i us) (r : At ws (i + us.length) vs) : At ws i (us ++ vs) := fun j v e => by
  by_cases g : j < us.length
  · rw [List.getElem?_append_left g] at e
    exact h j v e
  · rw [List.getElem?_append_right (by omega)] at e
    have := r (j - us.length) v e
    rw [show i + us.length + (j - us.length) = i + j by omega] at this
    exact this
theorem plainAt_back {ws : List Str} {w : Str} {i : Nat} {pl : Option Int} {k : Kd} (hw : ws[i]? = some w) (h : plainAt ws w i pl = .ok k) : (wordsK k).length = 2 ∧ At ws i (wordsK k) ∧ depK k = 0 := by
  unfold plainAt at h
  split at h
  · rename_i z
    cases e : numAt ws (i + 1) 0 6 with
    | error _ => rw [e] at h; cases h
    | ok m =>
      rw [e] at h
      cases h
      exact ⟨rfl, .cons (hw.trans (congrArg some z.1)) (.one (numAt_back e)), rfl⟩
  · split at h
    · cases h
    · rename_i z
      have z : w = "halves" ∨ w = "boxes" ∨ w = "rising" ∨ w = "flats" := Decidable.not_not.mp z
      cases e : numAt ws (i + 1) (plLo pl) (plHi pl) with
      | error _ => rw [e] at h; cases h
      | ok m =>
        rw [e] at h
        cases h
        rcases z with rfl | rfl | rfl | rfl
        · exact ⟨rfl, .cons hw (.one (numAt_back e)), rfl⟩
        · exact ⟨rfl, .cons hw (.one (numAt_back e)), rfl⟩
        · exact ⟨rfl, .cons hw (.one (numAt_back e)), rfl⟩
        · exact ⟨rfl, .cons hw (.one (numAt_back e)), rfl⟩
theorem kindAt_back {ws : List Str} : ∀ {n i : Nat} {pl : Option Int} {k : Kd} {j : Nat}, kindAt ws n i pl = .ok (k, j) → j = i + (wordsK k).length ∧ At ws i (wordsK k) ∧ depK k ≤ n
  | 0, _, _, _, _, h => nomatch h
  | n + 1, i, pl, k, j, h => by
    unfold kindAt at h
    split at h
    · cases h
    · rename_i w hw
      split at h
      · rename_i z
        split at h
        · cases h
        · rename_i e
          cases h
          obtain ⟨a, b, d⟩ := kindAt_back e
          subst z
          exact ⟨by show j = i + ((wordsK _).length + 1); omega, .cons hw b, by show depK _ + 1 ≤ n + 1; omega⟩
      · split at h
        · rename_i z
          split at h
          · cases h
          · rename_i k1 j1 e1
            obtain ⟨a1, b1, d1⟩ := kindAt_back e1
            split at h
            · cases h
            · rename_i m j2 e2
              obtain ⟨a2, b2, d2⟩ := kindAt_back e2
              cases h
              have hj : j = i + ((wordsK k1 ++ wordsK m).length + 1) := by rw [List.length_append]; omega
              have hA : At ws i (w :: (wordsK k1 ++ wordsK m)) := .cons hw (.app b1 (by rw [← a1]; exact b2))
              have hd : max (depK k1) (depK m) + 1 ≤ n + 1 := by have := Nat.max_le.mpr ⟨d1, d2⟩; omega
              rcases z with rfl | rfl | rfl
              · exact ⟨hj, hA, hd⟩
              · exact ⟨hj, hA, hd⟩
              · exact ⟨hj, hA, hd⟩
        · split at h
          · cases h
          · rename_i e
            cases h
            obtain ⟨a, b, d⟩ := plainAt_back hw e
            exact ⟨by omega, b, by omega⟩
theorem at_all {ws us : List Str} (h : At ws 0 us) (hl : ws.length ≤ us.length) : us = ws := by
  apply List.ext_getElem?
  intro j
  by_cases g : j < us.length
  · obtain ⟨u, hu⟩ : ∃ u, us[j]? = some u := ⟨us[j], List.getElem?_eq_getElem g⟩
    have := h j u hu
    rw [Nat.zero_add] at this
    rw [hu, this]
  · rw [List.getElem?_eq_none (by omega), List.getElem?_eq_none (by omega)]
/-- what the law's own reading gives -/
def endP (ws : List Str) (n i : Nat) (pl : Option Int) : Option Nat × Int := match kindAt ws n i pl with
  | .ok kj => (some kj.2, placesK kj.1)
  | .error j => (none, j)
/-- the fault's place, by the law -/
def dueAt (ws : List Str) (n : Nat) : Option Nat := match kindAt ws n 0 none with
  | .ok kj => if kj.2 < ws.length then some kj.2 else none
  | .error j => some j
end U

set_option Elab.async false
set_option linter.all false
set_option maxRecDepth 100000
set_option maxHeartbeats 2000000
namespace U
open PySem L2
open Evl (Ex)
/-! ### what evaluates to data -/
section
variable {K : PySem.W.Frag} {L : List Addr} {σ : L2.St} {H H' : Hp} {te tb : TE} {ta tr : TA} {v : V} {d : PyData} {ds : List PyData} {l p : Addr} {o : HO}
def EvQ (K : PySem.W.Frag) (L : List Addr) (te : TE) (σ : L2.St) (H : Hp) (d : PyData) : Prop := ∀ H1, Ex H H1 → ∀ Q : VK, (∀ v H2, Ex H1 H2 → Dq K (W L H2) v d → Q v H2) → te σ H1 Q
def EvQs (K : PySem.W.Frag) (L : List Addr) (ta : TA) (σ : L2.St) (H : Hp) (ds : List PyData) : Prop := ∀ H1, Ex H H1 → ∀ Q : List V → Hp → Prop, (∀ vs H2, Ex H1 H2 → DqAll K (W L H2) vs ds → Q vs H2) → ta σ H1 Q
theorem EvQ.mono (e : Ex H H') (h : EvQ K L te σ H d) : EvQ K L te σ H' d := fun H1 a Q q => h H1 (e.trans a) Q q
theorem EvQs.mono (e : Ex H H') (h : EvQs K L ta σ H ds) : EvQs K L ta σ H' ds := fun H1 a Q q => h H1 (e.trans a) Q q
theorem evq_of (h : Evl.Ev te σ H v) (hd : Dq K (W L H) v d) : EvQ K L te σ H d := fun H1 e Q q => h H1 e _ fun H2 e2 => q v H2 e2 (hd.up (w_ex (e.trans e2)))
theorem evq_var {i : Nat} (h : σ[i]? = some (some v)) (hd : Dq K (W L H) v d) : EvQ K L (tVar i) σ H d := evq_of (Evl.ev_var h) hd
theorem evq_int {i : Int} : EvQ K L (tC (.int i)) σ H (.int i) := evq_of Evl.ev_c (.int i)
theorem evq_bl {b : Bool} : EvQ K L (tC (.bl b)) σ H (.bool b) := evq_of Evl.ev_c (.bl b)
theorem evq_non : EvQ K L (tC .non) σ H .none := evq_of Evl.ev_c .non
theorem evq_str {x : Str} : EvQ K L (tC (.str x)) σ H (.str x) := evq_of Evl.ev_c (.str x)
theorem evq_evI {i : Int} (h : Evl.Ev te σ H (.int i)) : EvQ K L te σ H (.int i) := evq_of h (.int i)
theorem evq_evB {b : Bool} (h : Evl.Ev te σ H (.bl b)) : EvQ K L te σ H (.bool b) := evq_of h (.bl b)
theorem evqs_nil : EvQs K L tNil σ H [] := fun H1 _ _ q => q [] H1 (Ex.refl H1) .nil
theorem evqs_cons (h : EvQ K L te σ H d) (hr : EvQs K L tr σ H ds) : EvQs K L (tCons te tr) σ H (d :: ds) := fun H1 e Q q =>
  h H1 e _ fun v H2 e2 hv => hr H2 (e.trans e2) _ fun vs H3 e3 hvs => q (v :: vs) H3 (e2.trans e3) (.cons (hv.up (w_ex e3)) hvs)
theorem evq_tup (hL : Hid L H) (h : EvQs K L ta σ H ds) (hz : ds.length ≤ 100000) : EvQ K L (tTup ta) σ H (.tuple ds) := fun H1 e Q q =>
  h H1 e _ fun vs H2 e2 hv => ⟨Evl.sz_of (by rw [dqa_len hv]; exact hz), fun p hp => q (.ref p) _ (e2.trans (Ex.new hp)) (.tup (SqT.of (w_new (hid_ex (e.trans e2) hL) hp)) (hv.up (w_ex (Ex.new hp))))⟩
theorem evq_lst (hL : Hid L H) (h : EvQs K L ta σ H ds) (hz : ds.length ≤ 100000) : EvQ K L (tLst ta) σ H (.list ds) := fun H1 e Q q =>
  h H1 e _ fun vs H2 e2 hv => ⟨Evl.sz_of (by rw [dqa_len hv]; exact hz), fun p hp => q (.ref p) _ (e2.trans (Ex.new hp)) (.lst (SqL.of (w_new (hid_ex (e.trans e2) hL) hp)) (hv.up (w_ex (Ex.new hp))))⟩
/-! ### a list that grows -/
/-- at l a list of the data ds, which do not hang on l -/
def Gq (K : PySem.W.Frag) (L : List Addr) (H : Hp) (l : Addr) (ds : List PyData) : Prop := l ∉ L ∧ ∃ xs, H l = some (.lst xs) ∧ DqAll K (W (l :: L) H) xs ds
theorem Gq.dp (h : Gq K L H l ds) : Dq K (W L H) (.ref l) (.list ds) := by
  obtain ⟨n, xs, h1, h2⟩ := h
  exact .lst (SqL.of (w_of n h1)) (h2.up w_cons)
theorem Gq.up (h : Gq K L H l ds) (e : Ex H H') : Gq K L H' l ds := by
  obtain ⟨n, xs, h1, h2⟩ := h
  exact ⟨n, xs, e _ _ h1, h2.up (w_ex e)⟩
theorem Gq.ne (h : Gq K L H l ds) : H l ≠ none := by
  obtain ⟨n, xs, h1, h2⟩ := h
  rw [h1]
  simp
theorem gq_new {xs : List V} (hL : Hid L H) (hp : H p = none) (h : DqAll K (W L H) xs ds) : Gq K L (upd H p (.lst xs)) p ds := ⟨hid_not hL hp, xs, upd_same, h.up (w_fresh hp)⟩
/-- a heap that differs at l alone, where the list has one more -/
theorem gq_app {xs : List V} (n : l ∉ L) (h1 : H l = some (.lst xs)) (h2 : DqAll K (W (l :: L) H) xs ds) (hv : Dq K (W (l :: L) H) v d) : Gq K L (upd H l (.lst (xs ++ [v]))) l (ds ++ [d]) := by
  refine ⟨n, xs ++ [v], upd_same, ?_⟩
  rw [w_upd_in (List.mem_cons_self ..)]
  exact dqa_app h2 (.cons hv .nil)
/-! ### statements -/
variable {D : Ends} {tz tu : TS} {i : Nat}
theorem dq_asg (h : EvQ K L te σ H d) (k : ∀ v H1, Ex H H1 → Dq K (W L H1) v d → D.nx (σ.set i (some v)) H1) : tAsg te (gName i) D σ H := h H (Ex.refl H) _ fun v H1 e hv => k v H1 e hv
theorem qq_asg (h : EvQ K L te σ H d) (k : ∀ v H1, Ex H H1 → Dq K (W L H1) v d → tz D (σ.set i (some v)) H1) : tSeq (tAsg te (gName i)) tz D σ H := dq_asg (D := { D with nx := tz D }) h k
theorem dq_ret (h : EvQ K L te σ H d) (k : ∀ v H1, Ex H H1 → Dq K (W L H1) v d → D.rt v H1) : tRet te D σ H := h H (Ex.refl H) _ fun v H1 e hv => k v H1 e hv
theorem qq_lst (hL : Hid L H) (h : EvQs K L ta σ H ds) (hz : ds.length ≤ 100000) (k : ∀ p H1, H p = none → Ex H H1 → Gq K L H1 p ds → tz D (σ.set i (some (.ref p))) H1) : tSeq (tAsg (tLst ta) (gName i)) tz D σ H :=
  h H (Ex.refl H) _ fun vs H1 e hv => ⟨Evl.sz_of (by rw [dqa_len hv]; exact hz), fun p hp => k p _ (Evl.fresh_back e hp) (e.trans (Ex.new hp)) (gq_new (hid_ex e hL) hp hv)⟩
theorem dq_app (hg : Gq K L H l ds) (ho : Evl.Ev tb σ H (.ref l)) (h : EvQ K (l :: L) te σ H d) (hz : ds.length < 100000) (k : ∀ o H1, Ex H H1 → Gq K L (upd H1 l o) l (ds ++ [d]) → D.nx σ (upd H1 l o)) :
    tDrop (tBM K "list" rAppend tb (tCons te tNil)) D σ H := ho H (Ex.refl H) _ fun H1 e1 => by
  obtain ⟨n, xs, h1, h2⟩ := hg
  refine ⟨Or.inl ⟨rfl, xs, SqL.of (e1 l _ h1)⟩, h H1 e1 _ fun v H2 e2 hv => ⟨l, xs, v, rfl, rfl, e2 l _ (e1 l _ h1), Evl.sz_lt (by rw [dqa_len h2]; exact hz), k _ H2 (e1.trans e2) ?_⟩⟩
  exact gq_app n (e2 l _ (e1 l _ h1)) (h2.up (w_ex (e1.trans e2))) hv
theorem qq_app (hg : Gq K L H l ds) (ho : Evl.Ev tb σ H (.ref l)) (h : EvQ K (l :: L) te σ H d) (hz : ds.length < 100000) (k : ∀ o H1, Ex H H1 → Gq K L (upd H1 l o) l (ds ++ [d]) → tz D σ (upd H1 l o)) :
    tSeq (tDrop (tBM K "list" rAppend tb (tCons te tNil))) tz D σ H := dq_app (D := { D with nx := tz D }) hg ho h hz k
/-- xs + ys, the left a list that stands, the right a new one -/
theorem evq_cat {es : List PyData} (hL : Hid L H) (hg : Gq K L H l ds) (ho : Evl.Ev te σ H (.ref l)) (h : EvQs K L ta σ H es) (hz : ds.length + es.length ≤ 100000) : EvQ K L (tOp rCat te (tLst ta)) σ H (.list (ds ++ es)) := fun H1 e1 Q q =>
  ho H1 e1 _ fun H2 e2 => h H2 (e1.trans e2) _ fun vs H3 e3 hv => by
    have eA := (e1.trans e2).trans e3
    obtain ⟨n, xs, h1, h2⟩ := hg
    have l1 := dqa_len h2
    have l2 := dqa_len hv
    refine ⟨Evl.sz_of (by omega), fun p hp => ⟨l, p, xs, vs, rfl, rfl, ?_, upd_same, Evl.sz_of (by omega), fun r hr => ?_⟩⟩
    · exact (eA.trans (Ex.new hp)) l _ h1
    · refine q (.ref r) _ ((e2.trans e3).trans ((Ex.new hp).trans (Ex.new hr))) (.lst (SqL.of (w_new (hid_upd (hid_ex eA hL)) hr)) ?_)
      have z : Ex (W L H3) (W L (upd (upd H3 p (.lst vs)) r (.lst (xs ++ vs)))) := w_ex ((Ex.new hp).trans (Ex.new hr))
      exact dqa_app (((h2.up w_cons).up (w_ex eA)).up z) (hv.up z)
/-- xs.extend(ys), ys a new list -/
theorem dq_ext {es : List PyData} (hg : Gq K L H l ds) (hL : Hid L H) (ho : Evl.Ev tb σ H (.ref l)) (h : EvQs K (l :: L) ta σ H es) (hz : ds.length + es.length ≤ 100000) (k : ∀ o H1, Ex H H1 → Gq K L (upd H1 l o) l (ds ++ es) → D.nx σ (upd H1 l o)) :
    tDrop (tBM K "list" rExtend tb (tCons (tLst ta) tNil)) D σ H := ho H (Ex.refl H) _ fun H1 e1 => by
  obtain ⟨n, xs, h1, h2⟩ := hg
  refine ⟨Or.inl ⟨rfl, xs, SqL.of (e1 l _ h1)⟩, h H1 e1 _ fun vs H2 e2 hv => ?_⟩
  have l1 := dqa_len h2
  have l2 := dqa_len hv
  refine ⟨Evl.sz_of (by omega), fun p hp => ?_⟩
  have e3 : Ex H2 (upd H2 p (.lst vs)) := Ex.new hp
  have eA := (e1.trans e2).trans e3
  refine ⟨l, p, xs, vs, rfl, rfl, eA l _ h1, upd_same, Evl.sz_of (by omega), k _ _ eA ⟨n, xs ++ vs, upd_same, ?_⟩⟩
  rw [w_upd_in (List.mem_cons_self ..)]
  exact dqa_app (h2.up (w_ex eA)) (hv.up (w_ex e3))
theorem qq_ext {es : List PyData} (hg : Gq K L H l ds) (hL : Hid L H) (ho : Evl.Ev tb σ H (.ref l)) (h : EvQs K (l :: L) ta σ H es) (hz : ds.length + es.length ≤ 100000) (k : ∀ o H1, Ex H H1 → Gq K L (upd H1 l o) l (ds ++ es) → tz D σ (upd H1 l o)) :
    tSeq (tDrop (tBM K "list" rExtend tb (tCons (tLst ta) tNil))) tz D σ H := dq_ext (D := { D with nx := tz D }) hg hL ho h hz k
end
/-! ### a comprehension whose items are data -/
section
variable {K : PySem.W.Frag} {L : List Addr} {σ σ2 : L2.St} {H H' H1 H2 : Hp} {te tl : TE} {ta : TA} {tt : TT} {v : V} {d : PyData} {ds : List PyData} {l a Dl : Addr} {xs : List V} {f : Nat → List PyData} {i : Nat}
/-- evaluates to a new list of data -/
def EvGq (K : PySem.W.Frag) (L : List Addr) (te : TE) (σ : L2.St) (H : Hp) (ds : List PyData) : Prop := ∀ H1, Ex H H1 → ∀ Q : VK, (∀ p H2, H1 p = none → Ex H1 H2 → Gq K L H2 p ds → Q (.ref p) H2) → te σ H1 Q
theorem EvGq.mono (e : Ex H H') (h : EvGq K L te σ H ds) : EvGq K L te σ H' ds := fun H1 a Q q => h H1 (e.trans a) Q q
theorem EvGq.dat (h : EvGq K L te σ H ds) : EvQ K L te σ H (.list ds) := fun H1 e Q q => h H1 e _ fun p H2 hp e2 g => q (.ref p) H2 e2 g.dp
def Cmq (K : PySem.W.Frag) (L : List Addr) (H : Hp) (f : Nat → List PyData) (Dl : Addr) (i : Nat) (H' : Hp) : Prop := H Dl = none ∧ Ex H H' ∧ Gq K L H' Dl (f i)
theorem cmq_0 (hL : Hid L H) (hn : H Dl = none) (f0 : f 0 = []) : Cmq K L H f Dl 0 (upd H Dl (.lst [])) := ⟨hn, Ex.new hn, by
  rw [f0]
  exact gq_new hL hn .nil⟩
theorem cmq_yes (p : Cmq K L H f Dl i H') (hz : (f i).length < 100000) (e2 : Ex H' H2) (he : EvQ K (Dl :: L) te σ2 H2 d) (hf : f (i + 1) = f i ++ [d]) :
    te σ2 H2 fun y H4 => ∃ acc, H4 Dl = some (.lst acc) ∧ acc.length < sizeLine ∧ Cmq K L H f Dl (i + 1) (upd H4 Dl (.lst (acc ++ [y]))) := by
  obtain ⟨p1, p2, n, acc, p3, p4⟩ := p
  refine he H2 (Ex.refl H2) _ fun y H4 e4 hy => ⟨acc, e4 Dl _ (e2 Dl _ p3), Evl.sz_lt (by rw [dqa_len p4]; exact hz), p1, Evl.Ex.mut ((p2.trans e2).trans e4) p1, ?_⟩
  rw [hf]
  exact gq_app n (e4 Dl _ (e2 Dl _ p3)) (p4.up (w_ex (e2.trans e4))) hy
theorem cmq_no (p : Cmq K L H f Dl i H') (e2 : Ex H' H2) (hf : f (i + 1) = f i) : Cmq K L H f Dl (i + 1) H2 := by
  obtain ⟨p1, p2, p3⟩ := p
  rw [← hf] at p3
  exact ⟨p1, p2.trans e2, p3.up e2⟩
/-- [.. for x in a list or a tuple of data] -/
theorem egq_seq {j : Nat} {vs : List Nat} {g : PyData → PyData} (h : Evl.Ev tl σ H (.ref a)) (hx : SqL K H a xs ∨ SqT K H a xs) (hd : DqAll K (W L H) xs ds) (hL : Hid L H) (hz : ds.length ≤ 50000) (hw : ∀ x, wipe ((wipe σ vs).set j (some x)) vs = wipe σ vs)
    (he : ∀ L' (x : V) d H1, d ∈ ds → Hid L' H1 → Ex H H1 → Dq K (W L' H1) x d → EvQ K L' te ((wipe σ vs).set j (some x)) H1 (g d)) : EvGq K L (tLc (iSeq K tl) (gName j) tYes te vs) σ H (ds.map g) := fun H0 e0 Q q => h H0 e0 _ fun H1 e1 => by
  have hlen := dqa_len hd
  have turn : ∀ (Dl : Addr) (i : Nat) (x : V) (H2 H3 : Hp), i < xs.length → Cmq K L H1 (fun i => (ds.take i).map g) Dl i H2 → YAt xs i H2 x H3 → gName j x (wipe σ vs) H3 fun σ2 H2 => wipe σ2 vs = wipe σ vs ∧ tYes σ2 H2 fun b H3 =>
      if b = true then te σ2 H3 fun y H4 => ∃ acc, H4 Dl = some (.lst acc) ∧ acc.length < sizeLine ∧ Cmq K L H1 (fun i => (ds.take i).map g) Dl (i + 1) (upd H4 Dl (.lst (acc ++ [y]))) else Cmq K L H1 (fun i => (ds.take i).map g) Dl (i + 1) H3 := by
    intro Dl i x H2 H3 hi p yp
    obtain ⟨rfl, hu⟩ := yp
    obtain ⟨d, hd1, hd2⟩ := dqa_get hd hu
    obtain ⟨p1, p2, p3⟩ := id p
    refine ⟨hw x, ?_⟩
    refine yes_lc (A := fun H3 => te ((wipe σ vs).set j (some x)) H3 fun y H4 => ∃ acc, H4 Dl = some (.lst acc) ∧ acc.length < sizeLine ∧ Cmq K L H1 (fun i => (ds.take i).map g) Dl (i + 1) (upd H4 Dl (.lst (acc ++ [y])))) (B := fun H3 => Cmq K L H1 (fun i => (ds.take i).map g) Dl (i + 1) H3) ?_
    refine cmq_yes p (by simp; omega) (Ex.refl _) (he _ x d _ (List.mem_of_getElem? hd1) ?_ ((e0.trans e1).trans p2) (hd2.up (w_past (Evl.fresh_back (e0.trans e1) p1) ((e0.trans e1).trans p2)))) ?_
    · intro b hb
      rcases List.mem_cons.mp hb with z | z
      · rw [z]
        exact p3.ne
      · exact hid_ex ((e0.trans e1).trans p2) hL b z
    · have hi' : i < ds.length := by omega
      rw [List.take_add_one, hd1]
      simp
  have fin : ∀ Dl H2, Cmq K L H1 (fun i => (ds.take i).map g) Dl xs.length H2 → Q (.ref Dl) H2 := fun Dl H2 p => by
    obtain ⟨p1, p2, p3⟩ := p
    refine q Dl H2 (Evl.fresh_back e1 p1) (e1.trans p2) ?_
    have e : (ds.take xs.length).map g = ds.map g := by rw [hlen, List.take_length]
    rw [← e]
    exact p3
  have hL1 : Hid L H1 := hid_ex (e0.trans e1) hL
  refine ⟨a, rfl, ?_⟩
  rcases hx with x1 | x1
  · refine .inl ⟨⟨xs, Evl.ex_l (e0.trans e1) x1⟩, fun Dl hD => ?_⟩
    exact lc_it (walk_list (xs := xs)) (Cmq K L H1 (fun i => (ds.take i).map g) Dl) (cmq_0 hL1 hD rfl) (fun i H2 _ p => Evl.ex_l ((e0.trans e1).trans p.2.1) x1) (fun i x H2 H3 hi p y => turn Dl i x H2 H3 hi p y) (fun H2 p => fin Dl H2 p)
  · refine .inr ⟨⟨xs, Evl.ex_t (e0.trans e1) x1⟩, fun Dl hD => ?_⟩
    exact lc_it (walk_tup (xs := xs)) (Cmq K L H1 (fun i => (ds.take i).map g) Dl) (cmq_0 hL1 hD rfl) (fun i H2 _ p => Evl.ex_t ((e0.trans e1).trans p.2.1) x1) (fun i x H2 H3 hi p y => turn Dl i x H2 H3 hi p y) (fun H2 p => fin Dl H2 p)
/-- tuple(a new list of data) -/
theorem evq_tupG (h : EvGq K L te σ H ds) (hL : Hid L H) : EvQ K L (tCB (fun xs H Q => ∃ p ys, xs = [.ref p] ∧ ((SqL K H p ys ∧ ∀ l, H l = none → Q (.ref l) (upd H l (.tup ys))) ∨ (SqT K H p ys ∧ Q (.ref p) H))) (tCons te tNil)) σ H (.tuple ds) := fun H1 e Q q =>
  h H1 e _ fun p H2 hp e2 g => by
    obtain ⟨n, ys, g1, g2⟩ := g
    refine ⟨p, ys, rfl, .inl ⟨SqL.of g1, fun r hr => ?_⟩⟩
    exact q (.ref r) _ (e2.trans (Ex.new hr)) (.tup (SqT.of (w_new (hid_ex (e.trans e2) hL) hr)) ((g2.up w_cons).up (w_ex (Ex.new hr))))
/-- tuple(x) of data that are a list or a tuple -/
theorem evq_tupD {x : V} (h : Evl.Ev te σ H x) (hd : Dq K (W L H) x (.list ds) ∨ Dq K (W L H) x (.tuple ds)) (hL : Hid L H) : EvQ K L (tCB (fun xs H Q => ∃ p ys, xs = [.ref p] ∧ ((SqL K H p ys ∧ ∀ l, H l = none → Q (.ref l) (upd H l (.tup ys))) ∨ (SqT K H p ys ∧ Q (.ref p) H))) (tCons te tNil)) σ H (.tuple ds) := fun H1 e Q q =>
  h H1 e _ fun H2 e2 => by
    rcases hd with hd | hd
    · cases hd with
      | @lst p ys _ hs ha =>
        refine ⟨p, ys, rfl, .inl ⟨Evl.ex_l (w_sub.trans (e.trans e2)) hs, fun r hr => ?_⟩⟩
        exact q (.ref r) _ (e2.trans (Ex.new hr)) (.tup (SqT.of (w_new (hid_ex (e.trans e2) hL) hr)) (ha.up (w_ex ((e.trans e2).trans (Ex.new hr)))))
    · have hd' := hd
      cases hd with
      | @tup p ys _ hs ha =>
        exact ⟨p, ys, rfl, .inr ⟨Evl.ex_t (w_sub.trans (e.trans e2)) hs, q (.ref p) H2 e2 (hd'.up (w_ex (e.trans e2)))⟩⟩
/-- list(x) of data that are a list or a tuple -/
theorem egq_list {x : V} (h : Evl.Ev te σ H x) (hd : Dq K (W L H) x (.list ds) ∨ Dq K (W L H) x (.tuple ds)) (hL : Hid L H) : EvGq K L (tCB (fun xs H Q => ∃ p ys, xs = [.ref p] ∧ (SqL K H p ys ∨ SqT K H p ys) ∧ ∀ l, H l = none → Q (.ref l) (upd H l (.lst ys))) (tCons te tNil)) σ H ds := fun H1 e Q q =>
  h H1 e _ fun H2 e2 => by
    rcases hd with hd | hd
    · cases hd with
      | @lst p ys _ hs ha =>
        refine ⟨p, ys, rfl, .inl (Evl.ex_l (w_sub.trans (e.trans e2)) hs), fun r hr => ?_⟩
        exact q r _ (Evl.fresh_back e2 hr) (e2.trans (Ex.new hr)) (gq_new (hid_ex (e.trans e2) hL) hr (ha.up (w_ex (e.trans e2))))
    · cases hd with
      | @tup p ys _ hs ha =>
        refine ⟨p, ys, rfl, .inr (Evl.ex_t (w_sub.trans (e.trans e2)) hs), fun r hr => ?_⟩
        exact q r _ (Evl.fresh_back e2 hr) (e2.trans (Ex.new hr)) (gq_new (hid_ex (e.trans e2) hL) hr (ha.up (w_ex (e.trans e2))))
end
end U

set_option Elab.async false
set_option linter.all false
set_option maxRecDepth 100000
set_option maxHeartbeats 4000000
/-! rules as data -/
namespace U
open PySem PySem.Spec PyProof.Rows L2
open Evl (Ex)
section
def sq (t : Bool) (ds : List PyData) : PyData := if t then .tuple ds else .list ds
end
section
def oD : Option Int → PyData
  | none => .none
  | some i => .int i
end
section
def oV : Option Int → V
  | none => .non
  | some i => .int i
end
section
theorem oD_inv {K : PySem.W.Frag} {H : Hp} {v : V} {o : Option Int} (h : Dp K H v (oD o)) : v = oV o := by
  cases o <;> (cases h; rfl)
end
section
def smallE (x : List Int) : Prop := ∀ e ∈ x, -(2 ^ 64) < e ∧ e < 2 ^ 64
end
section
def rgD (t : Bool) (p : Option Int × Option Int) : PyData := sq t [oD p.1, oD p.2]
end
section
inductive Rl where
  | half (ws : List Int) (b : Int)
  | box (rs : List (Option Int × Option Int))
  | rise (cs : List (List (Option Int)))
  | flat (ps : List (List Int))
  | turns (f : Bool) (cs : List Int)
  | no (r : Rl)
  | both (r s : Rl)
  | either (r s : Rl)
  | first (r : Rl)
  | second (r : Rl)
end
section
def Bits (n : Nat) (r : List Int) : Prop := ∀ x ∈ r, x.natAbs < 2 ^ n
end
section
variable {P : Program} {w : World} {K : PySem.W.Frag} {mg : Str → Option Value} {base : Heap}
theorem dpi_inv {H : Hp} {vs : List V} {ns : List Int} (h : DpAll K H vs (ns.map PyData.int)) : vs = ns.map V.int := by
  induction ns generalizing vs with
  | nil =>
    cases h
    rfl
  | cons n ns ih =>
    cases h with
    | cons r rr =>
      cases r
      rw [ih rr]
      rfl
end
section
def rlD (t : Bool) : Rl → PyData
  | .half ws b => sq t [.str "half", sq t (ws.map .int), .int b]
  | .box rs => sq t [.str "box", sq t (rs.map (rgD t))]
  | .rise cs => sq t [.str "rise", sq t (cs.map fun c => sq t (c.map oD))]
  | .flat ps => sq t [.str "flat", sq t (ps.map fun y => sq t (y.map .int))]
  | .turns f cs => sq t [.str "turns", .bool f, sq t (cs.map .int)]
  | .no r => sq t [.str "not", rlD t r]
  | .both r s => sq t [.str "both", rlD t r, rlD t s]
  | .either r s => sq t [.str "either", rlD t r, rlD t s]
  | .first r => sq t [.str "first", rlD t r]
  | .second r => sq t [.str "second", rlD t r]
end
section
def okR (d : Nat) : Rl → Prop
  | .half ws b => ws.length = d ∧ smallE ws
  | .box rs => rs.length = d
  | .rise cs => (∀ c ∈ cs, c.length = d) ∧ cs.length ≤ 1000
  | .flat ps => (∀ y ∈ ps, y.length = d) ∧ ps.length ≤ 3 ∧ ∀ y ∈ ps, Bits 59 y
  | .turns f cs => d = 1 ∧ cs.length ≤ 1000
  | .no r => okR d r
  | .both r s => okR d r ∧ okR d s
  | .either r s => okR d r ∧ okR d s
  | .first r => okR d r
  | .second r => okR d r
end
section
def depR : Rl → Nat
  | .no r => depR r + 1
  | .both r s => max (depR r) (depR s) + 1
  | .either r s => max (depR r) (depR s) + 1
  | .first r => depR r + 1
  | .second r => depR r + 1
  | _ => 0
end
structure TxR (mg : Str → Option Value) : Prop extends TxF mg
section
variable {K : PySem.W.Frag} {σ : L2.St} {H : Hp} {ta tb te : TE} {xs ys : List V}
theorem el_cat (h1 : Evl.EvL ta σ H xs) (h2 : Evl.EvL tb σ H ys) (hz : xs.length + ys.length ≤ 10000) : Evl.EvL (tOp rCat ta tb) σ H (xs ++ ys) := fun H1 e Q q => h1 H1 e _ fun p1 H2 hp e2 hx => h2 H2 (e.trans e2) _ fun p2 H3 hp2 e3 hy =>
  ⟨p1, p2, xs, ys, rfl, rfl, e3 _ _ hx, hy, Evl.sz_of (by omega), fun r hr => q r _ (Evl.fresh_back (e2.trans e3) hr) ((e2.trans e3).trans (Ex.new hr)) upd_same⟩
end
section
variable {K : PySem.W.Frag} {σ : L2.St} {H : Hp} {ta tb te : TE} {xs ys : List V}
theorem el_listT {a : Addr} (h : Evl.Ev te σ H (.ref a)) (hx : SqL K H a xs ∨ SqT K H a xs) : Evl.EvL (tCB (fun xs H Q => ∃ p ys, xs = [.ref p] ∧ (SqL K H p ys ∨ SqT K H p ys) ∧ ∀ l, H l = none → Q (.ref l) (upd H l (.lst ys))) (tCons te tNil)) σ H xs := fun H1 e Q q => h H1 e _ fun H2 e2 =>
  ⟨a, xs, rfl, hx.imp (Evl.ex_l (e.trans e2)) (Evl.ex_t (e.trans e2)), fun r hr => q r _ (Evl.fresh_back e2 hr) (e2.trans (Ex.new hr)) upd_same⟩
end
section
variable {K : PySem.W.Frag} {σ : L2.St} {H : Hp} {ta tb te : TE} {xs ys : List V}
theorem ev_int1 {b : Bool} (h : Evl.Ev te σ H (.bl b)) : Evl.Ev (tCB (fun xs H Q => (∃ i, xs = [.int i] ∧ Q (.int i) H) ∨ ∃ k, xs = [.bl k] ∧ Q (.int (if k then 1 else 0)) H) (tCons te tNil)) σ H (.int (if b then 1 else 0)) := fun H1 e Q q => h H1 e _ fun H2 e2 => .inr ⟨b, rfl, q H2 e2⟩
end
section
variable {P : Program} {w : World} {K : PySem.W.Frag} {mg : Str → Option Value} {base : Heap}
theorem ne_of_none' {H : Hp} {a b : Addr} (h : H a = none) (h2 : H b ≠ none) : a ≠ b := fun e => h2 (by rw [← e]; exact h)
end
section
variable {P : Program} {w : World} {K : PySem.W.Frag} {mg : Str → Option Value} {base : Heap}
theorem gr_in {K : PySem.W.Frag} {L : List Addr} {H : Hp} {l t : Addr} {o : HO} {ds : List PyData} (h : Gr K L H t ds) (m : l ∈ L) : Gr K L (upd H l o) t ds := by
  obtain ⟨n, xs, h1, h2⟩ := h
  refine ⟨n, xs, by rw [upd_ne (fun z => n (by rw [z]; exact m))]; exact h1, ?_⟩
  rw [w_upd_in (List.mem_cons_of_mem _ m)]
  exact h2
end
section
variable {P : Program} {w : World} {K : PySem.W.Frag} {mg : Str → Option Value} {base : Heap}
theorem draw_run {σ : L2.St} {H : Hp} {tm : TE} {l : Addr} {n : Nat} {many : Int} {Q : VK} (h0 : σ[0]? = some (some (.ref l))) (hd : Dr n H l) (hn : n < 1000000) (hm : Evl.Ev tm σ H (.int many)) (m0 : 0 < many) (m1 : many < 1073741824)
    (k : ∀ r H', 0 ≤ r → r < many → Dr (n + 1) H' l → ExB l H H' → Q (.int r) H') : tCallD spDraw (tCons (tVar 0) (tCons tm tNil)) σ H Q :=
  ⟨_, h0, hm H (Ex.refl H) _ fun H1 e1 => ⟨l, many, n, rfl, hd.ex e1, hn, m0, m1, fun r o r0 r1 hd' => k r _ r0 r1 hd' ((ExB.of e1).trans ExB.upd)⟩⟩
end
end U

set_option Elab.async false
set_option linter.all false
set_option maxRecDepth 100000
set_option maxHeartbeats 4000000
namespace U
open PySem PySem.Spec PyProof.Rows L2
open Evl (Ex)
abbrev s_plain : Stmt := top 34
abbrev sc_plain_N : List Str := ["_law_draws", "_law_places", "_law_word"]
theorem sc_plain : FnScope sc_plain_N ["_law_draws", "_law_places"] (defScope s_plain) := ⟨rfl, rfl, rfl, by decide +kernel, rfl, by decide +kernel, by decide +kernel⟩
abbrev s_part : Stmt := top 36
abbrev sc_part_N : List Str := ["_law_draws", "_law_places", "_law_word"]
theorem sc_part : FnScope sc_part_N ["_law_draws", "_law_places"] (defScope s_part) := ⟨rfl, rfl, rfl, by decide +kernel, rfl, by decide +kernel, by decide +kernel⟩
def spPlain (K : PySem.W.Frag) : Sp := fun vs H Q _ => ∃ (l : Addr) (p : Int) (n : Nat) (L : List Addr), vs = [.ref l, .int p] ∧ Dr n H l ∧ n < 900000 ∧ l ∈ L ∧ Hid L H ∧ 1 ≤ p ∧ p ≤ 3 ∧
  ∀ v k H', ExB l H H' → Dr (n + 2) H' l → okK p k → depK k = 0 → Dp K (W L H') v (kdD k) → Q v H'
section
variable {K : PySem.W.Frag} {σ : L2.St} {H : Hp} {ta tb te : TE} {xs ys : List V}
theorem el_rep {b : Bool} (h1 : Evl.EvL ta σ H xs) (h2 : Evl.Ev tb σ H (.int (if b then 1 else 0))) (hz : xs.length ≤ 1000) : Evl.EvL (tOp rRep ta tb) σ H (if b then xs else []) := fun H1 e Q q => h1 H1 e _ fun p1 H2 hp e2 hx => h2 H2 (e.trans e2) _ fun H3 e3 => by
  refine ⟨p1, _, xs, rfl, rfl, e3 _ _ hx, ?_, ?_, ?_, fun r hr => ?_⟩
  · cases b <;> decide
  · cases b <;> decide
  · cases b
    · exact Evl.sz_of (by show xs.length * 0 ≤ 100000; omega)
    · exact Evl.sz_of (by show xs.length * 1 ≤ 100000; omega)
  · refine q r _ (Evl.fresh_back (e2.trans e3) hr) ((e2.trans e3).trans (Ex.new hr)) ?_
    rw [upd_same]
    cases b
    · rfl
    · show some (HO.lst ([xs].flatten)) = _
      simp
end
section
variable {P : Program} {w : World} {K : PySem.W.Frag} {mg : Str → Option Value} {base : Heap}
def wsX (xs ys : List Str) (b : Bool) : List Str := xs ++ if b then ys else []
theorem wsX_map {xs ys : List Str} {b : Bool} : (wsX xs ys b).map V.str = xs.map V.str ++ if b then ys.map V.str else [] := by
  cases b <;> simp [wsX]
theorem dpa_strs {H : Hp} : ∀ ws : List Str, DpAll K H (ws.map V.str) (ws.map PyData.str)
  | [] => .nil
  | z :: ws => .cons (.str z) (dpa_strs ws)
theorem words_run {σ : L2.St} {H : Hp} {te : TE} {l : Addr} {n : Nat} {L : List Addr} {ws : List Str} {Q : VK} (h0 : σ[0]? = some (some (.ref l))) (hd : Dr n H l) (hn : n < 1000000) (hl : l ∈ L) (hL : Hid L H) (z0 : 0 < ws.length) (z1 : ws.length < 100) (hw : Evl.EvL te σ H (ws.map V.str))
    (k : ∀ z H', z ∈ ws → ExB l H H' → Dr (n + 1) H' l → Q (.str z) H') : tCallD (spPick K) (tCons (tVar 0) (tCons te tNil)) σ H Q :=
  ⟨_, h0, hw H (Ex.refl H) _ fun t H1 hn1 e1 ht => ⟨l, t, ws.map .str, n, L, rfl, hd.ex e1, hn, hl, .lst (SqL.of (w_of (hid_not hL hn1) ht)) (dpa_strs ws), by rw [List.length_map]; exact z0, by rw [List.length_map]; omega, fun v d o hm hv hd' => by
    obtain ⟨z, hz, rfl⟩ := List.mem_map.mp hm
    cases hv
    exact k z _ hz ((ExB.of e1).trans ExB.upd) hd'⟩⟩
theorem kind_ret {H : Hp} {l : Addr} {p : Int} {n : Nat} {L : List Addr} {z : Str} {Q : VK} {qn : L2.St → Hp → Prop} (hd : Dr n H l) (hn : n < 1000000) (hl : l ∈ L) (hL : Hid L H) (p1 : 1 ≤ p) (p3 : p ≤ 3) (hz : z = "halves" ∨ z = "boxes" ∨ z = "rising" ∨ z = "flats" ∨ z = "turns" ∧ p = 1)
    (k : ∀ v k H', ExB l H H' → Dr (n + 1) H' l → okK p k → depK k = 0 → Dp K (W L H') v (kdD k) → Q v H') :
    tRet (tIf (tTest (tOp rNe (tVar 2) (tC (V.str "turns")))) (tTup (tCons (tVar 2) (tCons (tVar 1) tNil))) (tTup (tCons (tVar 2) (tCons (tCallD spDraw (tCons (tVar 0) (tCons (tC (V.int 4)) tNil))) tNil))))
      { nx := qn, rt := Q } [some (.ref l), some (.int p), some (.str z)] H := by
  have two : ∀ (kd : Kd) (i : Int) (H2 : Hp), ExB l H H2 → Dr (n + 1) H2 l → okK p kd → depK kd = 0 → kdD kd = .tuple [.str z, .int i] → [V.str z, V.int i].length ≤ sizeLine ∧ ∀ r, H2 r = none → Q (.ref r) (upd H2 r (.tup [.str z, .int i])) := fun kd i H2 e2 hd2 ok dk e => by
    refine ⟨by show 2 ≤ sizeLine; decide, fun r hr => ?_⟩
    have hLr : r ∉ L := fun m => (e2.hid hd2.ne hL) r m hr
    refine k _ kd _ (e2.trans (ExB.of (Ex.new hr))) (hd2.ex (Ex.new hr)) ok dk ?_
    rw [e]
    exact .tup (SqT.of (w_of hLr upd_same)) (.cons (.str z) (.cons (.int i) .nil))
  refine ⟨_, rfl, rfl, _, rfl, ?_⟩
  rcases hz with h | h | h | h | ⟨h, hp⟩
  · subst h
    exact ⟨_, rfl, _, rfl, two (.halves p) p H (ExB.refl l H) (hd.up (by omega)) rfl rfl rfl⟩
  · subst h
    exact ⟨_, rfl, _, rfl, two (.boxes p) p H (ExB.refl l H) (hd.up (by omega)) rfl rfl rfl⟩
  · subst h
    exact ⟨_, rfl, _, rfl, two (.rising p) p H (ExB.refl l H) (hd.up (by omega)) rfl rfl rfl⟩
  · subst h
    exact ⟨_, rfl, _, rfl, two (.flats p) p H (ExB.refl l H) (hd.up (by omega)) rfl rfl rfl⟩
  · subst h
    refine ⟨_, rfl, ?_⟩
    refine draw_run (n := n) (many := 4) (by rfl) hd (by omega) Evl.ev_c (by decide) (by decide) fun r H3 r0 r1 hd3 e3 => ?_
    exact two (.turns r) r H3 e3 hd3 ⟨hp, r0, by omega⟩ rfl rfl
theorem ok_plain {f : Addr} {fd : FuncData} (F : Fun K "_law_plain" "_law_plain" s_plain f fd) (T : TxR mg) (D_draw : DefAt P w K mg base "_law_draw" 1 ["_law_draws", "_law_many"] spDraw) (D_pick : DefAt P w K mg base "_law_pick" 2 ["_law_draws", "_law_things"] (spPick K)) : FnOk P w K mg base CX0 3 f fd ["_law_draws", "_law_places"] (spPlain K) := by
  refine F.ok sc_plain (fun vs H Q E h => ?_) (fun cdv A outer s H vs Q E hr h => ?_)
  · obtain ⟨_, _, _, _, rfl, _⟩ := h
    rfl
  · obtain ⟨l, p, n, L, rfl, hd, hn, hl, hL, p1, p3, k⟩ := h
    refine ⟨_, (pss_cons (ps_set (i := 2) sc_plain.nd rfl (by first | exact Or.inl rfl | exact Or.inr rfl) (pe_callD D_pick (by first | exact hr | exact hr.mono (by decide) | exact hr.mono (by omega)) (by rfl) (pa_cons (pv 0) (pa_cons (pe_op op_cat (pe_lst (pa_cons pe_str (pa_cons pe_str (pa_cons pe_str (pa_cons pe_str pa_nil))))) (pe_op op_rep (pe_lst (pa_cons pe_str (pa_cons pe_str pa_nil))) (pe_callTy call_int1 (by rfl) T.m_int (by decide +kernel) (pa_cons (pe_cmpR op_eq (pv 1) pe_int (nomark _)) pa_nil)))) pa_nil))))
    (pss_one (ps_ret (pe_ifExp (pt_cmpR op_ne (pv 2) pe_str (nomark _)) (pe_tup (pa_cons (pv 2) (pa_cons (pv 1) pa_nil))) (pe_tup (pa_cons (pv 2) (pa_cons (pe_callD D_draw (by first | exact hr | exact hr.mono (by decide) | exact hr.mono (by omega)) (by rfl) (pa_cons (pv 0) (pa_cons pe_int pa_nil))) pa_nil))))))), ?_⟩
    have v1 : Evl.Ev (tVar 1) (L2.start sc_plain_N [V.ref l, V.int p]) H (.int p) := Evl.ev_var rfl
    have base : Evl.EvL _ (L2.start sc_plain_N [V.ref l, V.int p]) H _ := el_cat (Evl.el_lst (Evl.ea_cons (Evl.ev_c (v := .str "halves")) (Evl.ea_cons (Evl.ev_c (v := .str "boxes")) (Evl.ea_cons (Evl.ev_c (v := .str "rising")) (Evl.ea_cons (Evl.ev_c (v := .str "flats")) Evl.ea_nil)))) (by decide))
      (el_rep (b := decide (V.int p = V.int 1)) (Evl.el_lst (Evl.ea_cons (Evl.ev_c (v := .str "turns")) (Evl.ea_cons (Evl.ev_c (v := .str "turns")) Evl.ea_nil)) (by decide)) (ev_int1 (Evl.ev_op v1 (Evl.ev_c (v := .int 1)) (Evl.rv_eq rfl))) (by decide)) (by split <;> decide)
    refine words_run (L := L) (n := n) (ws := wsX ["halves", "boxes", "rising", "flats"] ["turns", "turns"] (decide (V.int p = V.int 1))) (by rfl) hd (by omega) hl hL (by generalize decide (V.int p = V.int 1) = b; cases b <;> decide) (by generalize decide (V.int p = V.int 1) = b; cases b <;> decide) (by rw [wsX_map]; exact base) fun z H1 hz e1 hd1 => ?_
    refine kind_ret (L := L) (n := n + 1) hd1 (by omega) hl (e1.hid hd1.ne hL) p1 p3 ?_ (fun v kd H2 e2 hd2 => k v kd H2 (e1.trans e2) hd2)
    by_cases hp : p = 1
    · subst hp
      have hz' : z ∈ (["halves", "boxes", "rising", "flats", "turns", "turns"] : List Str) := hz
      simp only [List.mem_cons, List.not_mem_nil, or_false] at hz'
      rcases hz' with h | h | h | h | h | h
      · exact .inl h
      · exact .inr (.inl h)
      · exact .inr (.inr (.inl h))
      · exact .inr (.inr (.inr (.inl h)))
      · exact .inr (.inr (.inr (.inr ⟨h, rfl⟩)))
      · exact .inr (.inr (.inr (.inr ⟨h, rfl⟩)))
    · rw [decide_eq_false (fun e => hp (by injection e))] at hz
      have hz' : z ∈ (["halves", "boxes", "rising", "flats"] : List Str) := hz
      simp only [List.mem_cons, List.not_mem_nil, or_false] at hz'
      rcases hz' with h | h | h | h
      · exact .inl h
      · exact .inr (.inl h)
      · exact .inr (.inr (.inl h))
      · exact .inr (.inr (.inr (.inl h)))
theorem ok_part {f : Addr} {fd : FuncData} (F : Fun K "_law_part" "_law_part" s_part f fd) (T : TxR mg) (D_draw : DefAt P w K mg base "_law_draw" 1 ["_law_draws", "_law_many"] spDraw) (D_pick : DefAt P w K mg base "_law_pick" 2 ["_law_draws", "_law_things"] (spPick K)) : FnOk P w K mg base CX0 3 f fd ["_law_draws", "_law_places"] (spPlain K) := by
  refine F.ok sc_part (fun vs H Q E h => ?_) (fun cdv A outer s H vs Q E hr h => ?_)
  · obtain ⟨_, _, _, _, rfl, _⟩ := h
    rfl
  · obtain ⟨l, p, n, L, rfl, hd, hn, hl, hL, p1, p3, k⟩ := h
    refine ⟨_, (pss_cons (ps_set (i := 2) sc_part.nd rfl (by first | exact Or.inl rfl | exact Or.inr rfl) (pe_callD D_pick (by first | exact hr | exact hr.mono (by decide) | exact hr.mono (by omega)) (by rfl) (pa_cons (pv 0) (pa_cons (pe_op op_cat (pe_lst (pa_cons pe_str (pa_cons pe_str (pa_cons pe_str (pa_cons pe_str pa_nil))))) (pe_op op_rep (pe_lst (pa_cons pe_str (pa_cons pe_str (pa_cons pe_str pa_nil)))) (pe_callTy call_int1 (by rfl) T.m_int (by decide +kernel) (pa_cons (pe_cmpR op_eq (pv 1) pe_int (nomark _)) pa_nil)))) pa_nil))))
    (pss_one (ps_ret (pe_ifExp (pt_cmpR op_ne (pv 2) pe_str (nomark _)) (pe_tup (pa_cons (pv 2) (pa_cons (pv 1) pa_nil))) (pe_tup (pa_cons (pv 2) (pa_cons (pe_callD D_draw (by first | exact hr | exact hr.mono (by decide) | exact hr.mono (by omega)) (by rfl) (pa_cons (pv 0) (pa_cons pe_int pa_nil))) pa_nil))))))), ?_⟩
    have v1 : Evl.Ev (tVar 1) (L2.start sc_part_N [V.ref l, V.int p]) H (.int p) := Evl.ev_var rfl
    have base : Evl.EvL _ (L2.start sc_part_N [V.ref l, V.int p]) H _ := el_cat (Evl.el_lst (Evl.ea_cons (Evl.ev_c (v := .str "boxes")) (Evl.ea_cons (Evl.ev_c (v := .str "rising")) (Evl.ea_cons (Evl.ev_c (v := .str "flats")) (Evl.ea_cons (Evl.ev_c (v := .str "boxes")) Evl.ea_nil)))) (by decide))
      (el_rep (b := decide (V.int p = V.int 1)) (Evl.el_lst (Evl.ea_cons (Evl.ev_c (v := .str "halves")) (Evl.ea_cons (Evl.ev_c (v := .str "turns")) (Evl.ea_cons (Evl.ev_c (v := .str "turns")) Evl.ea_nil))) (by decide)) (ev_int1 (Evl.ev_op v1 (Evl.ev_c (v := .int 1)) (Evl.rv_eq rfl))) (by decide)) (by split <;> decide)
    refine words_run (L := L) (n := n) (ws := wsX ["boxes", "rising", "flats", "boxes"] ["halves", "turns", "turns"] (decide (V.int p = V.int 1))) (by rfl) hd (by omega) hl hL (by generalize decide (V.int p = V.int 1) = b; cases b <;> decide) (by generalize decide (V.int p = V.int 1) = b; cases b <;> decide) (by rw [wsX_map]; exact base) fun z H1 hz e1 hd1 => ?_
    refine kind_ret (L := L) (n := n + 1) hd1 (by omega) hl (e1.hid hd1.ne hL) p1 p3 ?_ (fun v kd H2 e2 hd2 => k v kd H2 (e1.trans e2) hd2)
    have R : z = "boxes" → z = "halves" ∨ z = "boxes" ∨ z = "rising" ∨ z = "flats" ∨ z = "turns" ∧ p = 1 := fun h => .inr (.inl h)
    by_cases hp : p = 1
    · subst hp
      have hz' : z ∈ (["boxes", "rising", "flats", "boxes", "halves", "turns", "turns"] : List Str) := hz
      simp only [List.mem_cons, List.not_mem_nil, or_false] at hz'
      rcases hz' with h | h | h | h | h | h | h
      · exact R h
      · exact .inr (.inr (.inl h))
      · exact .inr (.inr (.inr (.inl h)))
      · exact R h
      · exact .inl h
      · exact .inr (.inr (.inr (.inr ⟨h, rfl⟩)))
      · exact .inr (.inr (.inr (.inr ⟨h, rfl⟩)))
    · rw [decide_eq_false (fun e => hp (by injection e))] at hz
      have hz' : z ∈ (["boxes", "rising", "flats", "boxes"] : List Str) := hz
      simp only [List.mem_cons, List.not_mem_nil, or_false] at hz'
      rcases hz' with h | h | h | h
      · exact R h
      · exact .inr (.inr (.inl h))
      · exact .inr (.inr (.inr (.inl h)))
      · exact R h
end
end U

set_option Elab.async false
set_option linter.all false
set_option maxRecDepth 100000
set_option maxHeartbeats 4000000
/-! t[::-1] of a pair. -/
namespace HT
open PySem PySem.Spec PyProof.Rows L2 PySem.W PySem.Calls
section
variable {prog : Program} {w : World} {A : Around} {E : Value → Shared → Prop} {s : Shared}
theorem sliceApplied_rev2 {sl : Addr} {vl vu vs : Value} {Q : Int × Int × Nat → Shared → Prop} (hs : s.heap.IsSliceOf sl vl vu vs) (pl : IsPart vl none) (pu : IsPart vu none) (ps : IsPart vs (some (-1)))
    (h : Q ((1 : Int), -1, 2) s) : wpAny (model prog w) A (Builtin.Slice.sliceApplied (.ref sl) (pure (2 : Int))) Q E s := by
  obtain ⟨os, hos, hcs, hds⟩ := id hs
  unfold Builtin.Slice.sliceApplied Builtin.Slice.sliceFields
  refine wpAny_bind (wpAny_bind (wpAny_field hos hds (x := vl) rfl (wpAny_bind (wpAny_field hos hds (x := vu) rfl (wpAny_bind (wpAny_field hos hds (x := vs) rfl (wpAny_pure ?_)))))))
  refine wpAny_bind (slicePart_ ps ?_)
  show wpAny _ _ (if ((-1 : Int) == 0) = true then _ else _) _ _ s
  rw [if_neg (by decide)]
  refine wpAny_bind (slicePart_ pl (wpAny_bind (slicePart_ pu (wpAny_bind (wpAny_pure ?_)))))
  exact wpAny_pure h
theorem getItem_tuple_rev2 {t sl : Addr} {a b : Value} {vl vu vs : Value} {Q : Value → Shared → Prop} (ht : IsTup s.heap t #[a, b]) (hs : s.heap.IsSliceOf sl vl vu vs) (pl : IsPart vl none) (pu : IsPart vu none) (ps : IsPart vs (some (-1)))
    (h : Q (.ref s.heap.objs.size) { s with heap := s.heap.push { cls := .type "tuple", data := .seq #[b, a] } }) : wpAny (model prog w) A (getItem (.ref t) (.ref sl)) Q E s := by
  obtain ⟨os, hos, hcs, hds⟩ := id hs
  have hTs : s.TypeIs (.ref sl) "slice" := ⟨os, hos, hcs⟩
  unfold getItem
  try with_reducible refine wpAny_holding ?_
  first | refine wpAny_bind (wpAny_pure ?_) | skip
  refine wpAny_bind (wpAny_sequenceKey ht.typeIs (by decide) ?_)
  refine wpAny_bind (wpAny_callSpecial?_slot (name := Str.ofString "__getitem__") ht.typeIs PyProof.Rows.slot_tuple_getitem
    (wpAny_call_entry PyProof.Rows.slot_tuple_getitem ht.typeIs entry_tuple_getitem ?_ (args_tuple_getitem _ _)))
  show wpAny _ _ (Builtin.Tuple.tupleItemsOf (.ref t) >>= _) _ _ s
  refine wpAny_bind (tupleItemsOf_ ht ?_)
  refine wpAny_bind (wpAny_typeOf hTs ?_)
  rw [if_pos (by decide)]
  refine wpAny_bind (sliceApplied_rev2 hs pl pu ps ?_)
  show wpAny _ _ (if ((1 : Int) == 0 && (-1 : Int) == 1 && (2 == 2)) = true then _ else _) _ _ s
  rw [if_neg (by decide)]
  have hz : sizeOk (.seq #[b, a]) := by show 2 ≤ sizeLine; decide
  first
    | exact wpAny_bind (m := Builtin.Tuple.tupleExact _) (wpAny_newObj_type (wpAny_pure ⟨_, rfl, wpAny_pure h⟩) hz)
    | exact wpAny_bind (m := Builtin.Tuple.tupleExact _) (wpAny_newObj_type (wpAny_bind (wpAny_pure (wpAny_pure ⟨_, rfl, wpAny_pure h⟩))) hz)
    | exact wpAny_bind (wpAny_bind (m := Builtin.Tuple.tupleExact _) (wpAny_newObj_type (wpAny_pure (wpAny_pure ⟨_, rfl, wpAny_pure h⟩)) hz))
end
end HT
namespace L2
open PySem PySem.Spec PyProof.Rows
/-- t[::-1], t a pair -/
def tRevT (K : PySem.W.Frag) (te : TE) : TE := fun σ H Q => te σ H fun x H1 => ∃ a u v, x = .ref a ∧ SqT K H1 a [u, v] ∧ ∀ p, H1 p = none → Q (.ref p) (upd H1 p (.tup [v, u]))
section
variable {X : Cx}
theorem pe_revT {e : Expr} {te : TE} {k : Nat} {p1 p2 p3 pos : Pos} (he : PE X e te) : PE X (.Subscript e (.Slice none none (some (.UnaryOp .USub (.Constant (.int 1) k p1) p2)) p3) pos) (tRevT X.K te) := by
  refine ⟨fun pins s σ H Q I h => ?_⟩
  refine Subscript_ (thn (he.run pins s σ H _ I h) fun v s1 ⟨x, H1, I1, r1, q1⟩ => ?_)
  obtain ⟨a, u1, u2, ex, hx, q⟩ := q1
  subst ex
  cases r1
  have hst : PO X (some (.UnaryOp .USub (.Constant (.int 1) k p1) p2)) (tPart (tUn (rU fun i => .int (-i)) (tC (.int 1)))) := po_some (pe_un un_neg pe_int)
  refine wpAny_Slice (thn (po_none.run pins s1 σ H1 (fun o H2 => o = none ∧ H2 = H1) I1 ⟨rfl, rfl⟩) fun vl s2 ⟨l, H2, I2, pl, el, e2⟩ => ?_)
  subst el e2
  refine thn (po_none.run pins s2 σ H2 (fun o H3 => o = none ∧ H3 = H2) I2 ⟨rfl, rfl⟩) fun vu s3 ⟨u, H3, I3, pu, eu, e3⟩ => ?_
  subst eu e3
  refine thn (hst.run pins s3 σ H3 (fun o H4 => o = some (-1) ∧ H4 = H3) I3 ⟨1, rfl, -1, rfl, rfl, rfl⟩) fun vs s4 ⟨o, H4, I4, ps, eo, e4⟩ => ?_
  subst eo e4
  have I5 : Inv X pins σ H4 { s4 with heap := s4.heap.push { cls := .type "slice", data := .fields #[vl, vu, vs] } } := I4.kept (t' := s4.toks) fun b ob q => Heap.get?_push_of_some _ q
  obtain ⟨its, r, ht, hz⟩ := I5.tuple hx
  obtain ⟨w1, w2, rfl, r1, r2⟩ : ∃ w1 w2, its = [w1, w2] ∧ RelV u1 w1 ∧ RelV u2 w2 := by
    cases r with
    | cons h1 r =>
      cases r with
      | cons h2 r =>
        cases r
        exact ⟨_, _, rfl, h1, h2⟩
  show wpAny (model X.prog X.w) X.A (subscriptTail e (.Slice none none (some (.UnaryOp .USub (.Constant (.int 1) k p1) p2)) p3) (.ref a) (.ref s4.heap.objs.size)) (EP X pins σ Q) X.xe { s4 with heap := s4.heap.push { cls := .type "slice", data := .fields #[vl, vu, vs] } }
  refine tail_any (ops := [.ref a, .ref s4.heap.objs.size]) ht.typeIs PyProof.Rows.slot_tuple_getitem.lookup ?_ (by with_unfolding_all rfl)
  refine HT.getItem_tuple_rev2 ht (Heap.IsSliceOf.new _ vl vu vs) pl pu ps ?_
  refine ⟨.ref _, _, I5.laid (t' := s4.toks) (o := .tup [u2, u1]) (fun b ob q => Heap.get?_push_of_some _ q) (Nat.le_refl _) ?_, rfl, q _ (I5.hok.fresh (Nat.le_refl _))⟩
  exact ⟨by show 2 ≤ sizeLine; decide, _, .cons r2 (.cons r1 .nil), IsTup.new _ _⟩
end
end L2

set_option Elab.async false
set_option linter.all false
set_option maxRecDepth 100000
set_option maxHeartbeats 4000000
namespace U
open PySem PySem.Spec PyProof.Rows L2
open Evl (Ex)
abbrev s_pair : Stmt := top 38
abbrev sc_pair_N : List Str := ["_law_draws", "_law_places", "_law_deep", "_law_pair_here"]
theorem sc_pair : FnScope sc_pair_N ["_law_draws", "_law_places", "_law_deep"] (defScope s_pair) := ⟨rfl, rfl, rfl, by decide +kernel, rfl, by decide +kernel, by decide +kernel⟩
abbrev s_joint : Stmt := top 37
abbrev sc_joint_N : List Str := ["_law_draws", "_law_places", "_law_deep", "_law_word"]
theorem sc_joint : FnScope sc_joint_N ["_law_draws", "_law_places", "_law_deep"] (defScope s_joint) := ⟨rfl, rfl, rfl, by decide +kernel, rfl, by decide +kernel, by decide +kernel⟩
abbrev s_spec : Stmt := top 35
abbrev sc_spec_N : List Str := ["_law_draws", "_law_places", "_law_deep", "_law_word"]
theorem sc_spec : FnScope sc_spec_N ["_law_draws", "_law_places", "_law_deep"] (defScope s_spec) := ⟨rfl, rfl, rfl, by decide +kernel, rfl, by decide +kernel, by decide +kernel⟩
/-- a kind, put together of up to d + 1 -/
def spJoint (K : PySem.W.Frag) (d : Nat) : Sp := fun vs H Q _ => ∃ (l : Addr) (p : Int) (n : Nat) (L : List Addr), vs = [.ref l, .int p, .int d] ∧ Dr n H l ∧ n + 20 * (d + 1) < 800000 ∧ l ∈ L ∧ Hid L H ∧ 1 ≤ p ∧ p ≤ 3 ∧
  ∀ v k H', ExB l H H' → Dr (n + 10 * (d + 1)) H' l → okK p k → depK k ≤ d → Dp K (W L H') v (kdD k) → Q v H'
def spJointP (K : PySem.W.Frag) : Nat → Sp
  | 0 => fun _ _ _ _ => False
  | d + 1 => spJoint K d
def spPair (K : PySem.W.Frag) : Nat → Sp
  | 0 => fun _ _ _ _ => False
  | d + 1 => fun vs H Q _ => ∃ (l : Addr) (p : Int) (n : Nat) (L : List Addr), vs = [.ref l, .int p, .int ((d + 1 : Nat) : Int)] ∧ Dr n H l ∧ n + 20 * (d + 1) + 10 < 800000 ∧ l ∈ L ∧ Hid L H ∧ 1 ≤ p ∧ p ≤ 3 ∧
  ∀ v k m H', ExB l H H' → Dr (n + 10 * (d + 1) + 5) H' l → okK p k → okK p m → depK k ≤ d → depK m ≤ d → Dp K (W L H') v (.tuple [kdD k, kdD m]) → Q v H'
section
variable {P : Program} {w : World} {K : PySem.W.Frag} {mg : Str → Option Value} {base : Heap}
theorem pair_body {f : Addr} {fd : FuncData} (F : Fun K "_law_pair" "_law_pair" s_pair f fd) (T : TxR mg) (d : Nat) (D_draw : DefAt P w K mg base "_law_draw" 1 ["_law_draws", "_law_many"] spDraw) (D_part : DefAt P w K mg base "_law_part" 3 ["_law_draws", "_law_places"] (spPlain K))
    (D_joint : DefAt P w K mg base "_law_joint" (2 * d + 4) ["_law_draws", "_law_places", "_law_deep"] (spJoint K d)) : FnOk P w K mg base CX0 (2 * d + 5) f fd ["_law_draws", "_law_places", "_law_deep"] (spPair K (d + 1)) := by
  refine F.ok sc_pair (fun vs H Q E h => ?_) (fun cdv A outer s H vs Q E hr h => ?_)
  · obtain ⟨_, _, _, _, rfl, _⟩ := h
    rfl
  · obtain ⟨l, p, n, L, rfl, hd, hn, hl, hL, p1, p3, k⟩ := h
    refine ⟨_, (pss_cons (ps_set (i := 3) sc_pair.nd rfl (by first | exact Or.inl rfl | exact Or.inr rfl) (pe_tup (pa_cons (pe_callD D_part (by first | exact hr | exact hr.mono (by decide) | exact hr.mono (by omega)) (by rfl) (pa_cons (pv 0) (pa_cons (pv 1) pa_nil))) (pa_cons (pe_callD D_joint (by first | exact hr | exact hr.mono (by decide) | exact hr.mono (by omega)) (by rfl) (pa_cons (pv 0) (pa_cons (pv 1) (pa_cons (pe_op op_sub (pv 2) pe_int) pa_nil)))) pa_nil))))
    (pss_one (ps_ret (pe_ix ix_list (pe_lst (pa_cons (pv 3) (pa_cons (pe_revT (pv 3)) pa_nil))) (pe_callD D_draw (by first | exact hr | exact hr.mono (by decide) | exact hr.mono (by omega)) (by rfl) (pa_cons (pv 0) (pa_cons pe_int pa_nil))) (fun _ _ => rfl))))), ?_⟩
    have ed : ((d + 1 : Nat) : Int) - 1 = (d : Int) := by omega
    refine ⟨_, rfl, _, rfl, l, p, n, L, rfl, hd, by omega, hl, hL, p1, p3, fun v1 k1 H1 e1 hd1 ok1 dk1 hv1 => ?_⟩
    refine ⟨_, rfl, _, rfl, _, rfl, _, _, rfl, rfl, l, p, n + 2, L, (by show [V.ref l, V.int p, V.int (((d + 1 : Nat) : Int) - 1)] = _; rw [ed]), hd1, by omega, hl, e1.hid hd1.ne hL, p1, p3, fun v2 k2 H2 e2 hd2 ok2 dk2 hv2 => ?_⟩
    have e12 := e1.trans e2
    have hL2 := e12.hid hd2.ne hL
    replace hv1 := hv1.up (e2.w hl)
    refine ⟨by show 2 ≤ sizeLine; decide, fun r hr => ?_⟩
    have rl : r ≠ l := ne_of_none' hr hd2.ne
    have hrL : r ∉ L := hid_not hL2 hr
    refine ⟨_, rfl, _, rfl, r, v1, v2, rfl, SqT.of upd_same, fun r2 hr2 => ⟨by show 2 ≤ sizeLine; decide, fun t ht => ?_⟩⟩
    have eA : Ex H2 (upd H2 r (.tup [v1, v2])) := Ex.new hr
    have hA : (upd H2 r (.tup [v1, v2])) r = some (.tup [v1, v2]) := upd_same
    generalize upd H2 r (.tup [v1, v2]) = Ha at eA hA hr2 ht ⊢
    have eB : Ex Ha (upd Ha r2 (.tup [v2, v1])) := Ex.new hr2
    have hB : (upd Ha r2 (.tup [v2, v1])) r2 = some (.tup [v2, v1]) := upd_same
    have r2l : r2 ≠ l := ne_of_none' hr2 (hd2.ex eA).ne
    have r2L : r2 ∉ L := hid_not ((e12.trans (ExB.of eA)).hid (hd2.ex eA).ne hL) hr2
    generalize upd Ha r2 (.tup [v2, v1]) = Hb at eB hB ht ⊢
    have eC : Ex Hb (upd Hb t (.lst [.ref r, .ref r2])) := Ex.new ht
    have hC : (upd Hb t (.lst [.ref r, .ref r2])) t = some (.lst [.ref r, .ref r2]) := upd_same
    have tl : t ≠ l := ne_of_none' ht ((hd2.ex eA).ex eB).ne
    generalize upd Hb t (.lst [.ref r, .ref r2]) = Hc at eC hC ⊢
    have eac := (eA.trans eB).trans eC
    refine draw_run (n := n + 2 + 10 * (d + 1)) (l := l) (many := 2) (by rfl) (hd2.ex eac) (by omega) Evl.ev_c (by decide) (by decide) fun i H3 r0 r1 hd3 e3 => ?_
    have e23 := (ExB.of eac).trans e3
    have e03 := e12.trans e23
    replace hv1 := hv1.up (e23.w hl)
    replace hv2 := hv2.up (e23.w hl)
    have h3r : SqT K (W L H3) r [v1, v2] := SqT.of (w_of hrL (e3 r _ rl (eC _ _ (eB _ _ hA))))
    have h3r2 : SqT K (W L H3) r2 [v2, v1] := SqT.of (w_of r2L (e3 r2 _ r2l (eC _ _ hB)))
    have hdk : depK k1 ≤ d := by omega
    rcases (by omega : i = 0 ∨ i = 1) with rfl | rfl
    · refine ⟨t, _, 0, .ref r, rfl, rfl, SqL.of (e3 t _ tl hC), rfl, ?_⟩
      exact k _ k1 k2 H3 e03 (hd3.up (by omega)) ok1 ok2 hdk dk2 (.tup h3r (.cons hv1 (.cons hv2 .nil)))
    · refine ⟨t, _, 1, .ref r2, rfl, rfl, SqL.of (e3 t _ tl hC), rfl, ?_⟩
      exact k _ k2 k1 H3 e03 (hd3.up (by omega)) ok2 ok1 dk2 hdk (.tup h3r2 (.cons hv2 (.cons hv1 .nil)))
def tJ (K : PySem.W.Frag) (d : Nat) : TS :=
  tSeq
    (tIfS (tOr (tTest (tOp rEq (tVar 2) (tC (V.int 0)))) (tTest (tOp rEq (tCallD spDraw (tCons (tVar 0) (tCons (tC (V.int 2)) tNil))) (tC (V.int 0)))))
      (tRet (tCallD (spPlain K) (tCons (tVar 0) (tCons (tVar 1) tNil)))) tNext)
    (tSeq (tAsg (tCallD (spPick K) (tCons (tVar 0) (tCons (tLst (tCons (tC (V.str "not")) (tCons (tC (V.str "both")) (tCons (tC (V.str "either")) (tCons (tC (V.str "any")) tNil))))) tNil))) (gName 3))
      (tSeq
        (tIfS (tTest (tOp rEq (tVar 3) (tC (V.str "not"))))
          (tRet (tTup (tCons (tVar 3) (tCons (tCallD (spJointP K d) (tCons (tVar 0) (tCons (tVar 1) (tCons (tOp (rI0 fun i j => V.int (i - j)) (tVar 2) (tC (V.int 1))) tNil)))) tNil)))) tNext)
        (tRet (tOp (rCatT K) (tTup (tCons (tVar 3) tNil)) (tCallD (spPair K d) (tCons (tVar 0) (tCons (tVar 1) (tCons (tVar 2) tNil))))))))
theorem joint_run {H : Hp} {l : Addr} {p : Int} {n d : Nat} {L : List Addr} {Q : VK} {qn : L2.St → Hp → Prop} (hd : Dr n H l) (hn : n + 20 * (d + 1) < 800000) (hl : l ∈ L) (hL : Hid L H) (p1 : 1 ≤ p) (p3 : p ≤ 3)
    (k : ∀ v k H', ExB l H H' → Dr (n + 10 * (d + 1)) H' l → okK p k → depK k ≤ d → Dp K (W L H') v (kdD k) → Q v H') :
    tJ K d { nx := qn, rt := Q } [some (.ref l), some (.int p), some (.int d), none] H := by
  have plain : ∀ (m : Nat) (H1 : Hp), ExB l H H1 → Dr m H1 l → m ≤ n + 1 → tRet (tCallD (spPlain K) (tCons (tVar 0) (tCons (tVar 1) tNil))) { nx := qn, rt := Q } [some (.ref l), some (.int p), some (.int d), none] H1 := fun m H1 e1 hd1 hm =>
    ⟨_, rfl, _, rfl, l, p, m, L, rfl, hd1, by omega, hl, e1.hid hd1.ne hL, p1, p3, fun v kd H2 e2 hd2 ok dk hv => k v kd H2 (e1.trans e2) (hd2.up (by omega)) ok (by omega) hv⟩
  refine ⟨_, rfl, rfl, _, rfl, ?_⟩
  refine ite2 (fun hc => ?_) (fun hc => ?_)
  · exact plain n H (ExB.refl l H) hd (by omega)
  obtain ⟨d, rfl⟩ : ∃ d', d = d' + 1 := by
    cases d with
    | zero => exact absurd (show decide (V.int ((0 : Nat) : Int) = V.int 0) = true from rfl) hc
    | succ d => exact ⟨d, rfl⟩
  have ed : ((d + 1 : Nat) : Int) - 1 = (d : Int) := by omega
  refine draw_run (n := n) (many := 2) (by rfl) hd (by omega) Evl.ev_c (by decide) (by decide) fun r H1 r0 r1 hd1 e1 => ?_
  refine ⟨rfl, _, rfl, ?_⟩
  refine ite2 (fun hc => ?_) (fun hc => ?_)
  · exact plain (n + 1) H1 e1 hd1 (by omega)
  have words : Evl.EvL (tLst (tCons (tC (V.str "not")) (tCons (tC (V.str "both")) (tCons (tC (V.str "either")) (tCons (tC (V.str "any")) tNil))))) [some (.ref l), some (.int p), some (.int ((d + 1 : Nat) : Int)), none] H1 ((["not", "both", "either", "any"] : List Str).map V.str) :=
    Evl.el_lst (Evl.ea_cons Evl.ev_c (Evl.ea_cons Evl.ev_c (Evl.ea_cons Evl.ev_c (Evl.ea_cons Evl.ev_c Evl.ea_nil)))) (by decide)
  refine words_run (L := L) (n := n + 1) (by rfl) hd1 (by omega) hl (e1.hid hd1.ne hL) (by decide) (by decide) words fun z H2 hz e2 hd2 => ?_
  have e02 := e1.trans e2
  have hL2 := e02.hid hd2.ne hL
  by_cases hnot : z = "not"
  · subst hnot
    refine ⟨_, rfl, rfl, _, rfl, ?_⟩
    refine ⟨_, rfl, _, rfl, _, rfl, _, rfl, _, _, rfl, rfl, l, p, n + 2, L, (by show [V.ref l, V.int p, V.int (((d + 1 : Nat) : Int) - 1)] = _; rw [ed]), hd2, by omega, hl, hL2, p1, p3, fun v kd H3 e3 hd3 ok dk hv => ?_⟩
    refine ⟨by show 2 ≤ sizeLine; decide, fun r hr => ?_⟩
    have e03 := e02.trans e3
    have rL : r ∉ L := hid_not (e03.hid hd3.ne hL) hr
    have e4 : ExB l H3 (upd H3 r (.tup [V.str "not", v])) := ExB.of (Ex.new hr)
    exact k _ (.no kd) _ (e03.trans e4) ((hd3.ex (Ex.new hr)).up (by omega)) ok (by show depK kd + 1 ≤ d + 1; omega) (.tup (SqT.of (w_of rL upd_same)) (.cons (.str _) (.cons (hv.up (e4.w hl)) .nil)))
  · refine ⟨_, rfl, rfl, _, rfl, ?_⟩
    refine ite2 (fun hc => absurd ?_ hnot) (fun hc => ?_)
    · have := of_decide_eq_true hc
      injection this
    refine ⟨_, rfl, by show 1 ≤ sizeLine; decide, fun r hr => ?_⟩
    have e3 : Ex H2 (upd H2 r (.tup [V.str z])) := Ex.new hr
    have hr3 : (upd H2 r (.tup [V.str z])) r = some (.tup [V.str z]) := upd_same
    have rl : r ≠ l := ne_of_none' hr hd2.ne
    generalize upd H2 r (.tup [V.str z]) = Ha at e3 hr3 ⊢
    have hdA := hd2.ex e3
    have e0A := e02.trans (ExB.of e3)
    refine ⟨_, rfl, _, rfl, _, rfl, l, p, n + 2, L, rfl, hdA, by omega, hl, e0A.hid hdA.ne hL, p1, p3, fun v k1 k2 H3 e4 hd4 ok1 ok2 dk1 dk2 hv => ?_⟩
    cases hv with
    | @tup q xs _ hs ha =>
      have hlen := dpa_len ha
      refine ⟨r, q, [.str z], xs, rfl, rfl, SqT.of (e4 r _ rl hr3), Evl.ex_t w_sub hs, by simp, ?_, fun e => ?_, fun _ t ht => ?_⟩
      · show 1 + xs.length ≤ sizeLine
        rw [hlen]
        show 3 ≤ sizeLine
        decide
      · rw [e] at hlen
        cases hlen
      · have e04 := e0A.trans e4
        have tL : t ∉ L := hid_not (e04.hid hd4.ne hL) ht
        have e5 : ExB l H3 (upd H3 t (.tup ([V.str z] ++ xs))) := ExB.of (Ex.new ht)
        have fin : ∀ kd : Kd, kdD kd = .tuple [.str z, kdD k1, kdD k2] → okK p kd → depK kd ≤ d + 1 → Q (.ref t) (upd H3 t (.tup ([V.str z] ++ xs))) := fun kd e ok dk => by
          refine k _ kd _ (e04.trans e5) ((hd4.ex (Ex.new ht)).up (by omega)) ok dk ?_
          rw [e]
          exact .tup (SqT.of (w_of tL upd_same)) (.cons (.str z) (ha.up (e5.w hl)))
        simp only [List.mem_cons, List.not_mem_nil, or_false] at hz
        rcases hz with h | h | h | h
        · exact absurd h hnot
        · subst h
          exact fin (.both k1 k2) rfl ⟨ok1, ok2⟩ (by show max (depK k1) (depK k2) + 1 ≤ d + 1; omega)
        · subst h
          exact fin (.either k1 k2) rfl ⟨ok1, ok2⟩ (by show max (depK k1) (depK k2) + 1 ≤ d + 1; omega)
        · subst h
          exact fin (.any k1 k2) rfl ⟨ok1, ok2⟩ (by show max (depK k1) (depK k2) + 1 ≤ d + 1; omega)
theorem joint_body {f : Addr} {fd : FuncData} (F : Fun K "_law_joint" "_law_joint" s_joint f fd) (T : TxR mg) (d : Nat) (D_draw : DefAt P w K mg base "_law_draw" 1 ["_law_draws", "_law_many"] spDraw) (D_pick : DefAt P w K mg base "_law_pick" 2 ["_law_draws", "_law_things"] (spPick K)) (D_part : DefAt P w K mg base "_law_part" 3 ["_law_draws", "_law_places"] (spPlain K))
    (D_joint : DefAt P w K mg base "_law_joint" (2 * d + 2) ["_law_draws", "_law_places", "_law_deep"] (spJointP K d)) (D_pair : DefAt P w K mg base "_law_pair" (2 * d + 3) ["_law_draws", "_law_places", "_law_deep"] (spPair K d)) : FnOk P w K mg base CX0 (2 * d + 4) f fd ["_law_draws", "_law_places", "_law_deep"] (spJoint K d) := by
  refine F.ok sc_joint (fun vs H Q E h => ?_) (fun cdv A outer s H vs Q E hr h => ?_)
  · obtain ⟨_, _, _, _, rfl, _⟩ := h
    rfl
  · obtain ⟨l, p, n, L, rfl, hd, hn, hl, hL, p1, p3, k⟩ := h
    refine ⟨_, (pss_cons (ps_if (PW.pt (pw_or (pt_cmpR op_eq (pv 2) pe_int (nomark _)) (pw_or1 (pt_cmpR op_eq (pe_callD D_draw (by first | exact hr | exact hr.mono (by decide) | exact hr.mono (by omega)) (by rfl) (pa_cons (pv 0) (pa_cons pe_int pa_nil))) pe_int (nomark _))))) (pss_one (ps_ret (pe_callD D_part (by first | exact hr | exact hr.mono (by decide) | exact hr.mono (by omega)) (by rfl) (pa_cons (pv 0) (pa_cons (pv 1) pa_nil))))) pss_nil)
    (pss_cons (ps_set (i := 3) sc_joint.nd rfl (by first | exact Or.inl rfl | exact Or.inr rfl) (pe_callD D_pick (by first | exact hr | exact hr.mono (by decide) | exact hr.mono (by omega)) (by rfl) (pa_cons (pv 0) (pa_cons (pe_lst (pa_cons pe_str (pa_cons pe_str (pa_cons pe_str (pa_cons pe_str pa_nil))))) pa_nil))))
    (pss_cons (ps_if (pt_cmpR op_eq (pv 3) pe_str (nomark _)) (pss_one (ps_ret (pe_tup (pa_cons (pv 3) (pa_cons (pe_callD D_joint (by first | exact hr | exact hr.mono (by decide) | exact hr.mono (by omega)) (by rfl) (pa_cons (pv 0) (pa_cons (pv 1) (pa_cons (pe_op op_sub (pv 2) pe_int) pa_nil)))) pa_nil))))) pss_nil)
    (pss_one (ps_ret (pe_op op_catT (pe_tup (pa_cons (pv 3) pa_nil)) (pe_callD D_pair (by first | exact hr | exact hr.mono (by decide) | exact hr.mono (by omega)) (by rfl) (pa_cons (pv 0) (pa_cons (pv 1) (pa_cons (pv 2) pa_nil)))))))))), ?_⟩
    exact joint_run hd hn hl hL p1 p3 k
theorem spec_body {f : Addr} {fd : FuncData} (F : Fun K "_law_spec" "_law_spec" s_spec f fd) (T : TxR mg) (d : Nat) (D_draw : DefAt P w K mg base "_law_draw" 1 ["_law_draws", "_law_many"] spDraw) (D_pick : DefAt P w K mg base "_law_pick" 2 ["_law_draws", "_law_things"] (spPick K)) (D_plain : DefAt P w K mg base "_law_plain" 3 ["_law_draws", "_law_places"] (spPlain K))
    (D_spec : DefAt P w K mg base "_law_spec" (2 * d + 2) ["_law_draws", "_law_places", "_law_deep"] (spJointP K d)) (D_pair : DefAt P w K mg base "_law_pair" (2 * d + 3) ["_law_draws", "_law_places", "_law_deep"] (spPair K d)) : FnOk P w K mg base CX0 (2 * d + 4) f fd ["_law_draws", "_law_places", "_law_deep"] (spJoint K d) := by
  refine F.ok sc_spec (fun vs H Q E h => ?_) (fun cdv A outer s H vs Q E hr h => ?_)
  · obtain ⟨_, _, _, _, rfl, _⟩ := h
    rfl
  · obtain ⟨l, p, n, L, rfl, hd, hn, hl, hL, p1, p3, k⟩ := h
    refine ⟨_, (pss_cons (ps_if (PW.pt (pw_or (pt_cmpR op_eq (pv 2) pe_int (nomark _)) (pw_or1 (pt_cmpR op_eq (pe_callD D_draw (by first | exact hr | exact hr.mono (by decide) | exact hr.mono (by omega)) (by rfl) (pa_cons (pv 0) (pa_cons pe_int pa_nil))) pe_int (nomark _))))) (pss_one (ps_ret (pe_callD D_plain (by first | exact hr | exact hr.mono (by decide) | exact hr.mono (by omega)) (by rfl) (pa_cons (pv 0) (pa_cons (pv 1) pa_nil))))) pss_nil)
    (pss_cons (ps_set (i := 3) sc_spec.nd rfl (by first | exact Or.inl rfl | exact Or.inr rfl) (pe_callD D_pick (by first | exact hr | exact hr.mono (by decide) | exact hr.mono (by omega)) (by rfl) (pa_cons (pv 0) (pa_cons (pe_lst (pa_cons pe_str (pa_cons pe_str (pa_cons pe_str (pa_cons pe_str pa_nil))))) pa_nil))))
    (pss_cons (ps_if (pt_cmpR op_eq (pv 3) pe_str (nomark _)) (pss_one (ps_ret (pe_tup (pa_cons (pv 3) (pa_cons (pe_callD D_spec (by first | exact hr | exact hr.mono (by decide) | exact hr.mono (by omega)) (by rfl) (pa_cons (pv 0) (pa_cons (pv 1) (pa_cons (pe_op op_sub (pv 2) pe_int) pa_nil)))) pa_nil))))) pss_nil)
    (pss_one (ps_ret (pe_op op_catT (pe_tup (pa_cons (pv 3) pa_nil)) (pe_callD D_pair (by first | exact hr | exact hr.mono (by decide) | exact hr.mono (by omega)) (by rfl) (pa_cons (pv 0) (pa_cons (pv 1) (pa_cons (pv 2) pa_nil)))))))))), ?_⟩
    exact joint_run hd hn hl hL p1 p3 k
end
end U

set_option Elab.async false
set_option linter.all false
set_option maxRecDepth 100000
set_option maxHeartbeats 4000000
/-! the law's words and places of a spec -/
namespace U
open PySem PySem.Spec PyProof.Rows L2
open Evl (Ex)
open C8 (Met Mak pe_mt pe_mt0 pe_mk)
abbrev s_words : Stmt := top 39
abbrev sc_words_N : List Str := ["_law_spec_here"]
theorem sc_words : FnScope sc_words_N ["_law_spec_here"] (defScope s_words) := ⟨rfl, rfl, rfl, by decide +kernel, rfl, by decide +kernel, by decide +kernel⟩
section
variable {K : PySem.W.Frag} {H : Hp}
theorem dp_one {v : V} {d : PyData} (h : Dp K H v (.tuple [d])) : ∃ a u, v = .ref a ∧ SqT K H a [u] ∧ Dp K H u d := by
  cases h with
  | @tup a xs _ hs ha =>
    cases ha with
    | @cons u us _ _ r q =>
      cases q
      exact ⟨a, u, rfl, hs, r⟩
theorem dp_two {v : V} {d e : PyData} (h : Dp K H v (.tuple [d, e])) : ∃ a u w, v = .ref a ∧ SqT K H a [u, w] ∧ Dp K H u d ∧ Dp K H w e := by
  cases h with
  | @tup a xs _ hs ha =>
    cases ha with
    | @cons u us _ _ r q =>
      cases q with
      | @cons w ws _ _ r2 q2 =>
        cases q2
        exact ⟨a, u, w, rfl, hs, r, r2⟩
theorem dp_three {v : V} {d e f : PyData} (h : Dp K H v (.tuple [d, e, f])) : ∃ a u w x, v = .ref a ∧ SqT K H a [u, w, x] ∧ Dp K H u d ∧ Dp K H w e ∧ Dp K H x f := by
  cases h with
  | @tup a xs _ hs ha =>
    cases ha with
    | @cons u us _ _ r q =>
      cases q with
      | @cons w ws _ _ r2 q2 =>
        cases q2 with
        | @cons x _ _ _ r3 q3 =>
          cases q3
          exact ⟨a, u, w, x, rfl, hs, r, r2, r3⟩
theorem evv_ift {σ : L2.St} {tc : TT} {ta tb : TE} {v : V} (ht : Evl.EvT tc σ H true) (h : Evl.Ev ta σ H v) : Evl.Ev (tIf tc ta tb) σ H v := Evl.ev_if ht (fun _ => h) fun z => nomatch z
theorem evv_iff {σ : L2.St} {tc : TT} {ta tb : TE} {v : V} (ht : Evl.EvT tc σ H false) (h : Evl.Ev tb σ H v) : Evl.Ev (tIf tc ta tb) σ H v := Evl.ev_if ht (fun z => nomatch z) fun _ => h
theorem dp_str {v : V} {z : Str} (h : Dp K H v (.str z)) : v = .str z := by cases h; rfl
theorem dp_int {v : V} {z : Int} (h : Dp K H v (.int z)) : v = .int z := by cases h; rfl
end
section
variable {P : Program} {w : World} {K : PySem.W.Frag} {mg : Str → Option Value} {base : Heap} {c : KC} {BT : Addr}
def spWords (K : PySem.W.Frag) (n : Nat) : Sp := fun vs H Q _ => ∃ v k, vs = [v] ∧ Dp K H v (kdD k) ∧ depK k ≤ n ∧ smK k ∧ (wordsK k).length ≤ 1000 ∧ ∀ p H', H p = none → Ex H H' → H' p = some (.lst ((wordsK k).map V.str)) → Q (.ref p) H'
def spWordsP (K : PySem.W.Frag) : Nat → Sp
  | 0 => fun _ _ _ _ => False
  | n + 1 => spWords K n
theorem el_words {te : TE} {σ : L2.St} {v : V} {k : Kd} {n : Nat} {H : Hp} (h : Evl.Ev te σ H v) (hv : Dp K H v (kdD k)) (hn : depK k ≤ n) (hs : smK k) (hl : (wordsK k).length ≤ 1000) : Evl.EvL (tCallD (spWords K n) (tCons te tNil)) σ H ((wordsK k).map V.str) := fun H1 e Q q => h H1 e _ fun H2 e2 =>
  ⟨v, k, rfl, hv.up (e.trans e2), hn, hs, hl, fun p H3 hp e3 hx => q p H3 (Evl.fresh_back e2 hp) (e2.trans e3) hx⟩
theorem el_ift {tc : TT} {ta tb : TE} {σ : L2.St} {H : Hp} {xs : List V} (ht : Evl.EvT tc σ H true) (h : Evl.EvL ta σ H xs) : Evl.EvL (tIf tc ta tb) σ H xs := fun H1 e Q q => ht H1 e _ fun H2 e2 => by
  rw [if_pos rfl]
  exact h H2 (e.trans e2) Q fun p H3 hp e3 hx => q p H3 (Evl.fresh_back e2 hp) (e2.trans e3) hx
theorem el_iff {tc : TT} {ta tb : TE} {σ : L2.St} {H : Hp} {xs : List V} (ht : Evl.EvT tc σ H false) (h : Evl.EvL tb σ H xs) : Evl.EvL (tIf tc ta tb) σ H xs := fun H1 e Q q => ht H1 e _ fun H2 e2 => by
  rw [if_neg Bool.false_ne_true]
  exact h H2 (e.trans e2) Q fun p H3 hp e3 hx => q p H3 (Evl.fresh_back e2 hp) (e2.trans e3) hx
theorem in5 (z : Str) : inV (.str z) [.str "halves", .str "boxes", .str "rising", .str "flats", .str "turns"] = decide (z ∈ (["halves", "boxes", "rising", "flats", "turns"] : List Str)) := inSs z ["halves", "boxes", "rising", "flats", "turns"]
theorem ev_digit {te : TE} {σ : L2.St} {H : Hp} {p : Int} (h : Evl.Ev te σ H (.int p)) (hp : 0 ≤ p ∧ p ≤ 9) : Evl.Ev (tCB (fun xs H Q => ∃ i, xs = [V.int i] ∧ i.natAbs.log2 < 1920 ∧ Q (.str (toString i)) H) (tCons te tNil)) σ H (.str (toString p)) := fun H1 e Q q => h H1 e _ fun H2 e2 => ⟨p, rfl, by
  have cp : p = 0 ∨ p = 1 ∨ p = 2 ∨ p = 3 ∨ p = 4 ∨ p = 5 ∨ p = 6 ∨ p = 7 ∨ p = 8 ∨ p = 9 := by omega
  rcases cp with rfl | rfl | rfl | rfl | rfl | rfl | rfl | rfl | rfl | rfl <;> decide, q H2 e2⟩
theorem words_body {f : Addr} {fd : FuncData} (F : Fun K "_law_words" "_law_words" s_words f fd) (T : TxS mg) (n : Nat) (D_words : DefAt P w K mg base "_law_words" n ["_law_spec_here"] (spWordsP K n)) : FnOk P w K mg base CX0 (n + 1) f fd ["_law_spec_here"] (spWords K n) := by
  refine F.ok sc_words (fun vs H Q E h => ?_) (fun cdv A outer s H vs Q E hr h => ?_)
  · obtain ⟨_, _, rfl, _⟩ := h
    rfl
  · obtain ⟨v, k, rfl, hv, hn, hsm, hl, kk⟩ := h
    refine ⟨_, (pss_cons (ps_if (pt_cmpR op_in_seq (pe_ix ix_tup (pv 0) pe_int (fun _ _ => rfl)) (pe_tup (pa_cons pe_str (pa_cons pe_str (pa_cons pe_str (pa_cons pe_str (pa_cons pe_str pa_nil)))))) (by rfl)) (pss_one (ps_ret (pe_lst (pa_cons (pe_ix ix_tup (pv 0) pe_int (fun _ _ => rfl)) (pa_cons (pe_callTy call_str_int (by rfl) T.m_str (by decide +kernel) (pa_cons (pe_ix ix_tup (pv 0) pe_int (fun _ _ => rfl)) pa_nil)) pa_nil))))) pss_nil)
    (pss_one (ps_ret (pe_op op_cat (pe_op op_cat (pe_lst (pa_cons (pe_ix ix_tup (pv 0) pe_int (fun _ _ => rfl)) pa_nil)) (pe_callD D_words (by first | exact hr | exact hr.mono (by decide) | exact hr.mono (by omega)) (by rfl) (pa_cons (pe_ix ix_tup (pv 0) pe_int (fun _ _ => rfl)) pa_nil))) (pe_ifExp (pt_cmpR op_ne (pe_ix ix_tup (pv 0) pe_int (fun _ _ => rfl)) pe_str (nomark _)) (pe_callD D_words (by first | exact hr | exact hr.mono (by decide) | exact hr.mono (by omega)) (by rfl) (pa_cons (pe_ix ix_tup (pv 0) pe_int (fun _ _ => rfl)) pa_nil)) (pe_lst pa_nil)))))), ?_⟩
    have tst : ∀ (a : Addr) (xs : List V) (z : Str) H1, v = .ref a → SqT K H1 a (.str z :: xs) → Evl.EvT (tTest (tOp (rIn K false) (tOp (rIxT K) (tVar 0) (tC (.int 0))) (tTup (tCons (tC (.str "halves")) (tCons (tC (.str "boxes")) (tCons (tC (.str "rising")) (tCons (tC (.str "flats")) (tCons (tC (.str "turns")) tNil)))))))) (start sc_words_N [v]) H1 (decide (z ∈ (["halves", "boxes", "rising", "flats", "turns"] : List Str))) := fun a xs z H1 e hs => by
      subst e
      exact Evl.et_is (Evl.et_test (Evl.ev_inU (Evl.ev_op (Evl.ev_var (v := .ref a) rfl) Evl.ev_c (Evl.rv_ixT hs (atI_nat (xs := .str z :: xs) (j := 0) rfl))) (Evl.eu_tup (Evl.ea_cons Evl.ev_c (Evl.ea_cons Evl.ev_c (Evl.ea_cons Evl.ev_c (Evl.ea_cons Evl.ev_c (Evl.ea_cons Evl.ev_c Evl.ea_nil))))) (by show 5 ≤ 100000; omega)) rfl rfl)) (in5 z)
    have it : ∀ (a : Addr) (xs : List V) (i : Nat) (u : V) H1, v = .ref a → SqT K H1 a xs → xs[i]? = some u → Evl.Ev (tOp (rIxT K) (tVar 0) (tC (.int i))) (start sc_words_N [v]) H1 u := fun a xs i u H1 e hs hx => by
      subst e
      exact Evl.ev_op (Evl.ev_var (v := .ref a) rfl) Evl.ev_c (Evl.rv_ixT hs (atI_nat hx))
    cases k with
    | halves q =>
      obtain ⟨a, u1, u2, rfl, hs, h1, h2⟩ := dp_two hv
      obtain rfl := dp_str h1
      obtain rfl := dp_int h2
      refine Evl.q_when (b := true) (Evl.et_is (tst a _ _ H rfl hs) (by decide)) (fun _ H1 e1 => ?_) (fun z => nomatch z)
      exact Evl.s_retL (xs := [.str "halves", .str (toString q)]) (Evl.el_lst (Evl.ea_cons (it a _ 0 _ H1 rfl (Evl.ex_t e1 hs) rfl) (Evl.ea_cons (ev_digit (it a _ 1 _ H1 rfl (Evl.ex_t e1 hs) rfl) hsm) Evl.ea_nil)) (by show 2 ≤ 100000; omega)) fun p H2 hp e2 hx => kk p H2 (Evl.fresh_back e1 hp) (e1.trans e2) hx
    | boxes q =>
      obtain ⟨a, u1, u2, rfl, hs, h1, h2⟩ := dp_two hv
      obtain rfl := dp_str h1
      obtain rfl := dp_int h2
      refine Evl.q_when (b := true) (Evl.et_is (tst a _ _ H rfl hs) (by decide)) (fun _ H1 e1 => ?_) (fun z => nomatch z)
      exact Evl.s_retL (xs := [.str "boxes", .str (toString q)]) (Evl.el_lst (Evl.ea_cons (it a _ 0 _ H1 rfl (Evl.ex_t e1 hs) rfl) (Evl.ea_cons (ev_digit (it a _ 1 _ H1 rfl (Evl.ex_t e1 hs) rfl) hsm) Evl.ea_nil)) (by show 2 ≤ 100000; omega)) fun p H2 hp e2 hx => kk p H2 (Evl.fresh_back e1 hp) (e1.trans e2) hx
    | rising q =>
      obtain ⟨a, u1, u2, rfl, hs, h1, h2⟩ := dp_two hv
      obtain rfl := dp_str h1
      obtain rfl := dp_int h2
      refine Evl.q_when (b := true) (Evl.et_is (tst a _ _ H rfl hs) (by decide)) (fun _ H1 e1 => ?_) (fun z => nomatch z)
      exact Evl.s_retL (xs := [.str "rising", .str (toString q)]) (Evl.el_lst (Evl.ea_cons (it a _ 0 _ H1 rfl (Evl.ex_t e1 hs) rfl) (Evl.ea_cons (ev_digit (it a _ 1 _ H1 rfl (Evl.ex_t e1 hs) rfl) hsm) Evl.ea_nil)) (by show 2 ≤ 100000; omega)) fun p H2 hp e2 hx => kk p H2 (Evl.fresh_back e1 hp) (e1.trans e2) hx
    | flats q =>
      obtain ⟨a, u1, u2, rfl, hs, h1, h2⟩ := dp_two hv
      obtain rfl := dp_str h1
      obtain rfl := dp_int h2
      refine Evl.q_when (b := true) (Evl.et_is (tst a _ _ H rfl hs) (by decide)) (fun _ H1 e1 => ?_) (fun z => nomatch z)
      exact Evl.s_retL (xs := [.str "flats", .str (toString q)]) (Evl.el_lst (Evl.ea_cons (it a _ 0 _ H1 rfl (Evl.ex_t e1 hs) rfl) (Evl.ea_cons (ev_digit (it a _ 1 _ H1 rfl (Evl.ex_t e1 hs) rfl) hsm) Evl.ea_nil)) (by show 2 ≤ 100000; omega)) fun p H2 hp e2 hx => kk p H2 (Evl.fresh_back e1 hp) (e1.trans e2) hx
    | turns q =>
      obtain ⟨a, u1, u2, rfl, hs, h1, h2⟩ := dp_two hv
      obtain rfl := dp_str h1
      obtain rfl := dp_int h2
      refine Evl.q_when (b := true) (Evl.et_is (tst a _ _ H rfl hs) (by decide)) (fun _ H1 e1 => ?_) (fun z => nomatch z)
      exact Evl.s_retL (xs := [.str "turns", .str (toString q)]) (Evl.el_lst (Evl.ea_cons (it a _ 0 _ H1 rfl (Evl.ex_t e1 hs) rfl) (Evl.ea_cons (ev_digit (it a _ 1 _ H1 rfl (Evl.ex_t e1 hs) rfl) hsm) Evl.ea_nil)) (by show 2 ≤ 100000; omega)) fun p H2 hp e2 hx => kk p H2 (Evl.fresh_back e1 hp) (e1.trans e2) hx
    | no k1 =>
      obtain ⟨a, u1, u2, rfl, hs, h1, h2⟩ := dp_two hv
      obtain rfl := dp_str h1
      obtain ⟨m, rfl⟩ : ∃ m, n = m + 1 := by
        cases n with
        | zero => exact absurd hn (Nat.not_succ_le_zero _)
        | succ m => exact ⟨m, rfl⟩
      have hlen : (wordsK k1).length ≤ 999 := by
        have : (wordsK (.no k1)).length ≤ 1000 := hl
        simp only [wordsK, List.length_cons, List.length_append] at this
        omega
      refine Evl.q_when (b := false) (Evl.et_is (tst a _ _ H rfl hs) (by decide)) (fun z => nomatch z) (fun _ H1 e1 => ?_)
      have e0 : (wordsK (.no k1)).map V.str = ([.str "not"] ++ (wordsK k1).map V.str) ++ [] := by simp [wordsK]
      rw [e0] at kk
      refine Evl.s_retL (el_cat (el_cat (Evl.el_lst (Evl.ea_cons (it a _ 0 _ H1 rfl (Evl.ex_t e1 hs) rfl) Evl.ea_nil) (by show 1 ≤ 100000; omega)) (el_words (it a _ 1 _ H1 rfl (Evl.ex_t e1 hs) rfl) (h2.up e1) (Nat.le_of_succ_le_succ hn) hsm (by omega)) (by simp; omega)) (el_iff (xs := []) (Evl.et_is (Evl.et_test (Evl.ev_op (it a _ 0 _ H1 rfl (Evl.ex_t e1 hs) rfl) Evl.ev_c (Evl.rv_ne rfl))) (by decide)) (Evl.el_lst Evl.ea_nil (by decide))) (by simp; omega)) fun p H2 hp e2 hx => kk p H2 (Evl.fresh_back e1 hp) (e1.trans e2) hx
    | both k1 k2 =>
      obtain ⟨a, u1, u2, u3, rfl, hs, h1, h2, h3⟩ := dp_three hv
      obtain rfl := dp_str h1
      obtain ⟨m, rfl⟩ : ∃ m, n = m + 1 := by
        cases n with
        | zero => exact absurd hn (Nat.not_succ_le_zero _)
        | succ m => exact ⟨m, rfl⟩
      have hlen : (wordsK k1).length + (wordsK k2).length ≤ 999 := by
        have : (wordsK (.both k1 k2)).length ≤ 1000 := hl
        simp only [wordsK, List.length_cons, List.length_append] at this
        omega
      refine Evl.q_when (b := false) (Evl.et_is (tst a _ _ H rfl hs) (by decide)) (fun z => nomatch z) (fun _ H1 e1 => ?_)
      have e0 : (wordsK (.both k1 k2)).map V.str = ([.str "both"] ++ (wordsK k1).map V.str) ++ (wordsK k2).map V.str := by simp [wordsK]
      rw [e0] at kk
      refine Evl.s_retL (el_cat (el_cat (Evl.el_lst (Evl.ea_cons (it a _ 0 _ H1 rfl (Evl.ex_t e1 hs) rfl) Evl.ea_nil) (by show 1 ≤ 100000; omega)) (el_words (it a _ 1 _ H1 rfl (Evl.ex_t e1 hs) rfl) (h2.up e1) (max_two hn).1 hsm.1 (by omega)) (by simp; omega)) (el_ift (Evl.et_is (Evl.et_test (Evl.ev_op (it a _ 0 _ H1 rfl (Evl.ex_t e1 hs) rfl) Evl.ev_c (Evl.rv_ne rfl))) (by decide)) (el_words (it a _ 2 _ H1 rfl (Evl.ex_t e1 hs) rfl) (h3.up e1) (max_two hn).2 hsm.2 (by omega))) (by simp; omega)) fun p H2 hp e2 hx => kk p H2 (Evl.fresh_back e1 hp) (e1.trans e2) hx
    | either k1 k2 =>
      obtain ⟨a, u1, u2, u3, rfl, hs, h1, h2, h3⟩ := dp_three hv
      obtain rfl := dp_str h1
      obtain ⟨m, rfl⟩ : ∃ m, n = m + 1 := by
        cases n with
        | zero => exact absurd hn (Nat.not_succ_le_zero _)
        | succ m => exact ⟨m, rfl⟩
      have hlen : (wordsK k1).length + (wordsK k2).length ≤ 999 := by
        have : (wordsK (.either k1 k2)).length ≤ 1000 := hl
        simp only [wordsK, List.length_cons, List.length_append] at this
        omega
      refine Evl.q_when (b := false) (Evl.et_is (tst a _ _ H rfl hs) (by decide)) (fun z => nomatch z) (fun _ H1 e1 => ?_)
      have e0 : (wordsK (.either k1 k2)).map V.str = ([.str "either"] ++ (wordsK k1).map V.str) ++ (wordsK k2).map V.str := by simp [wordsK]
      rw [e0] at kk
      refine Evl.s_retL (el_cat (el_cat (Evl.el_lst (Evl.ea_cons (it a _ 0 _ H1 rfl (Evl.ex_t e1 hs) rfl) Evl.ea_nil) (by show 1 ≤ 100000; omega)) (el_words (it a _ 1 _ H1 rfl (Evl.ex_t e1 hs) rfl) (h2.up e1) (max_two hn).1 hsm.1 (by omega)) (by simp; omega)) (el_ift (Evl.et_is (Evl.et_test (Evl.ev_op (it a _ 0 _ H1 rfl (Evl.ex_t e1 hs) rfl) Evl.ev_c (Evl.rv_ne rfl))) (by decide)) (el_words (it a _ 2 _ H1 rfl (Evl.ex_t e1 hs) rfl) (h3.up e1) (max_two hn).2 hsm.2 (by omega))) (by simp; omega)) fun p H2 hp e2 hx => kk p H2 (Evl.fresh_back e1 hp) (e1.trans e2) hx
    | any k1 k2 =>
      obtain ⟨a, u1, u2, u3, rfl, hs, h1, h2, h3⟩ := dp_three hv
      obtain rfl := dp_str h1
      obtain ⟨m, rfl⟩ : ∃ m, n = m + 1 := by
        cases n with
        | zero => exact absurd hn (Nat.not_succ_le_zero _)
        | succ m => exact ⟨m, rfl⟩
      have hlen : (wordsK k1).length + (wordsK k2).length ≤ 999 := by
        have : (wordsK (.any k1 k2)).length ≤ 1000 := hl
        simp only [wordsK, List.length_cons, List.length_append] at this
        omega
      refine Evl.q_when (b := false) (Evl.et_is (tst a _ _ H rfl hs) (by decide)) (fun z => nomatch z) (fun _ H1 e1 => ?_)
      have e0 : (wordsK (.any k1 k2)).map V.str = ([.str "any"] ++ (wordsK k1).map V.str) ++ (wordsK k2).map V.str := by simp [wordsK]
      rw [e0] at kk
      refine Evl.s_retL (el_cat (el_cat (Evl.el_lst (Evl.ea_cons (it a _ 0 _ H1 rfl (Evl.ex_t e1 hs) rfl) Evl.ea_nil) (by show 1 ≤ 100000; omega)) (el_words (it a _ 1 _ H1 rfl (Evl.ex_t e1 hs) rfl) (h2.up e1) (max_two hn).1 hsm.1 (by omega)) (by simp; omega)) (el_ift (Evl.et_is (Evl.et_test (Evl.ev_op (it a _ 0 _ H1 rfl (Evl.ex_t e1 hs) rfl) Evl.ev_c (Evl.rv_ne rfl))) (by decide)) (el_words (it a _ 2 _ H1 rfl (Evl.ex_t e1 hs) rfl) (h3.up e1) (max_two hn).2 hsm.2 (by omega))) (by simp; omega)) fun p H2 hp e2 hx => kk p H2 (Evl.fresh_back e1 hp) (e1.trans e2) hx
end
end U

set_option Elab.async false
set_option linter.all false
set_option maxRecDepth 100000
set_option maxHeartbeats 4000000
/-! the law's own reading -/
namespace U
open PySem PySem.Spec PyProof.Rows L2
open Evl (Ex)
abbrev s_end : Stmt := top 40
abbrev sc_end_N : List Str := ["_law_words_here", "_law_at", "_law_here", "_law_word", "_law_one", "_law_numbers"]
theorem sc_end : FnScope sc_end_N ["_law_words_here", "_law_at", "_law_here"] (defScope s_end) := ⟨rfl, rfl, rfl, by decide +kernel, rfl, by decide +kernel, by decide +kernel⟩
abbrev s_due : Stmt := top 41
abbrev sc_due_N : List Str := ["_law_words_here", "_law_found"]
theorem sc_due : FnScope sc_due_N ["_law_words_here"] (defScope s_due) := ⟨rfl, rfl, rfl, by decide +kernel, rfl, by decide +kernel, by decide +kernel⟩
theorem depth_strs : ∀ ws : List Str, PyData.depthAll (ws.map .str) = 0
  | [] => rfl
  | _ :: ws => by
    show max 0 (PyData.depthAll (ws.map .str)) = 0
    rw [depth_strs ws]
    rfl
theorem eqv_strs : ∀ a b : List Str, PyData.eqvAll (a.map .str) (b.map .str) = decide (a = b)
  | [], [] => rfl
  | [], _ :: _ => rfl
  | _ :: _, [] => rfl
  | x :: a, y :: b => by
    show ((x == y) && PyData.eqvAll (a.map .str) (b.map .str)) = _
    rw [eqv_strs a b]
    by_cases h1 : x = y <;> by_cases h2 : a = b <;> simp [h1, h2]
theorem shaped_strs {ws : List Str} (h : ∀ z ∈ ws, PyData.strOk z = true) : SeqAt.shaped (.list (ws.map .str)) = true := by
  refine Bool.and_eq_true_iff.mpr ⟨?_, decide_eq_true ?_⟩
  · show PyData.canLayAll0 (ws.map .str) = true
    rw [canLayAll_strs']
    exact List.all_eq_true.mpr h
  · show PyData.depthAll (ws.map .str) + 1 ≤ 64
    rw [depth_strs]
    decide
def digit (z : Str) : Prop := ∃ r : Int, 0 ≤ r ∧ r ≤ 9 ∧ z = (toString r : String)
theorem digit_ok {z : Str} (h : digit z) : PyData.strOk z = true := by
  obtain ⟨r, r0, r9, rfl⟩ := h
  have cp : r = 0 ∨ r = 1 ∨ r = 2 ∨ r = 3 ∨ r = 4 ∨ r = 5 ∨ r = 6 ∨ r = 7 ∨ r = 8 ∨ r = 9 := by omega
  rcases cp with rfl | rfl | rfl | rfl | rfl | rfl | rfl | rfl | rfl | rfl <;> decide +kernel
theorem digit_int {r : Int} (h : 0 ≤ r ∧ r ≤ 9) : PySem.intText? ((toString r : String) : Str) = some r ∧ ((toString r : String) : Str).length ≤ 640 := by
  have cp : r = 0 ∨ r = 1 ∨ r = 2 ∨ r = 3 ∨ r = 4 ∨ r = 5 ∨ r = 6 ∨ r = 7 ∨ r = 8 ∨ r = 9 := by omega
  rcases cp with rfl | rfl | rfl | rfl | rfl | rfl | rfl | rfl | rfl | rfl <;> decide +kernel
/-- the numbers from lo on -/
def numsL (lo : Int) : Nat → List Str
  | 0 => []
  | n + 1 => ((toString lo : String) : Str) :: numsL (lo + 1) n
theorem numFirst_mem {u : Str} : ∀ {n : Nat} {lo : Int}, u ∈ numsL lo n → ∃ r, numFirst u lo n = some r
  | 0, _, h => nomatch h
  | n + 1, lo, h => by
    unfold numFirst
    split
    · exact ⟨_, rfl⟩
    · rename_i e
      rcases List.mem_cons.mp h with z | z
      · exact absurd z e
      · exact numFirst_mem z
theorem numFirst_not {u : Str} : ∀ {n : Nat} {lo : Int}, u ∉ numsL lo n → numFirst u lo n = none
  | 0, _, _ => rfl
  | n + 1, lo, h => by
    unfold numFirst
    rw [if_neg fun e => h (by rw [e]; exact List.mem_cons_self ..)]
    exact numFirst_not fun z => h (List.mem_cons_of_mem _ z)
theorem numsL_in {u : Str} : ∀ {n : Nat} {lo : Int}, u ∈ numsL lo n → ∃ r : Int, lo ≤ r ∧ r < lo + n ∧ u = (toString r : String)
  | 0, _, h => nomatch h
  | n + 1, lo, h => by
    rcases List.mem_cons.mp h with z | z
    · exact ⟨lo, by omega, by omega, z⟩
    · obtain ⟨r, a, b, c⟩ := numsL_in z
      exact ⟨r, by omega, by omega, c⟩
theorem numAt_err {ws : List Str} {j : Nat} {lo hi : Int} {n : Nat} (hn : (hi + 1 - lo).toNat = n) (h : ws[j]? = none ∨ ∃ u, ws[j]? = some u ∧ u ∉ numsL lo n) : numAt ws j lo hi = .error j := by
  unfold numAt
  rcases h with h | ⟨u, h, hu⟩
  · rw [h]
  · rw [h, hn]
    show (match numFirst u lo n with | some n => Except.ok n | none => Except.error j) = _
    rw [numFirst_not hu]
theorem numAt_hit {ws : List Str} {j : Nat} {lo hi r : Int} {n : Nat} (hn : (hi + 1 - lo).toNat = n) (h : ws[j]? = some ((toString r : String) : Str)) (hu : ((toString r : String) : Str) ∈ numsL lo n) (h0 : 0 ≤ lo) (h9 : lo + n ≤ 10) (r9 : 0 ≤ r ∧ r ≤ 9) : numAt ws j lo hi = .ok r := by
  unfold numAt
  rw [h, hn]
  show (match numFirst ((toString r : String) : Str) lo n with | some n => Except.ok n | none => Except.error j) = _
  obtain ⟨r', e⟩ := numFirst_mem hu
  rw [e]
  have e2 := numFirst_back e
  have e3 := numFirst_in e
  rw [digit_inj r9 (by omega) e2]
theorem kindAt_none {ws : List Str} {n i : Nat} {pl : Option Int} (h : ws[i]? = none) : kindAt ws n i pl = .error i := by
  cases n with
  | zero => rfl
  | succ n => unfold kindAt; rw [h]
def endV (ws : List Str) (n i : Nat) (pl : Option Int) : List V := match kindAt ws n i pl with
  | .ok kj => [.int kj.2, .int (placesK kj.1)]
  | .error j => [.non, .int j]
section
variable {P : Program} {w : World} {K : PySem.W.Frag} {mg : Str → Option Value} {base : Heap} {c : KC} {BT : Addr}
def spEnd (K : PySem.W.Frag) (n : Nat) : Sp := fun vs H Q _ => ∃ (a : Addr) (ws : List Str) (i : Nat) (pl : Option Int), vs = [.ref a, .int i, plV pl] ∧ SqL K H a (ws.map V.str) ∧ ws.length ≤ 1000 ∧ ws.length ≤ i + n ∧ plOk pl ∧ ∀ t H', Ex H H' → SqT K H' t (endV ws n i pl) → Q (.ref t) H'
def spEndP (K : PySem.W.Frag) : Nat → Sp
  | 0 => fun _ _ _ _ => False
  | n + 1 => spEnd K n
theorem placesK_mkPl (z : Str) (r : Int) : placesK (mkPl z r) = r := by
  unfold mkPl
  split
  · rfl
  · split
    · rfl
    · split <;> rfl
theorem cd_ret {sp : Sp} {ta : TA} {vs : List V} {σ : L2.St} {H : Hp} {D : Ends} (h : Evl.EvA ta σ H vs) (hs : ∀ H1, Ex H H1 → sp vs H1 D.rt E0) : tRet (tCallD sp ta) D σ H := h H (Ex.refl _) _ hs
theorem cd_asg {sp : Sp} {ta : TA} {vs : List V} {σ : L2.St} {H : Hp} {D : Ends} {tz : TS} {i : Nat} (h : Evl.EvA ta σ H vs) (hs : ∀ H1, Ex H H1 → sp vs H1 (fun v H' => tz D (σ.set i (some v)) H') E0) : tSeq (tAsg (tCallD sp ta) (gName i)) tz D σ H := h H (Ex.refl _) _ hs
theorem ret_iff {tc : TT} {ta tb : TE} {σ : L2.St} {H : Hp} {D : Ends} (h : Evl.EvT tc σ H false) (hs : ∀ H1, Ex H H1 → tRet tb D σ H1) : tRet (tIf tc ta tb) D σ H := h H (Ex.refl _) _ fun H1 e => by
  rw [if_neg Bool.false_ne_true]
  exact hs H1 e
theorem end_tail {σ : L2.St} {H5 : Hp} {D : Ends} {a b : Addr} {ws ns : List Str} {i : Nat} {z : Str} (s0 : σ[0]? = some (some (.ref a))) (s1 : σ[1]? = some (some (.int i))) (s3 : σ[3]? = some (some (.str z))) (s5 : σ[5]? = some (some (.ref b)))
    (hx : SqL K H5 a (ws.map V.str)) (hb : H5 b = some (.lst (ns.map V.str))) (hd : ∀ u ∈ ns, digit u)
    (k0 : ns = [] → ∀ t H', Ex H5 H' → SqT K H' t [.non, .int i] → D.rt (.ref t) H')
    (k1 : ns ≠ [] → (ws[i + 1]? = none ∨ ∃ u, ws[i + 1]? = some u ∧ u ∉ ns) → ∀ t H', Ex H5 H' → SqT K H' t [.non, .int ((i + 1 : Nat) : Int)] → D.rt (.ref t) H')
    (k2 : ∀ r : Int, 0 ≤ r ∧ r ≤ 9 → ws[i + 1]? = some ((toString r : String) : Str) → ((toString r : String) : Str) ∈ ns → ∀ t H', Ex H5 H' → SqT K H' t [.int ((i + 2 : Nat) : Int), .int (if z = "turns" then 1 else r)] → D.rt (.ref t) H') :
    tSeq (tIfS (tTest (tOp (rEqD K) (tVar 5) (tLst tNil))) (tRet (tTup (tCons (tC .non) (tCons (tVar 1) tNil)))) tNext)
      (tSeq (tIfS (tOr (tTest (tOp (rI0 fun i j => V.bl (decide (j ≤ i))) (tOp (rI0 fun i j => V.int (i + j)) (tVar 1) (tC (.int 1))) (tCB (fun xs H Q => ∃ p ys, xs = [V.ref p] ∧ (SqL K H p ys ∨ SqT K H p ys) ∧ Q (V.int ys.length) H) (tCons (tVar 0) tNil))))
          (tTest (tOp (rIn K true) (tOp (rIxL K) (tVar 0) (tOp (rI0 fun i j => V.int (i + j)) (tVar 1) (tC (.int 1)))) (tVar 5))))
        (tRet (tTup (tCons (tC .non) (tCons (tOp (rI0 fun i j => V.int (i + j)) (tVar 1) (tC (.int 1))) tNil)))) tNext)
      (tRet (tTup (tCons (tOp (rI0 fun i j => V.int (i + j)) (tVar 1) (tC (.int 2))) (tCons (tIf (tTest (tOp rEq (tVar 3) (tC (.str "turns")))) (tC (.int 1)) (tCB (fun xs H Q => ∃ a n, xs = [V.str a] ∧ PySem.intText? a = some n ∧ a.length ≤ 640 ∧ Q (V.int n) H) (tCons (tOp (rIxL K) (tVar 0) (tOp (rI0 fun i j => V.int (i + j)) (tVar 1) (tC (.int 1)))) tNil))) tNil))))) D σ H5 := by
  have two : ∀ {ta tb : TE} {v w : V} H6, Evl.Ev ta σ H6 v → Evl.Ev tb σ H6 w → Evl.EvU (tTup (tCons ta (tCons tb tNil))) σ H6 [v, w] := fun H6 h1 h2 => Evl.eu_tup (Evl.ea_cons h1 (Evl.ea_cons h2 Evl.ea_nil)) (by show 2 ≤ 100000; omega)
  have nx : ∀ (j : Nat) H6, Evl.Ev (tOp (rI0 fun i j => V.int (i + j)) (tVar 1) (tC (.int j))) σ H6 (.int ((i + j : Nat) : Int)) := fun j H6 => Evl.ev_is (Evl.ev_op (Evl.ev_var s1) Evl.ev_c (Evl.rv_I0 (g := fun a b => .int (a + b)))) (congrArg V.int (by omega))
  refine Evl.q_when (b := decide (ns = [])) (Evl.et_test fun H6 e6 Q q => ?_) (fun hz H6 e6 => ?_) (fun hz H6 e6 => ?_)
  · refine ⟨_, s5, by show 0 ≤ sizeLine; decide, fun t ht => ?_⟩
    refine ⟨.list (ns.map .str), .list (([] : List Str).map .str), .lst (SqL.of (Ex.new ht _ _ (e6 _ _ hb))) (dpa_strs _), .lst (SqL.of upd_same) .nil, shaped_strs fun z hz => digit_ok (hd z hz), by decide, ?_⟩
    show Q (.bl (PyData.eqvAll (ns.map .str) (([] : List Str).map .str))) _
    rw [eqv_strs]
    exact q _ (Ex.new ht)
  · exact Evl.s_retU (two H6 Evl.ev_c (Evl.ev_var s1)) fun t H7 _ e7 ht => k0 (of_decide_eq_true hz) t H7 (e6.trans e7) (SqT.of ht)
  · have hne := of_decide_eq_false hz
    have t1 : Evl.EvT (tTest (tOp (rI0 fun i j => V.bl (decide (j ≤ i))) (tOp (rI0 fun i j => V.int (i + j)) (tVar 1) (tC (.int 1))) (tCB (fun xs H Q => ∃ p ys, xs = [V.ref p] ∧ (SqL K H p ys ∨ SqT K H p ys) ∧ Q (V.int ys.length) H) (tCons (tVar 0) tNil)))) σ H6 (decide (ws.length ≤ i + 1)) :=
      Evl.et_is (Evl.et_test (Evl.ev_op (nx 1 H6) (ev_lenS (xs := ws.map V.str) (Evl.ev_var s0) (.inl (Evl.ex_l e6 hx))) (Evl.rv_I0 (g := fun i j => .bl (decide (j ≤ i)))))) (by rw [List.length_map]; exact decide_eq_decide.mpr (by omega))
    cases hu : ws[i + 1]? with
    | none =>
      have hlen : ws.length ≤ i + 1 := List.getElem?_eq_none_iff.mp hu
      refine Evl.q_when (b := true) (Evl.et_is (Evl.et_or (a := true) (b := true) (Evl.et_is t1 (decide_eq_true hlen)) fun z => nomatch z) rfl) (fun _ H7 e7 => ?_) (fun z => nomatch z)
      exact Evl.s_retU (two H7 Evl.ev_c (nx 1 H7)) fun t H8 _ e8 ht => k1 hne (.inl hu) t H8 ((e6.trans e7).trans e8) (SqT.of ht)
    | some u =>
      have hlen : ¬ ws.length ≤ i + 1 := by have := (List.getElem?_eq_some_iff.mp hu).1; omega
      have ix : ∀ H7, Ex H5 H7 → Evl.Ev (tOp (rIxL K) (tVar 0) (tOp (rI0 fun i j => V.int (i + j)) (tVar 1) (tC (.int 1)))) σ H7 (.str u) := fun H7 e7 => Evl.ev_op (Evl.ev_var s0) (nx 1 H7) (Evl.rv_ixL (Evl.ex_l e7 hx) (atI_nat (by rw [List.getElem?_map, hu]; rfl)))
      refine Evl.q_when (b := decide (u ∉ ns)) (Evl.et_is (Evl.et_or (a := false) (b := decide (u ∉ ns)) (Evl.et_is t1 (decide_eq_false hlen)) fun _ => Evl.et_is (Evl.et_test (Evl.ev_op (ix H6 e6) (Evl.ev_var s5) (Evl.rv_inL (neg := true) (SqL.of (e6 _ _ hb)) rfl (by simp [flatV])))) (by rw [inSs]; simp)) (Bool.false_or _)) (fun hm H7 e7 => ?_) (fun hm H7 e7 => ?_)
      · exact Evl.s_retU (two H7 Evl.ev_c (nx 1 H7)) fun t H8 _ e8 ht => k1 hne (.inr ⟨u, hu, of_decide_eq_true hm⟩) t H8 ((e6.trans e7).trans e8) (SqT.of ht)
      · have hm := Decidable.not_not.mp (of_decide_eq_false hm)
        obtain ⟨r, r0, r9, hr⟩ := hd u hm
        have eA := e6.trans e7
        have hi := digit_int ⟨r0, r9⟩
        refine Evl.s_retU (two H7 (nx 2 H7) (Evl.ev_if (v := .int (if z = "turns" then 1 else r)) (b := decide (z = "turns")) (Evl.et_is (Evl.et_test (Evl.ev_op (Evl.ev_var s3) Evl.ev_c (Evl.rv_eq rfl))) (dS _ _)) (fun hz => ?_) (fun hz => ?_))) fun t H8 _ e8 ht => k2 r ⟨r0, r9⟩ (by rw [← hr]; exact hu) (by rw [← hr]; exact hm) t H8 (eA.trans e8) (SqT.of ht)
        · rw [if_pos (of_decide_eq_true hz)]
          exact Evl.ev_c
        · rw [if_neg (of_decide_eq_false hz)]
          exact fun H8 e8 Q q => ix H7 eA H8 e8 _ fun H9 e9 => ⟨u, r, rfl, by rw [hr]; exact hi.1, by rw [hr]; exact hi.2, q H9 e9⟩
theorem end_body {f : Addr} {fd : FuncData} (F : Fun K "_law_end" "_law_end" s_end f fd) (T : TxS mg) (n : Nat) (D_end : DefAt P w K mg base "_law_end" n ["_law_words_here", "_law_at", "_law_here"] (spEndP K n)) : FnOk P w K mg base CX0 (n + 1) f fd ["_law_words_here", "_law_at", "_law_here"] (spEnd K n) := by
  refine F.ok sc_end (fun vs H Q E h => ?_) (fun cdv A outer s H vs Q E hr h => ?_)
  · obtain ⟨_, _, _, _, rfl, _⟩ := h
    rfl
  · obtain ⟨a, ws, i, pl, rfl, hx, hl, hn, hp, k⟩ := h
    refine ⟨_, (pss_cons (ps_set (i := 3) sc_end.nd rfl (by first | exact Or.inl rfl | exact Or.inr rfl) (pe_ifExp (pt_cmpR op_lt (pv 1) (pe_callB call_len_seq (by rfl) T.m_len (by decide +kernel) (pa_cons (pv 0) pa_nil)) (nomark _)) (pe_ix ix_list (pv 0) (pv 1) (fun _ _ => rfl)) pe_str))
    (pss_cons (ps_if (pt_cmpR op_eq (pv 3) pe_str (nomark _)) (pss_one (ps_ret (pe_callD D_end (by first | exact hr | exact hr.mono (by decide) | exact hr.mono (by omega)) (by rfl) (pa_cons (pv 0) (pa_cons (pe_op op_add (pv 1) pe_int) (pa_cons (pv 2) pa_nil)))))) pss_nil)
    (pss_cons (ps_if (pt_cmpR op_in_seq (pv 3) (pe_tup (pa_cons pe_str (pa_cons pe_str (pa_cons pe_str pa_nil)))) (by rfl)) (pss_cons (ps_set (i := 4) sc_end.nd rfl (by first | exact Or.inl rfl | exact Or.inr rfl) (pe_callD D_end (by first | exact hr | exact hr.mono (by decide) | exact hr.mono (by omega)) (by rfl) (pa_cons (pv 0) (pa_cons (pe_op op_add (pv 1) pe_int) (pa_cons (pv 2) pa_nil)))))
      (pss_one (ps_ret (pe_ifExp (pt_cmp (pc_isN (pe_ix ix_tup (pv 4) pe_int (fun _ _ => rfl))) rfl) (pv 4) (pe_callD D_end (by first | exact hr | exact hr.mono (by decide) | exact hr.mono (by omega)) (by rfl) (pa_cons (pv 0) (pa_cons (pe_ix ix_tup (pv 4) pe_int (fun _ _ => rfl)) (pa_cons (pe_ix ix_tup (pv 4) pe_int (fun _ _ => rfl)) pa_nil)))))))) pss_nil)
    (pss_cons (ps_set (i := 5) sc_end.nd rfl (by first | exact Or.inl rfl | exact Or.inr rfl) (pe_lst pa_nil))
    (pss_cons (ps_if (PW.pt (pw_and (pt_cmpR op_eq (pv 3) pe_str (nomark _)) (pw_and1 (pt_cmpR op_in_seq (pv 2) (pe_tup (pa_cons pe_non (pa_cons pe_int pa_nil))) (by rfl))))) (pss_one (ps_set (i := 5) sc_end.nd rfl (by first | exact Or.inl rfl | exact Or.inr rfl) (pe_lst (pa_cons pe_str (pa_cons pe_str (pa_cons pe_str (pa_cons pe_str (pa_cons pe_str (pa_cons pe_str (pa_cons pe_str pa_nil)))))))))) pss_nil)
    (pss_cons (ps_if (pt_cmpR op_in_seq (pv 3) (pe_tup (pa_cons pe_str (pa_cons pe_str (pa_cons pe_str (pa_cons pe_str pa_nil))))) (by rfl)) (pss_one (ps_set (i := 5) sc_end.nd rfl (by first | exact Or.inl rfl | exact Or.inr rfl) (pe_ifExp (pt_cmp (pc_isN (pv 2)) rfl) (pe_lst (pa_cons pe_str (pa_cons pe_str (pa_cons pe_str pa_nil)))) (pe_lst (pa_cons (pe_callTy call_str_int (by rfl) T.m_str (by decide +kernel) (pa_cons (pv 2) pa_nil)) pa_nil))))) pss_nil)
    (pss_cons (ps_if (pt_cmpR (op_eqD hr.units) (pv 5) (pe_lst pa_nil) (nomark _)) (pss_one (ps_ret (pe_tup (pa_cons pe_non (pa_cons (pv 1) pa_nil))))) pss_nil)
    (pss_cons (ps_if (PW.pt (pw_or (pt_cmpR op_ge (pe_op op_add (pv 1) pe_int) (pe_callB call_len_seq (by rfl) T.m_len (by decide +kernel) (pa_cons (pv 0) pa_nil)) (nomark _)) (pw_or1 (pt_cmpR op_notIn_seq (pe_ix ix_list (pv 0) (pe_op op_add (pv 1) pe_int) (fun _ _ => rfl)) (pv 5) (by rfl))))) (pss_one (ps_ret (pe_tup (pa_cons pe_non (pa_cons (pe_op op_add (pv 1) pe_int) pa_nil))))) pss_nil)
    (pss_one (ps_ret (pe_tup (pa_cons (pe_op op_add (pv 1) pe_int) (pa_cons (pe_ifExp (pt_cmpR op_eq (pv 3) pe_str (nomark _)) pe_int (pe_callTy call_int_str (by rfl) T.m_int (by decide +kernel) (pa_cons (pe_ix ix_list (pv 0) (pe_op op_add (pv 1) pe_int) (fun _ _ => rfl)) pa_nil))) pa_nil))))))))))))), ?_⟩
    have w0 : ∀ m, spEndP K (m + 1) = spEnd K m := fun _ => rfl
    have isn : ∀ {te : TE} {σ : L2.St} {H1 : Hp} {v : V} {b : Bool}, Evl.Ev te σ H1 v → decide (v = .non) = b → Evl.EvT (tB (tIsN te)) σ H1 b := fun {te σ H1 v b} h e => Evl.et_B fun H2 e2 Q q => h H2 e2 _ fun H3 e3 => by
      show Q (.bl (decide (v = .non))) H3
      rw [e]
      exact q H3 e3
    obtain ⟨z, hz⟩ : ∃ z : Str, (ws[i]? = some z ∧ i < ws.length) ∨ (ws[i]? = none ∧ z = "" ∧ ¬ i < ws.length) := by
      cases h : ws[i]? with
      | some z => exact ⟨z, .inl ⟨rfl, (List.getElem?_eq_some_iff.mp h).1⟩⟩
      | none => exact ⟨"", .inr ⟨rfl, rfl, by have := List.getElem?_eq_none_iff.mp h; omega⟩⟩
    refine Evl.q_asg (v := .str z) (Evl.ev_if (b := decide (i < ws.length)) (Evl.et_is (Evl.et_test (Evl.ev_op (Evl.ev_var (v := .int i) rfl) (ev_lenS (xs := ws.map V.str) (Evl.ev_var (v := .ref a) rfl) (.inl hx)) (Evl.rv_I0 (g := fun i j => .bl (decide (i < j)))))) (by rw [List.length_map]; exact decide_eq_decide.mpr (by omega))) (fun hi => ?_) (fun hi => ?_)) fun H1 e1 => ?_
    · rcases hz with ⟨hw, _⟩ | ⟨_, _, h⟩
      · exact Evl.ev_op (Evl.ev_var (v := .ref a) rfl) (Evl.ev_var (v := .int i) rfl) (Evl.rv_ixL hx (atI_nat (by rw [List.getElem?_map, hw]; rfl)))
      · exact absurd (of_decide_eq_true hi) h
    · rcases hz with ⟨_, h⟩ | ⟨_, rfl, _⟩
      · exact absurd h (of_decide_eq_false hi)
      · exact Evl.ev_c
    have te : ∀ (y : Str) H5, Evl.EvT (tTest (tOp rEq (tVar 3) (tC (.str y)))) [some (.ref a), some (.int i), some (plV pl), some (.str z), none, none] H5 (decide (z = y)) := fun y H5 => Evl.et_is (Evl.et_test (Evl.ev_op (Evl.ev_var (v := .str z) rfl) Evl.ev_c (Evl.rv_eq rfl))) (dS _ _)
    have ar1 : ∀ H2, Evl.EvA (tCons (tVar 0) (tCons (tOp (rI0 fun a b => .int (a + b)) (tVar 1) (tC (.int 1))) (tCons (tVar 2) tNil))) [some (.ref a), some (.int i), some (plV pl), some (.str z), none, none] H2 [.ref a, .int ((i + 1 : Nat) : Int), plV pl] := fun H2 =>
      Evl.ea_cons (Evl.ev_var rfl) (Evl.ea_cons (Evl.ev_is (Evl.ev_op (Evl.ev_var (v := .int i) rfl) Evl.ev_c (Evl.rv_I0 (g := fun a b => .int (a + b)))) (congrArg V.int (by omega))) (Evl.ea_cons (Evl.ev_var rfl) Evl.ea_nil))
    refine Evl.q_when (te "not" H1) (fun hq H2 e2 => ?_) (fun hq H2 e2 => ?_)
    · have hq := of_decide_eq_true hq
      rcases hz with ⟨hw, hi⟩ | ⟨_, h, _⟩
      · obtain ⟨m, rfl⟩ : ∃ m, n = m + 1 := ⟨n - 1, by omega⟩
        have eA := e1.trans e2
        have hE : endV ws (m + 1) i pl = endV ws m (i + 1) pl := by
          unfold endV
          conv => lhs; unfold kindAt
          rw [hw]
          dsimp only
          rw [if_pos hq]
          cases kindAt ws m (i + 1) pl with
          | error _ => rfl
          | ok kj => rfl
        exact cd_ret (ar1 H2) fun H3 e3 => ⟨a, ws, i + 1, pl, rfl, Evl.ex_l (eA.trans e3) hx, hl, by omega, hp, fun t H4 e4 ht => k t H4 ((eA.trans e3).trans e4) (by rw [hE]; exact ht)⟩
      · rw [h] at hq
        exact absurd hq (by decide)
    have hq := of_decide_eq_false hq
    have eA := e1.trans e2
    refine Evl.q_when (b := decide (z = "both" ∨ z = "either" ∨ z = "any")) (Evl.et_is (Evl.et_test (Evl.ev_inU (Evl.ev_var (v := .str z) rfl) (Evl.eu_tup (Evl.ea_cons Evl.ev_c (Evl.ea_cons Evl.ev_c (Evl.ea_cons Evl.ev_c Evl.ea_nil))) (by show 3 ≤ 100000; omega)) rfl rfl)) (inS3 z "both" "either" "any")) (fun hq3 H3 e3 => ?_) (fun hq3 H3 e3 => ?_)
    · have hq3 := of_decide_eq_true hq3
      rcases hz with ⟨hw, hi⟩ | ⟨_, h, _⟩
      · obtain ⟨m, rfl⟩ : ∃ m, n = m + 1 := ⟨n - 1, by omega⟩
        have eB := eA.trans e3
        refine cd_asg (ar1 H3) fun H4 e4 => ⟨a, ws, i + 1, pl, rfl, Evl.ex_l (eB.trans e4) hx, hl, by omega, hp, fun t H5 e5 ht => ?_⟩
        have eC := (eB.trans e4).trans e5
        cases h1 : kindAt ws m (i + 1) pl with
        | error j =>
          have hE : endV ws (m + 1) i pl = [.non, .int j] := by
            unfold endV kindAt
            rw [hw]
            dsimp only
            rw [if_neg hq, if_pos hq3, h1]
          have hT : endV ws m (i + 1) pl = [.non, .int j] := by
            unfold endV
            rw [h1]
          rw [hT] at ht
          refine Evl.s_ret (v := .ref t) (Evl.ev_if (b := true) (isn (Evl.ev_op (Evl.ev_var (v := .ref t) rfl) Evl.ev_c (Evl.rv_ixT ht rfl)) rfl) (fun _ => Evl.ev_var rfl) (fun z => nomatch z)) fun H6 e6 => k t H6 (eC.trans e6) (by rw [hE]; exact Evl.ex_t e6 ht)
        | ok kj =>
          obtain ⟨k1, j1⟩ := kj
          have hT : endV ws m (i + 1) pl = [.int j1, .int (placesK k1)] := by
            unfold endV
            rw [h1]
          rw [hT] at ht
          obtain ⟨lj, p, p1, p3, o1, _⟩ := kindAt_ok hp h1
          have ep := okT_places o1
          have hp2 : plOk (some (placesK k1)) := fun q hq => by
            cases hq
            rw [ep]
            exact ⟨p1, p3⟩
          have hE : endV ws (m + 1) i pl = endV ws m j1 (some (placesK k1)) := by
            unfold endV
            conv => lhs; unfold kindAt
            rw [hw]
            dsimp only
            rw [if_neg hq, if_pos hq3, h1]
            dsimp only
            cases h2 : kindAt ws m j1 (some (placesK k1)) with
            | error _ => rfl
            | ok kj2 =>
              obtain ⟨k2, j2⟩ := kj2
              obtain ⟨_, p', _, _, o2, z2⟩ := kindAt_ok hp2 h2
              have ep2 : placesK k2 = placesK k1 := by
                rcases z2 with z2 | z2
                · cases z2
                · rw [okT_places o2]
                  exact (Option.some.inj z2).symm
              have e3 : placesK (mkJ z k1 k2) = placesK k1 := by
                unfold mkJ
                split
                · rfl
                · split <;> rfl
              show [V.int j2, V.int (placesK (mkJ z k1 k2))] = [V.int j2, V.int (placesK k2)]
              rw [e3, ep2]
          refine ret_iff (isn (Evl.ev_op (Evl.ev_var (v := .ref t) rfl) Evl.ev_c (Evl.rv_ixT ht rfl)) rfl) fun H6 e6 => ?_
          refine cd_ret (Evl.ea_cons (Evl.ev_var (v := .ref a) rfl) (Evl.ea_cons (Evl.ev_op (Evl.ev_var (v := .ref t) rfl) Evl.ev_c (Evl.rv_ixT (Evl.ex_t e6 ht) rfl)) (Evl.ea_cons (Evl.ev_op (Evl.ev_var (v := .ref t) rfl) Evl.ev_c (Evl.rv_ixT (Evl.ex_t e6 ht) rfl)) Evl.ea_nil))) fun H7 e7 => ⟨a, ws, j1, some (placesK k1), rfl, Evl.ex_l ((eC.trans e6).trans e7) hx, hl, by omega, hp2, fun t2 H8 e8 ht2 => k t2 H8 (((eC.trans e6).trans e7).trans e8) (by rw [hE]; exact ht2)⟩
      · rw [h] at hq3
        exact absurd hq3 (by decide)
    have hq3 := of_decide_eq_false hq3
    have eB := eA.trans e3
    -- no word that takes another
    have hE : ∀ (E : Except Nat Kd), (∀ z', ws[i]? = some z' → plainAt ws z' i pl = E) → (ws[i]? = none → E = .error i) → endV ws n i pl = match E with
        | .ok kd => [.int ((i + 2 : Nat) : Int), .int (placesK kd)]
        | .error j => [.non, .int j] := fun E h1 h2 => by
      rcases hz with ⟨hw, hi⟩ | ⟨hw, _, _⟩
      · obtain ⟨m, rfl⟩ : ∃ m, n = m + 1 := ⟨n - 1, by omega⟩
        unfold endV kindAt
        rw [hw]
        dsimp only
        rw [if_neg hq, if_neg hq3, h1 z hw]
        cases E <;> rfl
      · unfold endV
        rw [kindAt_none hw, h2 hw]
    refine Evl.q_asgL (xs := []) (Evl.el_lst Evl.ea_nil (by show 0 ≤ 100000; omega)) fun b0 H4 _ e4 hb0 => ?_
    have eC := eB.trans e4
    have tst : ∀ H2 b5, Evl.EvT (tAnd (tTest (tOp rEq (tVar 3) (tC (.str "turns")))) (tTest (tOp (rIn K false) (tVar 2) (tTup (tCons (tC .non) (tCons (tC (.int 1)) tNil)))))) [some (.ref a), some (.int i), some (plV pl), some (.str z), none, b5] H2 (decide (z = "turns" ∧ (pl = none ∨ pl = some 1))) := fun H2 b5 =>
      Evl.et_is (Evl.et_and (a := decide (z = "turns")) (b := decide (pl = none ∨ pl = some 1)) (Evl.et_is (Evl.et_test (Evl.ev_op (Evl.ev_var (v := .str z) rfl) Evl.ev_c (Evl.rv_eq rfl))) (dS _ _)) fun _ => Evl.et_is (Evl.et_test (Evl.ev_inU (Evl.ev_var (v := plV pl) rfl) (Evl.eu_tup (Evl.ea_cons Evl.ev_c (Evl.ea_cons Evl.ev_c Evl.ea_nil)) (by show 2 ≤ 100000; omega)) (by cases pl <;> rfl) rfl)) (plV_in pl)) (by simp)
    have tst4 : ∀ H2 b5, Evl.EvT (tTest (tOp (rIn K false) (tVar 3) (tTup (tCons (tC (.str "halves")) (tCons (tC (.str "boxes")) (tCons (tC (.str "rising")) (tCons (tC (.str "flats")) tNil))))))) [some (.ref a), some (.int i), some (plV pl), some (.str z), none, b5] H2 (decide (z = "halves" ∨ z = "boxes" ∨ z = "rising" ∨ z = "flats")) := fun H2 b5 =>
      Evl.et_is (Evl.et_test (Evl.ev_inU (Evl.ev_var (v := .str z) rfl) (Evl.eu_tup (Evl.ea_cons Evl.ev_c (Evl.ea_cons Evl.ev_c (Evl.ea_cons Evl.ev_c (Evl.ea_cons Evl.ev_c Evl.ea_nil)))) (by show 4 ≤ 100000; omega)) rfl rfl)) (inS4 z _ _ _ _)
    by_cases ht : z = "turns" ∧ (pl = none ∨ pl = some 1)
    · have h4 : ¬ (z = "halves" ∨ z = "boxes" ∨ z = "rising" ∨ z = "flats") := by rw [ht.1]; decide
      obtain ⟨hw, hi⟩ : ws[i]? = some z ∧ i < ws.length := by
        rcases hz with h | ⟨_, h, _⟩
        · exact h
        · exact absurd (h.symm.trans ht.1) (by decide)
      have e7 : numsL 0 7 = (["0", "1", "2", "3", "4", "5", "6"] : List Str) := by decide +kernel
      refine Evl.q_when (b := true) (Evl.et_is (tst H4 _) (decide_eq_true ht)) (fun _ H5 e5 => ?_) (fun z => nomatch z)
      refine Evl.s_asgL (xs := (numsL 0 7).map V.str) (by rw [e7]; exact Evl.el_lst (Evl.ea_cons Evl.ev_c (Evl.ea_cons Evl.ev_c (Evl.ea_cons Evl.ev_c (Evl.ea_cons Evl.ev_c (Evl.ea_cons Evl.ev_c (Evl.ea_cons Evl.ev_c (Evl.ea_cons Evl.ev_c Evl.ea_nil))))))) (by show 7 ≤ 100000; omega)) fun b H6 _ e6 hb => ?_
      refine Evl.q_when (b := false) (Evl.et_is (tst4 H6 _) (decide_eq_false h4)) (fun z => nomatch z) (fun _ H7 e7' => ?_)
      have eD := ((eC.trans e5).trans e6).trans e7'
      refine end_tail (K := K) (z := z) rfl rfl rfl rfl (Evl.ex_l eD hx) (e7' _ _ hb) (fun u hu => ?_) (fun h => ?_) (fun _ h t H' e' hs => k t H' (eD.trans e') ?_) (fun r hr h hm t H' e' hs => k t H' (eD.trans e') ?_)
      · obtain ⟨r, a1, a2, a3⟩ := numsL_in hu
        exact ⟨r, a1, by omega, a3⟩
      · cases h
      · rw [hE (.error (i + 1)) (fun z' hz' => by
          rw [hw] at hz'
          obtain rfl := Option.some.inj hz'
          unfold plainAt
          rw [if_pos ht, numAt_err (n := 7) rfl h]
          rfl) (fun h => by rw [hw] at h; cases h)]
        exact hs
      · rw [hE (.ok (.turns r)) (fun z' hz' => by
          rw [hw] at hz'
          obtain rfl := Option.some.inj hz'
          unfold plainAt
          rw [if_pos ht, numAt_hit (n := 7) rfl h hm (by decide) (by decide) hr]
          rfl) (fun h => by rw [hw] at h; cases h)]
        rw [if_pos ht.1] at hs
        exact hs
    · refine Evl.q_when (b := false) (Evl.et_is (tst H4 _) (decide_eq_false ht)) (fun z => nomatch z) (fun _ H5 e5 => ?_)
      have eD := eC.trans e5
      by_cases h4 : z = "halves" ∨ z = "boxes" ∨ z = "rising" ∨ z = "flats"
      · obtain ⟨hw, hi⟩ : ws[i]? = some z ∧ i < ws.length := by
          rcases hz with h | ⟨_, h, _⟩
          · exact h
          · rw [h] at h4
            exact absurd h4 (by decide)
        have nt : ¬ z = "turns" := by rcases h4 with rfl | rfl | rfl | rfl <;> decide
        refine Evl.q_when (b := true) (Evl.et_is (tst4 H5 _) (decide_eq_true h4)) (fun _ H6 e6 => ?_) (fun z => nomatch z)
        obtain ⟨lo, m, hlo, hm0, hmm, h0, h9⟩ : ∃ (lo : Int) (m : Nat), plLo pl = lo ∧ (plHi pl + 1 - lo).toNat = m ∧ 0 < m ∧ 0 ≤ lo ∧ lo + m ≤ 10 := by
          cases pl with
          | none => exact ⟨1, 3, rfl, rfl, by decide, by decide, by decide⟩
          | some p =>
            have := hp p rfl
            exact ⟨p, 1, rfl, by show (p + 1 - p).toNat = 1; omega, by decide, by omega, by omega⟩
        refine Evl.s_asgL (xs := (numsL lo m).map V.str) ?_ fun b H7 _ e7 hb => ?_
        · cases pl with
          | none =>
            have e1 : lo = 1 := hlo.symm
            subst e1
            have e2 : m = 3 := hm0.symm
            subst e2
            have e3 : numsL 1 3 = (["1", "2", "3"] : List Str) := by decide +kernel
            rw [e3]
            exact el_ift (isn (Evl.ev_var rfl) rfl) (Evl.el_lst (Evl.ea_cons Evl.ev_c (Evl.ea_cons Evl.ev_c (Evl.ea_cons Evl.ev_c Evl.ea_nil))) (by show 3 ≤ 100000; omega))
          | some p =>
            have e1 : lo = p := hlo.symm
            subst e1
            have e2 : m = 1 := by
              rw [← hm0]
              show (lo + 1 - lo).toNat = 1
              omega
            subst e2
            have := hp lo rfl
            exact el_iff (isn (Evl.ev_var (v := .int lo) rfl) rfl) (Evl.el_lst (Evl.ea_cons (ev_digit (Evl.ev_var rfl) ⟨h0, by omega⟩) Evl.ea_nil) (by show 1 ≤ 100000; omega))
        have eF := (eD.trans e6).trans e7
        refine end_tail (K := K) (z := z) rfl rfl rfl rfl (Evl.ex_l eF hx) hb (fun u hu => ?_) (fun h => ?_) (fun _ h t H' e' hs => k t H' (eF.trans e') ?_) (fun r hr h hm t H' e' hs => k t H' (eF.trans e') ?_)
        · obtain ⟨r, a1, a2, a3⟩ := numsL_in hu
          exact ⟨r, by omega, by omega, a3⟩
        · cases m with
          | zero => exact absurd hmm (by decide)
          | succ m => cases h
        · rw [hE (.error (i + 1)) (fun z' hz' => by
            rw [hw] at hz'
            obtain rfl := Option.some.inj hz'
            unfold plainAt
            rw [if_neg ht, if_neg (fun q => q h4), hlo, numAt_err hm0 h]
            rfl) (fun h => by rw [hw] at h; cases h)]
          exact hs
        · rw [hE (.ok (mkPl z r)) (fun z' hz' => by
            rw [hw] at hz'
            obtain rfl := Option.some.inj hz'
            unfold plainAt
            rw [if_neg ht, if_neg (fun q => q h4), hlo, numAt_hit hm0 h hm h0 h9 hr]
            rfl) (fun h => by rw [hw] at h; cases h)]
          rw [if_neg nt] at hs
          show SqT K H' t [.int ((i + 2 : Nat) : Int), .int (placesK (mkPl z r))]
          rw [placesK_mkPl]
          exact hs
      · refine Evl.q_when (b := false) (Evl.et_is (tst4 H5 _) (decide_eq_false h4)) (fun z => nomatch z) (fun _ H6 e6 => ?_)
        have eF := eD.trans e6
        refine end_tail (K := K) (ns := []) (z := z) rfl rfl rfl rfl (Evl.ex_l eF hx) ((e5.trans e6) _ _ hb0) (fun u hu => nomatch hu) (fun h t H' e' hs => k t H' (eF.trans e') ?_) (fun h => absurd rfl h) (fun r hr h hm => nomatch hm)
        rw [hE (.error i) (fun z' hz' => by
          rcases hz with ⟨hw, _⟩ | ⟨hw, _, _⟩
          · rw [hw] at hz'
            obtain rfl := Option.some.inj hz'
            unfold plainAt
            rw [if_neg ht, if_pos h4]
          · rw [hw] at hz'
            cases hz') (fun _ => rfl)]
        exact hs
def dueV : Option Nat → V
  | some j => .int j
  | none => .non
def spDue (K : PySem.W.Frag) (n : Nat) : Sp := fun vs H Q _ => ∃ (a : Addr) (ws : List Str), vs = [.ref a] ∧ SqL K H a (ws.map V.str) ∧ ws.length ≤ 1000 ∧ ws.length ≤ n ∧ ∀ H', Ex H H' → Q (dueV (dueAt ws n)) H'
theorem due_body {f : Addr} {fd : FuncData} (F : Fun K "_law_due" "_law_due" s_due f fd) (T : TxS mg) (n : Nat) (D_end : DefAt P w K mg base "_law_end" (n + 1) ["_law_words_here", "_law_at", "_law_here"] (spEnd K n)) : FnOk P w K mg base CX0 (n + 2) f fd ["_law_words_here"] (spDue K n) := by
  refine F.ok sc_due (fun vs H Q E h => ?_) (fun cdv A outer s H vs Q E hr h => ?_)
  · obtain ⟨_, _, rfl, _⟩ := h
    rfl
  · obtain ⟨a, ws, rfl, hx, hl, hn, k⟩ := h
    refine ⟨_, (pss_cons (ps_set (i := 1) sc_due.nd rfl (by first | exact Or.inl rfl | exact Or.inr rfl) (pe_callD D_end (by first | exact hr | exact hr.mono (by decide) | exact hr.mono (by omega)) (by rfl) (pa_cons (pv 0) (pa_cons pe_int (pa_cons pe_non pa_nil)))))
    (pss_cons (ps_if (pt_cmp (pc_isN (pe_ix ix_tup (pv 1) pe_int (fun _ _ => rfl))) rfl) (pss_one (ps_ret (pe_ix ix_tup (pv 1) pe_int (fun _ _ => rfl)))) pss_nil)
    (pss_one (ps_ret (pe_ifExp (pt_cmpR op_lt (pe_ix ix_tup (pv 1) pe_int (fun _ _ => rfl)) (pe_callB call_len_seq (by rfl) T.m_len (by decide +kernel) (pa_cons (pv 0) pa_nil)) (nomark _)) (pe_ix ix_tup (pv 1) pe_int (fun _ _ => rfl)) pe_non))))), ?_⟩
    have isn : ∀ {te : TE} {σ : L2.St} {H1 : Hp} {v : V} {b : Bool}, Evl.Ev te σ H1 v → decide (v = .non) = b → Evl.EvT (tB (tIsN te)) σ H1 b := fun {te σ H1 v b} h e => Evl.et_B fun H2 e2 Q q => h H2 e2 _ fun H3 e3 => by
      show Q (.bl (decide (v = .non))) H3
      rw [e]
      exact q H3 e3
    refine cd_asg (Evl.ea_cons (Evl.ev_var (v := .ref a) rfl) (Evl.ea_cons Evl.ev_c (Evl.ea_cons Evl.ev_c Evl.ea_nil))) fun H1 e1 => ⟨a, ws, 0, none, rfl, Evl.ex_l e1 hx, hl, by omega, (fun p h => nomatch h), fun t H2 e2 ht => ?_⟩
    have eA := e1.trans e2
    unfold dueAt at k
    unfold endV at ht
    cases hk : kindAt ws n 0 none with
    | error j =>
      rw [hk] at k ht
      refine Evl.q_when (b := true) (isn (Evl.ev_op (Evl.ev_var (v := .ref t) rfl) Evl.ev_c (Evl.rv_ixT ht rfl)) rfl) (fun _ H3 e3 => ?_) (fun z => nomatch z)
      exact Evl.s_ret (Evl.ev_op (Evl.ev_var (v := .ref t) rfl) Evl.ev_c (Evl.rv_ixT (Evl.ex_t e3 ht) rfl)) fun H4 e4 => k H4 ((eA.trans e3).trans e4)
    | ok kj =>
      rw [hk] at k ht
      refine Evl.q_when (b := false) (isn (Evl.ev_op (Evl.ev_var (v := .ref t) rfl) Evl.ev_c (Evl.rv_ixT ht rfl)) rfl) (fun z => nomatch z) (fun _ H3 e3 => ?_)
      have i0 : ∀ H4, Ex H3 H4 → Evl.Ev (tOp (rIxT K) (tVar 1) (tC (.int 0))) [some (.ref a), some (.ref t)] H4 (.int kj.2) := fun H4 e4 => Evl.ev_op (Evl.ev_var (v := .ref t) rfl) Evl.ev_c (Evl.rv_ixT (Evl.ex_t (e3.trans e4) ht) rfl)
      have tl : Evl.EvT (tTest (tOp (rI0 fun i j => V.bl (decide (i < j))) (tOp (rIxT K) (tVar 1) (tC (.int 0))) (tCB (fun xs H Q => ∃ p ys, xs = [V.ref p] ∧ (SqL K H p ys ∨ SqT K H p ys) ∧ Q (V.int ys.length) H) (tCons (tVar 0) tNil)))) [some (.ref a), some (.ref t)] H3 (decide (kj.2 < ws.length)) :=
        Evl.et_is (Evl.et_test (Evl.ev_op (i0 H3 (Ex.refl _)) (ev_lenS (xs := ws.map V.str) (Evl.ev_var (v := .ref a) rfl) (.inl (Evl.ex_l (eA.trans e3) hx))) (Evl.rv_I0 (g := fun i j => .bl (decide (i < j)))))) (by rw [List.length_map]; exact decide_eq_decide.mpr (by omega))
      by_cases hj : kj.2 < ws.length
      · have k' : ∀ H', Ex H H' → Q (.int kj.2) H' := fun H' e' => by
          have := k H' e'
          dsimp only at this
          rw [if_pos hj] at this
          exact this
        exact Evl.s_ret (evv_ift (Evl.et_is tl (decide_eq_true hj)) (i0 H3 (Ex.refl _))) fun H4 e4 => k' H4 ((eA.trans e3).trans e4)
      · have k' : ∀ H', Ex H H' → Q .non H' := fun H' e' => by
          have := k H' e'
          dsimp only at this
          rw [if_neg hj] at this
          exact this
        exact Evl.s_ret (evv_iff (Evl.et_is tl (decide_eq_false hj)) Evl.ev_c) fun H4 e4 => k' H4 ((eA.trans e3).trans e4)
end
end U

set_option Elab.async false
set_option linter.all false
set_option maxRecDepth 100000
set_option maxHeartbeats 4000000
/-! words with something changed -/
namespace U
open PySem PySem.Spec PyProof.Rows L2
open Evl (Ex)
abbrev s_bent : Stmt := top 42
abbrev sc_bent_N : List Str := ["_law_draws", "_law_words_here", "_law_at", "_law_way", "_law_menu"]
theorem sc_bent : FnScope sc_bent_N ["_law_draws", "_law_words_here"] (defScope s_bent) := ⟨rfl, rfl, rfl, by decide +kernel, rfl, by decide +kernel, by decide +kernel⟩
/-- a word as the law draws it -/
def Wd (z : Str) : Prop := (32 : Nat) ∉ TL.tl z ∧ z.length ≤ 8 ∧ PyData.strOk z = true
def menu1 : List Str := ["", "halves", "turns", "boxes", "not", "both", "any", "either", "0", "1", "2", "3", "4", "6", "7", "01"]
def menu2 : List Str := ["+1", "-1", "Halves", "flats", "rising", "kinds", "2.", "none", "and", "2\t", "2\n"]
theorem menu_wd : ∀ z ∈ menu1 ++ menu2, (32 : Nat) ∉ TL.tl z ∧ z.length ≤ 8 ∧ PyData.strOk z = true := by decide +kernel
theorem cut_to {xs : List V} {n : Nat} : cutV xs none (some (n : Int)) = xs.take n := by
  unfold cutV
  rw [HT.sIx_nat]
  show (xs.drop 0).take (min n xs.length - 0) = _
  rw [List.drop_zero, Nat.sub_zero]
  by_cases h : n ≤ xs.length
  · rw [Nat.min_eq_left h]
  · rw [Nat.min_eq_right (by omega), List.take_of_length_le (by omega), List.take_of_length_le (by omega)]
theorem cut_from {xs : List V} {n : Nat} : cutV xs (some (n : Int)) none = xs.drop n := by
  unfold cutV
  rw [HT.sIx_nat]
  show (xs.drop (min n xs.length)).take (xs.length - min n xs.length) = _
  by_cases h : n ≤ xs.length
  · rw [Nat.min_eq_left h, List.take_of_length_le (by rw [List.length_drop]; omega)]
  · rw [Nat.min_eq_right (by omega), List.drop_of_length_le (by omega), List.drop_of_length_le (by omega), List.take_nil]
section
variable {K : PySem.W.Frag} {σ : L2.St} {H : Hp} {a l p : Addr} {xs ys : List V} {ta tb ti : TE} {n : Nat}
theorem el_to (h : Evl.Ev ta σ H (.ref a)) (hx : H a = some (.lst xs)) (hi : Evl.Ev ti σ H (.int (n : Int))) : Evl.EvL (tSl (rSlL K) ta tNoPart (tPart ti)) σ H (xs.take n) := fun H1 e Q q => h H1 e _ fun H2 e2 => by
  unfold tNoPart
  refine hi H2 (e.trans e2) _ fun H3 e3 => ⟨n, rfl, a, xs, rfl, SqL.of (((e.trans e2).trans e3) _ _ hx), fun p hp => q p _ (Evl.fresh_back (e2.trans e3) hp) ((e2.trans e3).trans (Ex.new hp)) (by rw [upd_same, cut_to])⟩
theorem el_from (h : Evl.Ev ta σ H (.ref a)) (hx : H a = some (.lst xs)) (hi : Evl.Ev ti σ H (.int (n : Int))) : Evl.EvL (tSl (rSlL K) ta (tPart ti) tNoPart) σ H (xs.drop n) := fun H1 e Q q => h H1 e _ fun H2 e2 => by
  refine hi H2 (e.trans e2) _ fun H3 e3 => ⟨n, rfl, ?_⟩
  unfold tNoPart
  exact ⟨a, xs, rfl, SqL.of (((e.trans e2).trans e3) _ _ hx), fun p hp => q p _ (Evl.fresh_back (e2.trans e3) hp) ((e2.trans e3).trans (Ex.new hp)) (by rw [upd_same, cut_from])⟩
theorem el_catV (h1 : Evl.Ev ta σ H (.ref p)) (hx : H p = some (.lst xs)) (h2 : Evl.EvL tb σ H ys) (hz : xs.length + ys.length ≤ 10000) : Evl.EvL (tOp rCat ta tb) σ H (xs ++ ys) := fun H1 e Q q => h1 H1 e _ fun H2 e2 => h2 H2 (e.trans e2) _ fun p2 H3 _ e3 hy =>
  ⟨p, p2, xs, ys, rfl, rfl, ((e.trans e2).trans e3) _ _ hx, hy, Evl.sz_of (by omega), fun r hr => q r _ (Evl.fresh_back (e2.trans e3) hr) ((e2.trans e3).trans (Ex.new hr)) upd_same⟩
theorem sl_draw {Q : VK} (s0 : σ[0]? = some (some (.ref l))) (s1 : σ[1]? = some (some (.ref a))) (hd : Dr n H l) (hn : n < 900000) (hal : a ≠ l) (hx : H a = some (.lst xs)) (k : ∀ (m : Nat) (p : Addr) H', m ≤ 2 → ExB l H H' → Dr (n + 1) H' l → p ≠ l → H' p = some (.lst (xs.take m)) → Q (.ref p) H') :
    tSl (rSlL K) (tVar 1) tNoPart (tPart (tOp (rI0 fun i j => V.int (i + j)) (tC (.int 1)) (tCallD spDraw (tCons (tVar 0) (tCons (tC (.int 2)) tNil))))) σ H Q := by
  refine ⟨_, s1, ?_⟩
  unfold tNoPart tPart
  dsimp only
  refine draw_run (n := n) (many := 2) s0 hd (by omega) Evl.ev_c (by decide) (by decide) fun r H1 r0 r1 hd1 b1 => ?_
  refine ⟨1, r, rfl, rfl, 1 + r, rfl, a, xs, rfl, SqL.of (b1 a _ hal hx), fun p hp => ?_⟩
  have hpl : p ≠ l := fun e => hd1.ne (by rw [← e]; exact hp)
  have em : (1 + r) = (((1 + r).toNat : Nat) : Int) := by omega
  rw [em, cut_to]
  exact k (1 + r).toNat p _ (by omega) (b1.trans (ExB.of (Ex.new hp))) (hd1.ex (Ex.new hp)) hpl upd_same
end
section
variable {P : Program} {w : World} {K : PySem.W.Frag} {mg : Str → Option Value} {base : Heap} {c : KC} {BT : Addr}
def spBentW : Sp := fun vs H Q _ => ∃ (l a : Addr) (n : Nat) (ws : List Str), vs = [.ref l, .ref a] ∧ a ≠ l ∧ Dr n H l ∧ n ≤ 100000 ∧ H a = some (.lst (ws.map V.str)) ∧ ws.length ≤ 100 ∧ (∀ z ∈ ws, Wd z) ∧ ∀ (b : Addr) (us : List Str) (H' : Hp), b ≠ l → ExB l H H' → Dr (n + 3) H' l → H' b = some (.lst (us.map V.str)) → us.length ≤ ws.length + 2 → (∀ z ∈ us, Wd z) → Q (.ref b) H'
theorem bent_body {f : Addr} {fd : FuncData} (F : Fun K "_law_bent" "_law_bent" s_bent f fd) (T : TxS mg) (D_draw : DefAt P w K mg base "_law_draw" 1 ["_law_draws", "_law_many"] spDraw) (D_pick : DefAt P w K mg base "_law_pick" 2 ["_law_draws", "_law_things"] (spPick K)) : FnOk P w K mg base CX0 3 f fd ["_law_draws", "_law_words_here"] spBentW := by
  refine F.ok sc_bent (fun vs H Q E h => ?_) (fun cdv A outer s H vs Q E hr h => ?_)
  · obtain ⟨_, _, _, _, rfl, _⟩ := h
    rfl
  · obtain ⟨l, a, n, ws, rfl, hal, hd, hn, hx, hl, hw, k⟩ := h
    refine ⟨_, (pss_cons (ps_par (i := 2) (j := 3) (by rfl) sc_bent.nd rfl rfl (by decide) rfl rfl (pa_cons (pe_callD D_draw (by first | exact hr | exact hr.mono (by decide) | exact hr.mono (by omega)) (by rfl) (pa_cons (pv 0) (pa_cons (pe_op op_add (pe_callB call_len_seq (by rfl) T.m_len (by decide +kernel) (pa_cons (pv 1) pa_nil)) pe_int) pa_nil))) (pa_cons (pe_callD D_draw (by first | exact hr | exact hr.mono (by decide) | exact hr.mono (by omega)) (by rfl) (pa_cons (pv 0) (pa_cons pe_int pa_nil))) pa_nil)) (by rfl))
    (pss_cons (ps_set (i := 4) sc_bent.nd rfl (by first | exact Or.inl rfl | exact Or.inr rfl) (pe_lst (pa_cons pe_str (pa_cons pe_str (pa_cons pe_str (pa_cons pe_str (pa_cons pe_str (pa_cons pe_str (pa_cons pe_str (pa_cons pe_str (pa_cons pe_str (pa_cons pe_str (pa_cons pe_str (pa_cons pe_str (pa_cons pe_str (pa_cons pe_str (pa_cons pe_str (pa_cons pe_str pa_nil))))))))))))))))))
    (pss_cons (ps_set (i := 4) sc_bent.nd rfl (by first | exact Or.inl rfl | exact Or.inr rfl) (pe_op op_cat (pv 4) (pe_lst (pa_cons pe_str (pa_cons pe_str (pa_cons pe_str (pa_cons pe_str (pa_cons pe_str (pa_cons pe_str (pa_cons pe_str (pa_cons pe_str (pa_cons pe_str (pa_cons pe_str (pa_cons pe_str pa_nil))))))))))))))
    (pss_cons (ps_if (pt_cmpR op_eq (pv 3) pe_int (nomark _)) (pss_one (ps_ret (pe_op op_cat (pe_slice sl_list (pv 1) po_none (po_some (pv 2))) (pe_slice sl_list (pv 1) (po_some (pe_op op_add (pv 2) pe_int)) po_none)))) pss_nil)
    (pss_cons (ps_if (pt_cmpR op_eq (pv 3) pe_int (nomark _)) (pss_one (ps_ret (pe_op op_cat (pe_op op_cat (pe_slice sl_list (pv 1) po_none (po_some (pv 2))) (pe_slice sl_list (pv 1) po_none (po_some (pe_op op_add pe_int (pe_callD D_draw (by first | exact hr | exact hr.mono (by decide) | exact hr.mono (by omega)) (by rfl) (pa_cons (pv 0) (pa_cons pe_int pa_nil))))))) (pe_slice sl_list (pv 1) (po_some (pv 2)) po_none)))) pss_nil)
    (pss_one (ps_ret (pe_op op_cat (pe_op op_cat (pe_slice sl_list (pv 1) po_none (po_some (pv 2))) (pe_lst (pa_cons (pe_callD D_pick (by first | exact hr | exact hr.mono (by decide) | exact hr.mono (by omega)) (by rfl) (pa_cons (pv 0) (pa_cons (pv 4) pa_nil))) pa_nil))) (pe_slice sl_list (pv 1) (po_some (pe_op op_sub (pe_op op_add (pv 2) (pv 3)) pe_int)) po_none))))))))), ?_⟩
    have D1 : Evl.Ev (tOp (rI0 fun i j => V.int (i + j)) (tCB (fun xs H Q => ∃ p ys, xs = [V.ref p] ∧ (SqL K H p ys ∨ SqT K H p ys) ∧ Q (V.int ys.length) H) (tCons (tVar 1) tNil)) (tC (.int 1))) (start sc_bent_N [.ref l, .ref a]) H (.int ((ws.length + 1 : Nat) : Int)) := Evl.ev_is (Evl.ev_op (ev_lenS (xs := ws.map V.str) (Evl.ev_var (v := .ref a) rfl) (.inl (SqL.of hx))) Evl.ev_c (Evl.rv_I0 (g := fun a b => .int (a + b)))) (congrArg V.int (by rw [List.length_map]; omega))
    refine draw_run (n := n) (many := ((ws.length + 1 : Nat) : Int)) (by rfl) hd (by omega) D1 (by omega) (by omega) fun r H1 r0 r1 hd1 b1 => ?_
    refine draw_run (n := n + 1) (many := 4) (by rfl) hd1 (by omega) Evl.ev_c (by decide) (by decide) fun r2 H2 r20 r21 hd2 b2 => ?_
    refine ⟨_, _, rfl, ?_⟩
    obtain ⟨i, rfl⟩ : ∃ i : Nat, r = i := ⟨r.toNat, by omega⟩
    obtain ⟨wy, rfl⟩ : ∃ wy : Nat, r2 = wy := ⟨r2.toNat, by omega⟩
    have hi : i ≤ ws.length := by omega
    have B2 : ExB l H H2 := b1.trans b2
    refine Evl.q_asgL (xs := menu1.map V.str) (Evl.el_lst (Evl.ea_cons Evl.ev_c (Evl.ea_cons Evl.ev_c (Evl.ea_cons Evl.ev_c (Evl.ea_cons Evl.ev_c (Evl.ea_cons Evl.ev_c (Evl.ea_cons Evl.ev_c (Evl.ea_cons Evl.ev_c (Evl.ea_cons Evl.ev_c (Evl.ea_cons Evl.ev_c (Evl.ea_cons Evl.ev_c (Evl.ea_cons Evl.ev_c (Evl.ea_cons Evl.ev_c (Evl.ea_cons Evl.ev_c (Evl.ea_cons Evl.ev_c (Evl.ea_cons Evl.ev_c (Evl.ea_cons Evl.ev_c Evl.ea_nil)))))))))))))))) (by show 16 ≤ 100000; omega)) fun t1 H3 ht1 e3 hx1 => ?_
    refine Evl.q_asgL (xs := menu1.map V.str ++ menu2.map V.str) (el_catV (Evl.ev_var rfl) hx1 (Evl.el_lst (Evl.ea_cons Evl.ev_c (Evl.ea_cons Evl.ev_c (Evl.ea_cons Evl.ev_c (Evl.ea_cons Evl.ev_c (Evl.ea_cons Evl.ev_c (Evl.ea_cons Evl.ev_c (Evl.ea_cons Evl.ev_c (Evl.ea_cons Evl.ev_c (Evl.ea_cons Evl.ev_c (Evl.ea_cons Evl.ev_c (Evl.ea_cons Evl.ev_c Evl.ea_nil))))))))))) (by show 11 ≤ 100000; omega)) (by decide)) fun t H4 ht e4 hxt => ?_
    have e34 := e3.trans e4
    have hd4 := hd2.ex e34
    have B4 : ExB l H H4 := B2.trans (ExB.of e34)
    have ha4 : H4 a = some (.lst (ws.map V.str)) := B4 a _ hal hx
    have htl : t ≠ l := fun e => (hd2.ex e3).ne (by rw [← e]; exact ht)
    rw [← List.map_append] at hxt
    clear hx1 ht1 e3 e4 e34 ht
    have v1 : ∀ H5, Evl.Ev (tVar 1) [some (.ref l), some (.ref a), some (.int i), some (.int wy), some (.ref t)] H5 (.ref a) := fun H5 => Evl.ev_var rfl
    have v2 : ∀ H5, Evl.Ev (tVar 2) [some (.ref l), some (.ref a), some (.int i), some (.int wy), some (.ref t)] H5 (.int i) := fun H5 => Evl.ev_var rfl
    have tq : ∀ (j : Int) H5, Evl.EvT (tTest (tOp rEq (tVar 3) (tC (.int j)))) [some (.ref l), some (.ref a), some (.int i), some (.int wy), some (.ref t)] H5 (decide ((wy : Int) = j)) := fun j H5 => Evl.et_is (Evl.et_test (Evl.ev_op (Evl.ev_var (v := .int wy) rfl) Evl.ev_c (Evl.rv_eq rfl))) (decide_eq_decide.mpr ⟨fun h => by injection h, fun h => by rw [h]⟩)
    have wTake : ∀ m, ∀ z ∈ ws.take m, Wd z := fun m z hz => hw z (List.mem_of_mem_take hz)
    have wDrop : ∀ m, ∀ z ∈ ws.drop m, Wd z := fun m z hz => hw z (List.mem_of_mem_drop hz)
    refine Evl.q_when (tq 0 H4) (fun hq H5 e5 => ?_) (fun hq H5 e5 => ?_)
    · have ha5 := e5 _ _ ha4
      refine Evl.s_retL (el_cat (el_to (v1 H5) ha5 (v2 H5)) (el_from (n := i + 1) (v1 H5) ha5 (Evl.ev_is (Evl.ev_op (v2 H5) Evl.ev_c (Evl.rv_I0 (g := fun a b => .int (a + b)))) (congrArg V.int (by omega)))) (by rw [List.length_take, List.length_drop, List.length_map]; omega)) fun b H6 hb e6 hxb => ?_
      have hbl : b ≠ l := fun e => (hd4.ex e5).ne (by rw [← e]; exact hb)
      refine k b (ws.take i ++ ws.drop (i + 1)) H6 hbl (B4.trans (ExB.of (e5.trans e6))) ((hd4.ex (e5.trans e6)).up (by omega)) (by rw [hxb, List.map_append, List.map_take, List.map_drop]) ?_ ?_
      · rw [List.length_append, List.length_take, List.length_drop]
        omega
      · exact fun z hz => (List.mem_append.mp hz).elim (wTake _ z) (wDrop _ z)
    refine Evl.q_when (tq 1 H5) (fun hq1 H6 e6 => ?_) (fun hq1 H6 e6 => ?_)
    · have ha6 := e6 _ _ (e5 _ _ ha4)
      have hd6 := hd4.ex (e5.trans e6)
      refine el_to (v1 H6) ha6 (v2 H6) H6 (Ex.refl _) _ fun p1 H7 hp1 e7 hx1 => ?_
      have hp1l : p1 ≠ l := fun e => hd6.ne (by rw [← e]; exact hp1)
      refine sl_draw (l := l) (n := n + 2) (by rfl) (by rfl) (hd6.ex e7) (by omega) hal (e7 _ _ ha6) fun m p2 H8 hm b8 hd8 hp2l hx2 => ?_
      have hx1' := b8 p1 _ hp1l hx1
      refine ⟨p1, p2, _, _, rfl, rfl, hx1', hx2, Evl.sz_of (by rw [List.length_take, List.length_take, List.length_map]; omega), fun p3 hp3 => ?_⟩
      have hp3l : p3 ≠ l := fun e => hd8.ne (by rw [← e]; exact hp3)
      have ha8 := b8 a _ hal (e7 _ _ ha6)
      have e9 := Ex.new (o := .lst ((ws.map V.str).take i ++ (ws.map V.str).take m)) hp3
      have h39 : upd H8 p3 (.lst ((ws.map V.str).take i ++ (ws.map V.str).take m)) p3 = some (.lst ((ws.map V.str).take i ++ (ws.map V.str).take m)) := upd_same
      generalize upd H8 p3 (.lst ((ws.map V.str).take i ++ (ws.map V.str).take m)) = H9 at e9 h39 ⊢
      refine el_from (v1 H9) (e9 _ _ ha8) (v2 H9) H9 (Ex.refl _) _ fun p4 H10 hp4 e10 hx4 => ?_
      refine ⟨p3, p4, _, _, rfl, rfl, e10 _ _ h39, hx4, Evl.sz_of (by simp only [List.length_append, List.length_take, List.length_drop, List.length_map]; omega), fun b hb => ?_⟩
      have hd10 := hd8.ex (e9.trans e10)
      have hbl : b ≠ l := fun e => hd10.ne (by rw [← e]; exact hb)
      refine k b (ws.take i ++ ws.take m ++ ws.drop i) _ hbl ((B4.trans (ExB.of ((e5.trans e6).trans e7))).trans (b8.trans (ExB.of ((e9.trans e10).trans (Ex.new hb))))) ((hd10.ex (Ex.new hb)).up (by omega)) (by rw [upd_same]; simp only [List.map_append, List.map_take, List.map_drop]) ?_ ?_
      · simp only [List.length_append, List.length_take, List.length_drop]
        omega
      · exact fun z hz => (List.mem_append.mp hz).elim (fun h => (List.mem_append.mp h).elim (wTake _ z) (wTake _ z)) (wDrop _ z)
    · have n0 : wy ≠ 0 := fun z => of_decide_eq_false hq (by rw [z]; rfl)
      have n1 : wy ≠ 1 := fun z => of_decide_eq_false hq1 (by rw [z]; rfl)
      have e56 := e5.trans e6
      have ha6 := e56 _ _ ha4
      have hd6 := hd4.ex e56
      have ht6 := e56 _ _ hxt
      refine el_to (v1 H6) ha6 (v2 H6) H6 (Ex.refl _) _ fun p1 H7 hp1 e7 hx1 => ?_
      have hp1l : p1 ≠ l := fun e => hd6.ne (by rw [← e]; exact hp1)
      have hd7 := hd6.ex e7
      refine ⟨_, rfl, _, rfl, l, t, (menu1 ++ menu2).map .str, n + 2, [l], rfl, hd7, by omega, List.mem_singleton.mpr rfl, .lst (SqL.of (w_of (by simp [htl]) (e7 _ _ ht6))) (dpa_strs _), by decide, by decide, fun v d o hdm hv hd8 => ?_⟩
      obtain ⟨z, hz, rfl⟩ := List.mem_map.mp hdm
      obtain rfl := dp_str hv
      have b8 : ExB l H7 (upd H7 l o) := ExB.upd
      generalize upd H7 l o = H8 at hv hd8 b8 ⊢
      refine ⟨by show 1 ≤ sizeLine; decide, fun p2 hp2 => ?_⟩
      have hp2l : p2 ≠ l := fun e => hd8.ne (by rw [← e]; exact hp2)
      have e9 := Ex.new (o := .lst [.str z]) hp2
      have h29 : upd H8 p2 (.lst [.str z]) p2 = some (.lst [.str z]) := upd_same
      generalize upd H8 p2 (.lst [.str z]) = H9 at e9 h29 ⊢
      have hx1' := e9 _ _ (b8 p1 _ hp1l hx1)
      refine ⟨p1, p2, _, _, rfl, rfl, hx1', h29, Evl.sz_of (by rw [List.length_take, List.length_map]; show _ + 1 ≤ _; omega), fun p3 hp3 => ?_⟩
      have ha9 := e9 _ _ (b8 a _ hal (e7 _ _ ha6))
      have e10 := Ex.new (o := .lst ((ws.map V.str).take i ++ [.str z])) hp3
      have h310 : upd H9 p3 (.lst ((ws.map V.str).take i ++ [.str z])) p3 = some (.lst ((ws.map V.str).take i ++ [.str z])) := upd_same
      generalize upd H9 p3 (.lst ((ws.map V.str).take i ++ [.str z])) = H10 at e10 h310 ⊢
      refine el_from (n := i + wy - 2) (v1 H10) (e10 _ _ ha9) (Evl.ev_is (Evl.ev_op (Evl.ev_op (v2 H10) (Evl.ev_var (v := .int wy) rfl) (Evl.rv_I0 (g := fun a b => .int (a + b)))) Evl.ev_c (Evl.rv_I0 (g := fun a b => .int (a - b)))) (congrArg V.int (by omega))) H10 (Ex.refl _) _ fun p4 H11 hp4 e11 hx4 => ?_
      refine ⟨p3, p4, _, _, rfl, rfl, e11 _ _ h310, hx4, Evl.sz_of (by simp only [List.length_append, List.length_take, List.length_drop, List.length_map, List.length_singleton]; omega), fun b hb => ?_⟩
      have hd11 := hd8.ex ((e9.trans e10).trans e11)
      have hbl : b ≠ l := fun e => hd11.ne (by rw [← e]; exact hb)
      refine k b (ws.take i ++ [z] ++ ws.drop (i + wy - 2)) _ hbl ((B4.trans (ExB.of (e56.trans e7))).trans (b8.trans (ExB.of (((e9.trans e10).trans e11).trans (Ex.new hb))))) ((hd11.ex (Ex.new hb)).up (by omega)) (by rw [upd_same]; simp only [List.map_append, List.map_take, List.map_drop, List.map_cons, List.map_nil]) ?_ ?_
      · simp only [List.length_append, List.length_take, List.length_drop, List.length_singleton]
        omega
      · exact fun u hu => (List.mem_append.mp hu).elim (fun h => (List.mem_append.mp h).elim (wTake _ u) (fun q => by rw [List.mem_singleton.mp q]; exact menu_wd z hz)) (wDrop _ u)
end
end U

set_option Elab.async false
set_option linter.all false
set_option maxRecDepth 100000
set_option maxHeartbeats 4000000
/-! what is read, or refused -/
namespace U
open PySem PySem.Spec PyProof.Rows L2
open Evl (Ex)
abbrev s_met : Stmt := top 43
abbrev sc_met_N : List Str := ["_law_text", "e"]
theorem sc_met : FnScope sc_met_N ["_law_text"] (defScope s_met) := ⟨rfl, rfl, rfl, by decide +kernel, rfl, by decide +kernel, by decide +kernel⟩
theorem at_len {ws us : List Str} (h : At ws 0 us) : us.length ≤ ws.length := by
  cases us with
  | nil => exact Nat.zero_le _
  | cons u us =>
    have := h us.length ((u :: us)[us.length]'(by simp)) (List.getElem?_eq_getElem (by simp))
    have := (List.getElem?_eq_some_iff.mp this).1
    rw [List.length_cons]
    omega
def metV (ws : List Str) (N : Nat) : List V := match kindAt ws N 0 none with
  | .ok kj => if kj.2 < ws.length then [.str "bad", .int kj.2] else [.str "told", .str (textK kj.1)]
  | .error j => [.str "bad", .int j]
theorem exm_own {K : PySem.W.Frag} {C : Addr} (h1 : PySem.W.subIn K (.ref C) (.type "BaseException") = some true) (h2 : PySem.W.isClsIn K C = true) (h3 : PySem.W.typeIn K (.ref C) = some (.type "type")) (h4 : PySem.W.subIn K (.ref C) (.ref C) = some true) : PySem.W.exmOne K (.ref C) (.ref C) = some true := by
  have a : (PySem.W.subIn K (.ref C) (.type "BaseException") == some true) = true := by rw [h1]; rfl
  have h2' : (PySem.W.clsIn K C).isSome = true := h2
  have b : ((PySem.W.clsIn K C).isSome && PySem.W.typeIn K (.ref C) == some (.type "type")) = true := by rw [h2', h3]; rfl
  unfold PySem.W.exmOne
  simp only [a, if_true]
  show (if ((PySem.W.clsIn K C).isSome && PySem.W.typeIn K (.ref C) == some (.type "type")) = true then PySem.W.subIn K (.ref C) (.ref C) else none) = _
  rw [if_pos b]
  exact h4
section
variable {P : Program} {w : World} {K : PySem.W.Frag} {mg : Str → Option Value} {base : Heap} {c : KC} {BT : Addr}
def spMet (N : Nat) : Sp := fun vs H Q _ => ∃ x : Str, vs = [.str x] ∧ x.length ≤ 100000 ∧ (Txt.split x " ").length ≤ N ∧ ∀ t H', Ex H H' → H' t = some (.tup (metV (Txt.split x " ") N)) → Q (.ref t) H'
theorem pe_callXS {X : Cx} {x : Str} {k : Nat} {ps : List Str} {sp : Sp} {p pos : Pos} {e : Expr} {es : List Expr} {t : TA} {E : L2.St → XK} (D : DefX X.prog X.w X.K X.mg X.base x k ps sp) (hr : Room k X.A) (hx : ∀ σ, PassesAt (CX X.prog X.w) X σ (E σ)) (hg : Gl X x) (ha : PA X (e :: es) t)
    (hdb : (x == ("__debug__" : Str)) = false := by decide) (he : starEach (e :: es) X.env = (false, eval e X.env) :: starEach es X.env := by rfl) (hpl : (backTo pos (starEach es X.env)).any (·.1) = false := by rfl) :
    PE X (.Call (.Name x p) (e :: es) [] pos) (tCallS sp E t) := by
  obtain ⟨f, fd, F, hm, hk, hb⟩ := D.ex
  exact pe_callS F hr hg hm hk hb hx ha hdb he hpl
theorem met_body {f : Addr} {fd : FuncData} (F : Fun K "_law_met" "_law_met" s_met f fd) (R : BadT P w K mg base BT) (XM : PySem.W.exmOne K (.ref BT) (.ref BT) = some true) (N : Nat) (hN : N ≤ 1000) (MT : TextM P w K mg base c N) (D_read : DefX P w K mg base "read_kind" (N + 8) ["text"] (spRead K c BT N)) : FnOk P w K mg base CX0 (N + 9) f fd ["_law_text"] (spMet N) := by
  refine F.ok sc_met (fun vs H Q E h => ?_) (fun cdv A outer s H vs Q E hr h => ?_)
  · obtain ⟨_, rfl, _⟩ := h
    rfl
  · obtain ⟨x, rfl, hz, hl, k⟩ := h
    refine ⟨_, pss_one (ps_try_as (i := 1) (tb := fun W => tRet (tTup (tCons (tC (.str "told")) (tCons (tText K c N (tCallS (spRead K c BT N) (WE W) (tCons (tVar 0) tNil))) tNil)))) (ts := fun a cls d => tRet (tTup (tCons (tC (.str "bad")) (tCons (tXf a cls d BT "index" (tVar 1)) tNil)))) (Wout := fun _ _ _ _ => False) rfl rfl sc_met.nd rfl rfl ⟨rfl, by decide, .inl R.gC⟩ takes0
      (fun W pn xe tk _ => pss_one (ps_ret (pe_tup (pa_cons pe_str (pa_cons (pe_text (j := N + 8) MT hr (by omega) (pe_callXS D_read hr (fun σ => passAt tk σ) rfl (pa_cons (pv 0) pa_nil))) pa_nil)))))
      (fun a oe cls d pn hz hf => pss_one (ps_ret (pe_tup (pa_cons pe_str (pa_cons (pe_xf R.xf R.no hz hf (pv 1)) pa_nil)))))), ?_⟩
    have hid0 : Hid [] H := fun a m => nomatch m
    have suite : ∀ (j : Int) (d a : Addr) H2, Ex H H2 → H2 d = some (.xd [(("index" : Str), .int j)]) → (∀ t H', Ex H H' → H' t = some (.tup [.str "bad", .int j]) → Q (.ref t) H') → tRet (tTup (tCons (tC (.str "bad")) (tCons (tXf a (.ref BT) (some d) BT "index" (tVar 1)) tNil))) { nx := fun _ _ => True, rt := Q } [some (.str x), some (.ref a)] H2 := fun j d a H2 e2 hx2 kk => by
      refine ⟨_, rfl, rfl, rfl, d, _, .int j, rfl, hx2, rfl, by show 2 ≤ sizeLine; decide, fun t ht => ?_⟩
      exact kk t _ (e2.trans (Ex.new ht)) upd_same
    unfold metV at k
    cases hk : kindAt (Txt.split x " ") N 0 none with
    | error j =>
      rw [hk] at k
      refine ⟨.ha, trivial, _, rfl, x, [], rfl, hz, hl, hid0, ?_⟩
      rw [hk]
      intro d H2 hd e2 hx2
      exact ⟨true, XM, fun _ a ha => suite j d a H2 e2 hx2 k, fun q => Bool.noConfusion q⟩
    | ok kj =>
      rw [hk] at k
      dsimp only at k
      by_cases hj : kj.2 < (Txt.split x " ").length
      · rw [if_pos hj] at k
        refine ⟨.ha, trivial, _, rfl, x, [], rfl, hz, hl, hid0, ?_⟩
        rw [hk]
        dsimp only
        rw [if_pos hj]
        intro d H2 hd e2 hx2
        exact ⟨true, XM, fun _ a ha => suite kj.2 d a H2 e2 hx2 k, fun q => Bool.noConfusion q⟩
      · rw [if_neg hj] at k
        refine ⟨kiOf kj.1, trivial, _, rfl, x, [], rfl, hz, hl, hid0, ?_⟩
        rw [hk]
        dsimp only
        rw [if_neg hj]
        intro y H2 e2 hy
        rw [w_nil] at hy
        obtain ⟨k1, j1⟩ := kj
        obtain ⟨_, hA, hd⟩ := kindAt_back hk
        obtain ⟨_, p, p1, p3, ok, _⟩ := kindAt_ok (pl := none) (fun q h => nomatch h) hk
        obtain ⟨dx, fs, hx, hf⟩ := hy.insT
        have hlen := at_len hA
        refine ⟨y, dx, fs, rfl, hx, hf, y, k1, rfl, hy, rfl, hd, smK_ofT ok p1 p3, by show (wordsK k1).length ≤ 1000; omega, fun H3 e3 => ?_⟩
        refine ⟨by show 2 ≤ sizeLine; decide, fun t ht => ?_⟩
        exact k t _ ((e2.trans e3).trans (Ex.new ht)) upd_same
end
end U

set_option Elab.async false
set_option linter.all false
set_option maxRecDepth 100000
set_option maxHeartbeats 4000000
/-! the law -/
namespace U
open PySem PySem.Spec PyProof.Rows L2
open Evl (Ex)
abbrev s_law : Stmt := top 44
abbrev sc_law_N : List Str := ["_law_script", "_law_turn", "_law_draws", "_law_words_here", "_law_again", "_law_row", "_law_due_here", "_law_text"]
theorem sc_law : FnScope sc_law_N ["_law_script"] (defScope s_law) := ⟨rfl, rfl, rfl, by decide +kernel, rfl, by decide +kernel, by decide +kernel⟩
theorem word_ok : ∀ {k : Kd}, smK k → ∀ z ∈ wordsK k, PyData.strOk z = true := by
  have num : ∀ {p : Int}, 0 ≤ p ∧ p ≤ 9 → PyData.strOk ((toString p : String) : Str) = true := fun {p} hp => by
    have cp : p = 0 ∨ p = 1 ∨ p = 2 ∨ p = 3 ∨ p = 4 ∨ p = 5 ∨ p = 6 ∨ p = 7 ∨ p = 8 ∨ p = 9 := by omega
    rcases cp with rfl | rfl | rfl | rfl | rfl | rfl | rfl | rfl | rfl | rfl <;> decide +kernel
  intro k
  induction k with
  | no k ih =>
    intro h z hz
    rcases List.mem_cons.mp hz with rfl | hz
    · decide +kernel
    · exact ih h z hz
  | both k m ih1 ih2 =>
    intro h z hz
    rcases List.mem_cons.mp hz with rfl | hz
    · decide +kernel
    · exact (List.mem_append.mp hz).elim (ih1 h.1 z) (ih2 h.2 z)
  | either k m ih1 ih2 =>
    intro h z hz
    rcases List.mem_cons.mp hz with rfl | hz
    · decide +kernel
    · exact (List.mem_append.mp hz).elim (ih1 h.1 z) (ih2 h.2 z)
  | any k m ih1 ih2 =>
    intro h z hz
    rcases List.mem_cons.mp hz with rfl | hz
    · decide +kernel
    · exact (List.mem_append.mp hz).elim (ih1 h.1 z) (ih2 h.2 z)
  | _ =>
    intro h z hz
    rcases List.mem_cons.mp hz with rfl | hz
    · decide +kernel
    · rw [List.mem_singleton.mp hz]
      exact num h
theorem due_some {ws : List Str} {N j : Nat} (h : dueAt ws N = some j) : metV ws N = [.str "bad", .int j] := by
  unfold dueAt at h
  unfold metV
  cases hk : kindAt ws N 0 none with
  | error i =>
    rw [hk] at h
    obtain rfl := Option.some.inj h
    rfl
  | ok kj =>
    rw [hk] at h
    dsimp only at h ⊢
    split at h
    · obtain rfl := Option.some.inj h
      rw [if_pos (by assumption)]
    · cases h
theorem due_none {ws : List Str} {N : Nat} (h : dueAt ws N = none) : metV ws N = [.str "told", .str (Str.join " " ws)] := by
  unfold dueAt at h
  unfold metV
  cases hk : kindAt ws N 0 none with
  | error i =>
    rw [hk] at h
    cases h
  | ok kj =>
    rw [hk] at h
    dsimp only at h ⊢
    split at h
    · cases h
    · rename_i hj
      rw [if_neg hj]
      obtain ⟨k, j⟩ := kj
      obtain ⟨a, b, _⟩ := kindAt_back hk
      have e : wordsK k = ws := at_all b (by dsimp only at hj; omega)
      show [V.str "told", V.str (Str.join " " (wordsK k))] = _
      rw [e]
theorem met_nil : metV (Txt.split (Str.join " " ([] : List Str)) " ") 40 = [.str "bad", .int 0] := by
  have e : Txt.split (Str.join " " ([] : List Str)) " " = [("" : Str)] := by decide +kernel
  rw [e]
  rfl
theorem split_row {ws : List Str} (h : ws ≠ []) (hw : ∀ z ∈ ws, Wd z) : Txt.split (Str.join " " ws) " " = ws := by
  have := TL.split_join (y := " ") (s := 32) (S := []) rfl (by decide +kernel) h fun z hz => (hw z hz).1
  rw [TL.join_eq] at this
  exact this
theorem row_len {ws : List Str} (hl : ws.length ≤ 40) (hw : ∀ z ∈ ws, Wd z) : (ws.map (·.length)).sum + ws.length * (" " : Str).length ≤ 360 ∧ (Str.join " " ws).length ≤ 360 := by
  have h1 := StrLaws.join_length_le " " ws
  have h2 := sum_le (·.length) 8 ws fun z hz => (hw z hz).2.1
  have h3 : (" " : Str).length = 1 := by decide
  have h4 : (Str.join " " ws).length ≤ (List.map (fun x => x.length) ws).sum + ws.length * (" " : Str).length := h1
  rw [h3] at h4 ⊢
  exact ⟨by omega, by omega⟩
theorem draw_runJ {σ : L2.St} {H : Hp} {l : Addr} {n j : Nat} {tm : TE} {many : Int} {Q : VK} (h0 : σ[j]? = some (some (.ref l))) (hd : Dr n H l) (hn : n < 1000000) (hm : Evl.Ev tm σ H (.int many)) (m0 : 0 < many) (m1 : many < 1073741824)
    (k : ∀ r H', 0 ≤ r → r < many → Dr (n + 1) H' l → ExB l H H' → Q (.int r) H') : tCallD spDraw (tCons (tVar j) (tCons tm tNil)) σ H Q :=
  ⟨_, h0, hm H (Ex.refl H) _ fun H1 e1 => ⟨l, many, n, rfl, hd.ex e1, hn, m0, m1, fun r o r0 r1 hd' => k r _ r0 r1 hd' ((ExB.of e1).trans ExB.upd)⟩⟩
theorem ev_min2 {te tb : TE} {σ : L2.St} {H : Hp} {i j : Int} (h : Evl.Ev te σ H (.int i)) (h2 : Evl.Ev tb σ H (.int j)) : Evl.Ev (tCB (fun xs H Q => ∃ i j, xs = [V.int i, V.int j] ∧ Q (.int (if j < i then j else i)) H) (tCons te (tCons tb tNil))) σ H (.int (if j < i then j else i)) := fun H1 e Q q => h H1 e _ fun H2 e2 => h2 H2 (e.trans e2) _ fun H3 e3 => ⟨i, j, rfl, q H3 (e2.trans e3)⟩
theorem same_ev {K : PySem.W.Frag} {σ : L2.St} {H : Hp} {te tf : TE} {d : PyData} {n : Nat} (h1 : EvD K [] te σ H d) (h2 : EvD K [] tf σ H d) (hf : fits n d) : Evl.Ev (tCallD (spSame K n) (tCons te (tCons tf tNil))) σ H (.bl true) := fun H1 e Q q =>
  h1 H1 e _ fun v H2 e2 hv => h2 H2 (e.trans e2) _ fun w H3 e3 hw => ⟨v, w, d, rfl, (hv.up (w_ex e3)).up w_sub, hw.up w_sub, hf, fun H4 e4 => q H4 ((e2.trans e3).trans e4)⟩
/-- at b a row of words, not the draws -/
structure Row (l b : Addr) (us : List Str) (m : Nat) (H : Hp) : Prop where
  ne : b ≠ l
  at_ : H b = some (.lst (us.map V.str))
  len : us.length ≤ m
  wd : ∀ z ∈ us, Wd z
theorem Row.exB {l b : Addr} {us : List Str} {m : Nat} {H H' : Hp} (r : Row l b us m H) (e : ExB l H H') : Row l b us m H' := ⟨r.ne, e _ _ r.ne r.at_, r.len, r.wd⟩
theorem bent_run {l b : Addr} {us : List Str} {m n : Nat} {H : Hp} {Q : VK} (r : Row l b us m H) (hm : m ≤ 100) (hd : Dr n H l) (hn : n ≤ 100000) (k : ∀ b' us' H', ExB l H H' → Dr (n + 3) H' l → Row l b' us' (m + 2) H' → Q (.ref b') H') : spBentW [.ref l, .ref b] H Q E0 :=
  ⟨l, b, n, us, rfl, r.ne, hd, hn, r.at_, Nat.le_trans r.len hm, r.wd, fun b' us' H' q1 q2 q3 q4 q5 q6 => k b' us' H' q2 q3 ⟨q1, q4, by have := r.len; omega, q6⟩⟩
theorem evd_ifB {K : PySem.W.Frag} {L : List Addr} {σ : L2.St} {H : Hp} {t : TT} {ta tb : TE} {d : PyData} {b : Bool} (h : Evl.EvT t σ H b) (h1 : b = true → EvD K L ta σ H d) (h2 : b = false → EvD K L tb σ H d) : EvD K L (tIf t ta tb) σ H d := fun H1 e Q q => h H1 e _ fun H2 e2 => by
  cases b with
  | true =>
    rw [if_pos rfl]
    exact h1 rfl H2 (e.trans e2) Q fun v H3 e3 => q v H3 (e2.trans e3)
  | false =>
    rw [if_neg Bool.false_ne_true]
    exact h2 rfl H2 (e.trans e2) Q fun v H3 e3 => q v H3 (e2.trans e3)
section
variable {l p : Addr} {s0 s1 o5 o6 o7 : Option V} {j n : Nat} {H : Hp} {us : List Str} {D : Ends} {tz : TS}
theorem row1_run (R : Row l p us 11 H) (hd : Dr n H l) (hn : n ≤ 100000) (k : ∀ b us' H', ExB l H H' → Dr (n + 3) H' l → Row l b us' 13 H' → tz D [s0, s1, some (.ref l), some (.ref p), some (.int j), some (.ref b), o6, o7] H') :
    tSeq (tAsg (tIf (tTest (tOp rEq (tVar 4) (tC (.int 0)))) (tVar 3) (tCallD spBentW (tCons (tVar 2) (tCons (tVar 3) tNil)))) (gName 5)) tz D [s0, s1, some (.ref l), some (.ref p), some (.int j), o5, o6, o7] H := by
  have tq : Evl.EvT (tTest (tOp rEq (tVar 4) (tC (.int 0)))) [s0, s1, some (.ref l), some (.ref p), some (.int j), o5, o6, o7] H (decide (j = 0)) := Evl.et_is (Evl.et_test (Evl.ev_op (Evl.ev_var (v := .int j) rfl) Evl.ev_c (Evl.rv_eq rfl))) (decide_eq_decide.mpr ⟨fun h => by injection h with h; omega, fun h => by rw [h]; rfl⟩)
  refine tq H (Ex.refl _) _ fun H1 e1 => ?_
  have R1 := R.exB (ExB.of e1)
  have d1 := hd.ex e1
  by_cases h : j = 0
  · rw [if_pos (decide_eq_true h)]
    exact ⟨_, rfl, k p us H1 (ExB.of e1) (d1.up (by omega)) ⟨R1.ne, R1.at_, by have := R1.len; omega, R1.wd⟩⟩
  · rw [if_neg (by simp [h])]
    refine ⟨_, rfl, _, rfl, ?_⟩
    exact bent_run (Q := fun x H1 => tz D [s0, s1, some (.ref l), some (.ref p), some (.int j), some x, o6, o7] H1) R1 (by decide) d1 hn fun b us' H2 b2 d2 R2 => k b us' H2 ((ExB.of e1).trans b2) d2 R2
theorem row2_run {b : Addr} (R : Row l b us 13 H) (hd : Dr n H l) (hn : n ≤ 100000) (k : ∀ b us' H', ExB l H H' → Dr (n + 3) H' l → Row l b us' 15 H' → tz D [s0, s1, some (.ref l), some (.ref p), some (.int j), some (.ref b), o6, o7] H') :
    tSeq (tIfS (tTest (tOp (rI0 fun i j => V.bl (decide (j < i))) (tVar 4) (tC (.int 3)))) (tAsg (tCallD spBentW (tCons (tVar 2) (tCons (tVar 5) tNil))) (gName 5)) tNext) tz D [s0, s1, some (.ref l), some (.ref p), some (.int j), some (.ref b), o6, o7] H := by
  refine Evl.q_when (b := decide (3 < j)) (Evl.et_is (Evl.et_test (Evl.ev_op (Evl.ev_var (v := .int j) rfl) Evl.ev_c (Evl.rv_I0 (g := fun i j => .bl (decide (j < i)))))) (decide_eq_decide.mpr (by omega))) (fun _ H1 e1 => ?_) (fun _ H1 e1 => ?_)
  · refine ⟨_, rfl, _, rfl, ?_⟩
    exact bent_run (Q := fun x H1 => tz D [s0, s1, some (.ref l), some (.ref p), some (.int j), some x, o6, o7] H1) (R.exB (ExB.of e1)) (by decide) (hd.ex e1) hn fun b us' H2 b2 d2 R2 => k b us' H2 ((ExB.of e1).trans b2) d2 R2
  · have R1 := R.exB (ExB.of e1)
    exact k b us H1 (ExB.of e1) ((hd.ex e1).up (by omega)) ⟨R1.ne, R1.at_, by have := R1.len; omega, R1.wd⟩
end
section
variable {P : Program} {w : World} {K : PySem.W.Frag} {mg : Str → Option Value} {base : Heap} {c : KC} {BT : Addr}
def spLaw43 (K : PySem.W.Frag) : Sp := fun vs H Q _ => ∃ (sa : Addr) (ns : List Int), vs = [.ref sa] ∧ SqL K H sa (ns.map V.int) ∧ ns.length ≤ 63 ∧ ∀ H', Ex H H' → Q (.bl true) H'
theorem law_body {f : Addr} {fd : FuncData} (F : Fun K "law" "law" s_law f fd) (T : TxS mg) (D_source : DefAt P w K mg base "_law_source" 1 ["_law_script", "_law_at"] (spSource K)) (D_draw : DefAt P w K mg base "_law_draw" 1 ["_law_draws", "_law_many"] spDraw)
    (D_spec : DefAt P w K mg base "_law_spec" 8 ["_law_draws", "_law_places", "_law_deep"] (spJoint K 2)) (D_words : DefAt P w K mg base "_law_words" 5 ["_law_spec_here"] (spWords K 4)) (D_bent : DefAt P w K mg base "_law_bent" 3 ["_law_draws", "_law_words_here"] spBentW)
    (D_due : DefAt P w K mg base "_law_due" 42 ["_law_words_here"] (spDue K 40)) (D_met : DefAt P w K mg base "_law_met" 49 ["_law_text"] (spMet 40)) (D_same : DefAt P w K mg base "_law_same" 3 ["_law_found", "_law_due_here"] (spSame K 2)) : FnOk P w K mg base CX0 60 f fd ["_law_script"] (spLaw43 K) := by
  refine F.ok sc_law (fun vs H Q E h => ?_) (fun cdv A outer s H vs Q E hr h => ?_)
  · obtain ⟨_, _, rfl, _⟩ := h
    rfl
  · obtain ⟨sa, ns, rfl, hS, hl, k⟩ := h
    refine ⟨_, (pss_cons (ps_for PassesOwn.never rfl (pi_range1 (by rfl) T.m_range (pa_cons (pe_op op_add pe_int (pe_callB (call_min2 rfl) (by rfl) T.m_min (by decide +kernel) (pa_cons (pe_callB call_len_seq (by rfl) T.m_len (by decide +kernel) (pa_cons (pv 0) pa_nil)) (pa_cons pe_int pa_nil)))) pa_nil)) (pg_name (i := 1) sc_law.nd rfl (by first | exact Or.inl rfl | exact Or.inr rfl))
      (pss_cons (ps_set (i := 2) sc_law.nd rfl (by first | exact Or.inl rfl | exact Or.inr rfl) (pe_callD D_source (by first | exact hr | exact hr.mono (by decide) | exact hr.mono (by omega)) (by rfl) (pa_cons (pv 0) (pa_cons (pv 1) pa_nil))))
      (pss_cons (ps_set (i := 3) sc_law.nd rfl (by first | exact Or.inl rfl | exact Or.inr rfl) (pe_callD D_words (by first | exact hr | exact hr.mono (by decide) | exact hr.mono (by omega)) (by rfl) (pa_cons (pe_callD D_spec (by first | exact hr | exact hr.mono (by decide) | exact hr.mono (by omega)) (by rfl) (pa_cons (pv 2) (pa_cons (pe_op op_add pe_int (pe_callD D_draw (by first | exact hr | exact hr.mono (by decide) | exact hr.mono (by omega)) (by rfl) (pa_cons (pv 2) (pa_cons pe_int pa_nil)))) (pa_cons pe_int pa_nil)))) pa_nil)))
      (pss_one (ps_for PassesOwn.never rfl (pi_range1 (by rfl) T.m_range (pa_cons pe_int pa_nil)) (pg_name (i := 4) sc_law.nd rfl (by first | exact Or.inl rfl | exact Or.inr rfl))
        (pss_cons (ps_set (i := 5) sc_law.nd rfl (by first | exact Or.inl rfl | exact Or.inr rfl) (pe_ifExp (pt_cmpR op_eq (pv 4) pe_int (nomark _)) (pv 3) (pe_callD D_bent (by first | exact hr | exact hr.mono (by decide) | exact hr.mono (by omega)) (by rfl) (pa_cons (pv 2) (pa_cons (pv 3) pa_nil)))))
        (pss_cons (ps_if (pt_cmpR op_gt (pv 4) pe_int (nomark _)) (pss_one (ps_set (i := 5) sc_law.nd rfl (by first | exact Or.inl rfl | exact Or.inr rfl) (pe_callD D_bent (by first | exact hr | exact hr.mono (by decide) | exact hr.mono (by omega)) (by rfl) (pa_cons (pv 2) (pa_cons (pv 5) pa_nil))))) pss_nil)
        (pss_cons (ps_par (i := 6) (j := 7) (by rfl) sc_law.nd rfl rfl (by decide) rfl rfl (pa_cons (pe_callD D_due (by first | exact hr | exact hr.mono (by decide) | exact hr.mono (by omega)) (by rfl) (pa_cons (pv 5) pa_nil)) (pa_cons (pe_m1 PySem.F.slot_str_join PySem.F.type_str_join mt_join pe_str (pv 5)) pa_nil)) (by rfl))
        (pss_cons (ps_if (pt_cmpR (op_eqD hr.units) (pv 5) (pe_lst pa_nil) (nomark _)) (pss_one (ps_set (i := 6) sc_law.nd rfl (by first | exact Or.inl rfl | exact Or.inr rfl) pe_int)) pss_nil)
        (pss_one (ps_if (pt_not (pt_val (pe_callD D_same (by first | exact hr | exact hr.mono (by decide) | exact hr.mono (by omega)) (by rfl) (pa_cons (pe_callD D_met (by first | exact hr | exact hr.mono (by decide) | exact hr.mono (by omega)) (by rfl) (pa_cons (pv 7) pa_nil)) (pa_cons (pe_ifExp (pt_cmp (pc_isN (pv 6)) rfl) (pe_tup (pa_cons pe_str (pa_cons (pv 7) pa_nil))) (pe_tup (pa_cons pe_str (pa_cons (pv 6) pa_nil)))) pa_nil))))) (pss_one (ps_ret pe_bl)) pss_nil)))))))))))
    (pss_one (ps_ret pe_bl))), ?_⟩
    obtain ⟨m, hm, h0, h10⟩ : ∃ m : Int, (3 + (if (4 : Int) < (ns.map V.int).length then (4 : Int) else ((ns.map V.int).length : Int))) = m ∧ 0 ≤ m ∧ m ≤ 10 := ⟨_, rfl, by split <;> omega, by split <;> omega⟩
    refine Evl.q_forR1 (n := m) (Evl.ea_cons (Evl.ev_is (Evl.ev_op (x := .int 3) Evl.ev_c (ev_min2 (ev_lenS (xs := ns.map V.int) (Evl.ev_var (v := .ref sa) rfl) (.inl hS)) Evl.ev_c) Evl.rv_I0) (congrArg V.int hm)) Evl.ea_nil) ⟨h0, by omega⟩ (fun _ σ' H' => Ex H H' ∧ ∃ o1 o2 o3 o4 o5 o6 o7, σ' = [some (.ref sa), o1, o2, o3, o4, o5, o6, o7]) (fun H1 e => ⟨e, _, _, _, _, _, _, _, rfl⟩) ?_ ?_
    · rintro i σ' H1 hi ⟨e1, o1, o2, o3, o4, o5, o6, o7, rfl⟩
      refine ⟨_, rfl, _, rfl, sa, ns, i, rfl, Evl.ex_l e1 hS, hl, by omega, fun l o hl' hd => ?_⟩
      have hl0 : H l = none := Evl.fresh_back e1 hl'
      have e2 : Ex H (upd H1 l o) := e1.trans (Ex.new hl')
      generalize upd H1 l o = H2 at hd e2 ⊢
      have ml : l ∈ [l] := List.mem_singleton.mpr rfl
      refine ⟨_, rfl, ?_⟩
      refine draw_runJ (j := 2) (n := 0) (l := l) (many := 3) (by rfl) hd (by decide) Evl.ev_c (by decide) (by decide) fun r1 H3 r10 r11 d3 b3 => ?_
      refine ⟨_, _, rfl, rfl, l, 1 + r1, 1, [l], rfl, d3, by decide, ml, fun a m => by rw [List.mem_singleton.mp m]; exact d3.ne, by omega, by omega, fun vk kd H4 b4 d4 ok dk hk => ?_⟩
      have hsm : smK kd := smK_ofT (okT_of ok) (by omega) (by omega)
      have hwl := words_len kd 2 (by omega)
      refine ⟨vk, kd, rfl, hk.up w_sub, by omega, hsm, by omega, fun p H5 hp e5 hx => ?_⟩
      have hpl : p ≠ l := fun e => d4.ne (by rw [← e]; exact hp)
      have d5 := d4.ex e5
      have B5 : ExB l H H5 := (((ExB.of e2).trans b3).trans b4).trans (ExB.of e5)
      have R5 : Row l p (wordsK kd) 11 H5 := ⟨hpl, hx, by omega, fun z hz => ⟨no_space hsm z hz, Nat.le_trans (word_len hsm z hz) (by decide), word_ok hsm z hz⟩⟩
      refine Evl.s_forR1 (n := 6) (Evl.ea_cons Evl.ev_c Evl.ea_nil) (by decide) (fun j σ' H' => ExB l H5 H' ∧ Dr (200 + 6 * j) H' l ∧ ∃ o4 o5 o6 o7, σ' = [some (.ref sa), some (.int i), some (.ref l), some (.ref p), o4, o5, o6, o7]) (fun H6 e6 => ⟨ExB.of e6, (d5.ex e6).up (by omega), _, _, _, _, rfl⟩) ?_ ?_
      · rintro j σ' H6 hj ⟨b6, d6, o4', o5', o6', o7', rfl⟩
        have R6 := R5.exB b6
        refine row1_run (l := l) (p := p) (j := j) R6 d6 (by omega) fun b us H7 b7 d7 R7 => ?_
        refine row2_run (l := l) (p := p) (j := j) R7 d7 (by omega) fun b us H8 b8 d8 R8 => ?_
        have B8 := (b6.trans b7).trans b8
        clear R7 d7 R6 d6 b7 b8
        have hb8 := R8.at_
        have hu40 : us.length ≤ 40 := by have := R8.len; omega
        obtain ⟨rl1, rl2⟩ := row_len hu40 R8.wd
        have fin : ∀ v6 H9, Ex H8 H9 → ExB l H5 H9 ∧ Dr (200 + 6 * (j + 1)) H9 l ∧ ∃ o4 o5 o6 o7, [some (V.ref sa), some (V.int i), some (V.ref l), some (V.ref p), some (V.int j), some (V.ref b), v6, some (V.str (Str.join " " us))] = [some (V.ref sa), some (V.int i), some (V.ref l), some (V.ref p), o4, o5, o6, o7] := fun v6 H9 e9 => ⟨B8.trans (ExB.of e9), (d8.ex e9).up (by omega), _, _, _, _, rfl⟩
        refine ⟨_, rfl, b, us, rfl, SqL.of hb8, by omega, hu40, fun H9 e9 => ?_⟩
        have hb9 := e9 _ _ hb8
        refine ⟨⟨_, rfl⟩, _, rfl, " ", b, us, rfl, rfl, .inl (SqL.of hb9), by omega, ?_⟩
        rw [TL.join_eq]
        refine ⟨_, _, rfl, ?_⟩
        dsimp only
        have hid0 : ∀ H : Hp, Hid [] H := fun H a m => nomatch m
        have met : ∀ (σ : L2.St) (H10 : Hp) (s : Str) (v : V) (d : PyData), σ[7]? = some (some (V.str (Str.join " " us))) → metV (Txt.split (Str.join " " us) " ") 40 = [.str s, v] → (∀ H, Dp K H v d) → EvD K [] (tCallD (spMet 40) (tCons (tVar 7) tNil)) σ H10 (.tuple [.str s, d]) := fun σ H10 s v d hs hm hv H11 e11 Q q => by
          refine ⟨_, hs, _, rfl, by omega, ?_, fun t H12 e12 ht => q _ H12 e12 ?_⟩
          · by_cases hz : us = []
            · rw [hz]
              decide +kernel
            · rw [split_row hz R8.wd]
              exact hu40
          · rw [hm] at ht
            rw [w_nil]
            exact .tup (SqT.of ht) (.cons (.str _) (.cons (hv _) .nil))
        have isn : ∀ {te : TE} {σ : L2.St} {H1 : Hp} {v : V} {b : Bool}, Evl.Ev te σ H1 v → decide (v = .non) = b → Evl.EvT (tB (tIsN te)) σ H1 b := fun {te σ H1 v b} h e => Evl.et_B fun H2 e2 Q q => h H2 e2 _ fun H3 e3 => by
          show Q (.bl (decide (v = .non))) H3
          rw [e]
          exact q H3 e3
        refine Evl.q_when (b := decide (us = [])) (Evl.et_test fun H10 e10 Q q => ?_) (fun hz H10 e10 => ?_) (fun hz H10 e10 => ?_)
        · refine ⟨_, rfl, by show 0 ≤ sizeLine; decide, fun t ht => ?_⟩
          refine ⟨.list (us.map .str), .list (([] : List Str).map .str), .lst (SqL.of (Ex.new ht _ _ (e10 _ _ hb9))) (dpa_strs _), .lst (SqL.of upd_same) .nil, shaped_strs fun z hz => (R8.wd z hz).2.2, by decide, ?_⟩
          show Q (.bl (PyData.eqvAll (us.map .str) (([] : List Str).map .str))) _
          rw [eqv_strs]
          exact q _ (Ex.new ht)
        · have hz := of_decide_eq_true hz
          have hm : metV (Txt.split (Str.join " " us) " ") 40 = [.str "bad", .int 0] := by rw [hz]; exact met_nil
          refine Evl.s_asg (v := .int 0) Evl.ev_c fun H11 e11 => ?_
          refine Evl.s_when (b := false) (Evl.et_is (Evl.et_not (a := true) (Evl.et_B (same_ev (d := .tuple [.str "bad", .int 0]) (met _ _ "bad" (.int 0) (.int 0) rfl hm fun _ => .int 0)
            (evd_ifB (isn (Evl.ev_var (v := .int 0) rfl) rfl) (fun z => nomatch z) fun _ => evd_tup (hid0 _) (evds_cons evd_str (evds_cons (evd_of (Evl.ev_var rfl) (.int 0)) evds_nil)) (by show 2 ≤ 100000; omega)) ?_))) rfl) (fun z => nomatch z) (fun _ H12 e12 => fin _ H12 (((e9.trans e10).trans e11).trans e12))
          exact ⟨by show 2 ≤ 40000; decide, fun d hd => by
            simp only [List.mem_cons, List.not_mem_nil, or_false] at hd
            rcases hd with rfl | rfl <;> trivial⟩
        · have hz := of_decide_eq_false hz
          have hsp := split_row hz R8.wd
          cases hdu : dueAt us 40 with
          | none =>
            have hm : metV (Txt.split (Str.join " " us) " ") 40 = [.str "told", .str (Str.join " " us)] := by rw [hsp]; exact due_none hdu
            refine Evl.s_when (b := false) (Evl.et_is (Evl.et_not (a := true) (Evl.et_B (same_ev (d := .tuple [.str "told", .str (Str.join " " us)]) (met _ _ "told" (.str (Str.join " " us)) (.str (Str.join " " us)) rfl hm fun _ => .str _)
              (evd_ifB (isn (Evl.ev_var (v := .non) rfl) rfl) (fun _ => evd_tup (hid0 _) (evds_cons evd_str (evds_cons (evd_of (Evl.ev_var rfl) (.str (Str.join " " us))) evds_nil)) (by show 2 ≤ 100000; omega)) (fun z => nomatch z)) ?_))) rfl) (fun z => nomatch z) (fun _ H12 e12 => fin _ H12 ((e9.trans e10).trans e12))
            exact ⟨by show 2 ≤ 40000; decide, fun d hd => by
              simp only [List.mem_cons, List.not_mem_nil, or_false] at hd
              rcases hd with rfl | rfl <;> trivial⟩
          | some j0 =>
            have hm : metV (Txt.split (Str.join " " us) " ") 40 = [.str "bad", .int j0] := by rw [hsp]; exact due_some hdu
            refine Evl.s_when (b := false) (Evl.et_is (Evl.et_not (a := true) (Evl.et_B (same_ev (d := .tuple [.str "bad", .int j0]) (met _ _ "bad" (.int j0) (.int j0) rfl hm fun _ => .int _)
              (evd_ifB (isn (Evl.ev_var (v := .int j0) rfl) rfl) (fun z => nomatch z) fun _ => evd_tup (hid0 _) (evds_cons evd_str (evds_cons (evd_of (Evl.ev_var rfl) (.int j0)) evds_nil)) (by show 2 ≤ 100000; omega)) ?_))) rfl) (fun z => nomatch z) (fun _ H12 e12 => fin _ H12 ((e9.trans e10).trans e12))
            exact ⟨by show 2 ≤ 40000; decide, fun d hd => by
              simp only [List.mem_cons, List.not_mem_nil, or_false] at hd
              rcases hd with rfl | rfl <;> trivial⟩
      · rintro σ' H6 ⟨b6, d6, o4', o5', o6', o7', rfl⟩
        exact ⟨fun a o h => b6 a o (ne_of_none h hl0) (B5 a o (ne_of_none h hl0) h), _, _, _, _, _, _, _, rfl⟩
    · rintro σ' H1 ⟨e1, o1, o2, o3, o4, o5, o6, o7, rfl⟩
      exact Evl.s_ret (v := .bl true) Evl.ev_c fun H2 e2 => k H2 (e1.trans e2)
end
end U

set_option Elab.async false
set_option linter.all false
set_option maxRecDepth 100000
set_option maxHeartbeats 8000000
namespace U
open PySem L2
open Evl (Ex)
/-! ### a class of errors -/
abbrev veL : List Value := [.type "ValueError", .type "Exception", .type "BaseException", .type "object"]
theorem clsIn_of {K : PySem.W.Frag} {nm q : Str} {C N : Addr} {bs bm : List Value} {hd : Bool} {sn : List Str} {sub : List Value} {ab : Bool} {col : Option Bool} {dd : Option Addr} {k0 k1 k2 k3 k5 : Option Value} {nid : String}
    (l : K.lookup C = some (excClassObj nm q C N bs bm hd sn sub ab col dd k0 k1 k2 k3 k5 nid)) : PySem.W.clsIn K C = some { name := nm, bases := bs, mro := .ref C :: bm, ns := N, qualname := q, hasDict := hd, slotNames := sn, subclasses := sub, abstract := ab, collection := col, hasDel := false } := by
  unfold PySem.W.clsIn
  rw [l]
/-- at C a class of errors whose bases' row is bm -/
def IsErr (K : PySem.W.Frag) (C : Addr) (bm : List Value) : Prop := ∃ (nm q : Str) (N : Addr) (bs : List Value) (sn : List Str) (sub : List Value) (ab : Bool) (col : Option Bool) (dd : Option Addr) (k0 k1 k2 k3 k5 : Option Value),
  K.lookup C = some (excClassObj nm q C N bs bm true sn sub ab col dd k0 k1 k2 k3 k5 "ValueError.__new__")
section
variable {K : PySem.W.Frag} {C D : Addr} {bm bm2 : List Value}
theorem IsErr.mro (h : IsErr K C bm) (c : Value) : PySem.W.mroIn K C c = some ((Value.ref C :: bm).contains c) := by
  obtain ⟨nm, q, N, bs, sn, sub, ab, col, dd, k0, k1, k2, k3, k5, l⟩ := h
  unfold PySem.W.mroIn
  rw [clsIn_of l]
  rfl
theorem IsErr.ty (h : IsErr K C bm) : PySem.W.typeIn K (.ref C) = some (.type "type") := by
  obtain ⟨nm, q, N, bs, sn, sub, ab, col, dd, k0, k1, k2, k3, k5, l⟩ := h
  show (K.lookup C).map (fun o => o.cls) = some (.type "type")
  rw [l]
  rfl
theorem IsErr.isSm (h : IsErr K C bm) : (PySem.W.clsIn K C).isSome = true := by
  obtain ⟨nm, q, N, bs, sn, sub, ab, col, dd, k0, k1, k2, k3, k5, l⟩ := h
  rw [clsIn_of l]
  rfl
theorem IsErr.dct (h : IsErr K C bm) : PySem.W.hasDictIn K C = true := by
  obtain ⟨nm, q, N, bs, sn, sub, ab, col, dd, k0, k1, k2, k3, k5, l⟩ := h
  unfold PySem.W.hasDictIn
  rw [clsIn_of l]
  rfl
theorem IsErr.kit (h : IsErr K C bm) (h2 : IsErr K D bm2) : PySem.W.kitOne K (.ref C) (.ref D) = some ((Value.ref C :: bm).contains (.ref D)) := by
  unfold PySem.W.kitOne
  by_cases e : C = D
  · subst e
    rw [if_pos (by simp)]
    simp
  · rw [if_neg (by simpa using e)]
    unfold PySem.W.kitCls
    have z : ((PySem.W.clsIn K D).isSome && PySem.W.typeIn K (.ref D) == some (.type "type")) = true := by
      rw [h2.isSm, h2.ty]
      rfl
    show (if _ then _ else _) = _
    rw [if_pos z]
    exact h.mro _
theorem IsErr.kitV (h : IsErr K C bm) : PySem.W.kitOne K (.ref C) (.type "ValueError") = some ((Value.ref C :: bm).contains (.type "ValueError")) := by
  unfold PySem.W.kitOne
  rw [if_neg (by simp)]
  unfold PySem.W.kitCls
  show (if _ then _ else _) = _
  rw [if_pos (by decide +kernel)]
  exact h.mro _
/-- what the look at the written part gives of such a class -/
structure ErrF (K : PySem.W.Frag) (C : Addr) : Prop where
  sa : PySem.W.findIn K (.ref C) "__setattr__" = some (some (.builtin "object.__setattr__"))
  ga : PySem.W.findIn K (.ref C) "__getattribute__" = some (some (.builtin "BaseException.__getattribute__"))
  gg : PySem.W.findIn K (.ref C) "__getattr__" = some none
  ha : PySem.W.findIn K (.ref C) "__class__" = some (some (.builtin "object.__class__"))
  kC : PySem.W.keepIn K (.ref C) = true
theorem isi_of (h : IsErr K C bm) (F : ErrF K C) (hv : PySem.HandSPX.refsVE bm = true) (hn : PySem.W.specialIn K (.builtin "object.__class__") "__get__" = some (some (.builtin "getset_descriptor.__get__"))) (ht : PySem.W.takesIn K (.builtin "object.__class__") = some true) : IsiC K C :=
  { cl := h.isSm, hg := F.ga, hk := F.gg, hs := (h.mro _).trans (congrArg _ ((List.contains_cons ..).trans (by rw [PySem.HandSPX.refsVE_contains _ _ hv]; exact (Bool.or_eq_true_iff.mpr (.inr (by decide +kernel)))))), ha := F.ha, hn := hn, ht := ht,
    hm := (h.mro _).trans (congrArg _ ((List.contains_cons ..).trans (by rw [PySem.HandSPX.refsVE_contains _ _ hv]; exact (Bool.or_eq_true_iff.mpr (.inr (by decide +kernel)))))) }
theorem oex_of (h : IsErr K C bm) (F : ErrF K C) (hv : PySem.HandSPX.refsVE bm = true) (Z : IsiC K C) : OexC K C := by
  obtain ⟨nm, q, N, bs, sn, sub, ab, col, dd, k0, k1, k2, k3, k5, l⟩ := id h
  exact { cls := ⟨nm, q, N, bs, bm, sn, sub, ab, col, dd, k0, k1, k2, k3, k5, l, hv⟩, sa := F.sa, exC := Z.hs, tyC := h.ty, kC := F.kC }
theorem xf_of (h : IsErr K C bm) (F : ErrF K C) (Z : IsiC K C) : XfC K C := { ga := F.ga, gg := F.gg, exC := Z.hs, hdC := h.dct }
end
abbrev s_BadText_init : Stmt := inClass (top 6) 0
abbrev sc_BadText_init_N : List Str := ["self", "index"]
theorem sc_BadText_init : FnScope sc_BadText_init_N ["self", "index"] (defScope s_BadText_init) := ⟨rfl, rfl, rfl, by decide +kernel, rfl, by decide +kernel, by decide +kernel⟩
theorem ok_BadText {P : Program} {w : World} {K : PySem.W.Frag} {mg : Str → Option Value} {base : Heap} {C fI : Addr} {fd : FuncData} (gC : mg "BadText" = some (.ref C)) (T : OexC K C) (x : XfC K C) (no : PySem.W.findIn K (.ref C) "index" = some none) (iC : PySem.W.findIn K (.ref C) "__init__" = some (some (.ref fI))) (tI : PySem.W.typeIn K (.ref fI) = some (.type "function"))
    (F : Fun K "__init__" "BadText.__init__" s_BadText_init fI fd) (hb : Binds K fd ["self", "index"] []) (hi : ∀ (s : Shared) (u v : Value), BindsTo s fd ⟨[u], [("index", v)]⟩ [("self", u), ("index", v)]) : ErrC P w K mg base "BadText" C "index" := by
  refine ⟨T, gC, x, no, fI, _, iC, tI, ?_, hb, hi⟩
  refine F.ok sc_BadText_init (fun vs H Q E h => ?_) (fun cdv A outer s H vs Q E hr h => ?_)
  · obtain ⟨_, _, rfl, _⟩ := h
    rfl
  · obtain ⟨a, v, rfl, ha, k⟩ := h
    exact ⟨_, pss_one (ps_ost (pv 0) (pv 1)), ⟨_, rfl, _, rfl, a, C, rfl, T, no, .inl ⟨ha, fun dx hd n => k dx hd n⟩⟩⟩
end U

set_option Elab.async false
set_option linter.all false
set_option maxRecDepth 100000
set_option maxHeartbeats 8000000
namespace U
open PySem PySem.Spec PyProof.Rows L2
open Evl (Ex)
open C8 (Met Mak)
theorem dn_and : PySem.dunder Operator.BitAnd.info.2 = "__and__" ∧ dunderR Operator.BitAnd.info.2 = "__rand__" := by decide +kernel
theorem dn_or : PySem.dunder Operator.BitOr.info.2 = "__or__" ∧ dunderR Operator.BitOr.info.2 = "__ror__" := by decide +kernel
theorem dn_add : PySem.dunder Operator.Add.info.2 = "__add__" ∧ dunderR Operator.Add.info.2 = "__radd__" := by decide +kernel
theorem all_mk {l : PySem.W.OpenLaw} {w : World} {K : PySem.W.Frag} {h : Heap} {mg : Str → Option Value} {fa fF_is_integer fF_is_number_of_places fF_check_number_of_places fF_read_kind fF_kind_at fF_put_together fF_plain_kind_at fF_number_at fF_word_at fL_source fL_draw fL_pick fL_same fL_plain fL_spec fL_part fL_joint fL_pair fL_words fL_end fL_due fL_bent fL_met fL_law Cha fMha_init fMha_invert fMha_and fMha_or fMha_add fMha_text Cbo fMbo_init fMbo_invert fMbo_and fMbo_or fMbo_add fMbo_text Cri fMri_init fMri_invert fMri_and fMri_or fMri_add fMri_text Cfl fMfl_init fMfl_invert fMfl_and fMfl_or fMfl_add fMfl_text Ctu fMtu_init fMtu_invert fMtu_and fMtu_or fMtu_add fMtu_text Cco fMco_init fMco_invert fMco_and fMco_or fMco_add fMco_text Cpa fMpa_init fMpa_invert fMpa_and fMpa_or fMpa_add fMpa_text CBT Tc NBT fBT : Addr} {tLEAST_PLACES tMOST_PLACES tGREATEST_MOST : Tok}
   {ocF_is_integer kVF_is_integer dcF_is_integer pmF_is_integer cdF_is_integer ctF_is_integer : Value} {odF_is_integer anF_is_integer : Option Addr} {slF_is_integer : Array (Option Value)} {ocF_is_number_of_places kVF_is_number_of_places dcF_is_number_of_places pmF_is_number_of_places cdF_is_number_of_places ctF_is_number_of_places : Value} {odF_is_number_of_places anF_is_number_of_places : Option Addr} {slF_is_number_of_places : Array (Option Value)} {ocF_check_number_of_places kVF_check_number_of_places dcF_check_number_of_places pmF_check_number_of_places cdF_check_number_of_places ctF_check_number_of_places : Value} {odF_check_number_of_places anF_check_number_of_places : Option Addr} {slF_check_number_of_places : Array (Option Value)} {ocF_read_kind kVF_read_kind dcF_read_kind pmF_read_kind cdF_read_kind ctF_read_kind : Value} {odF_read_kind anF_read_kind : Option Addr} {slF_read_kind : Array (Option Value)} {ocF_kind_at kVF_kind_at dcF_kind_at pmF_kind_at cdF_kind_at ctF_kind_at : Value} {odF_kind_at anF_kind_at : Option Addr} {slF_kind_at : Array (Option Value)} {ocF_put_together kVF_put_together dcF_put_together pmF_put_together cdF_put_together ctF_put_together : Value} {odF_put_together anF_put_together : Option Addr} {slF_put_together : Array (Option Value)} {ocF_plain_kind_at kVF_plain_kind_at dcF_plain_kind_at pmF_plain_kind_at cdF_plain_kind_at ctF_plain_kind_at : Value} {odF_plain_kind_at anF_plain_kind_at : Option Addr} {slF_plain_kind_at : Array (Option Value)} {ocF_number_at kVF_number_at dcF_number_at pmF_number_at cdF_number_at ctF_number_at : Value} {odF_number_at anF_number_at : Option Addr} {slF_number_at : Array (Option Value)} {ocF_word_at kVF_word_at dcF_word_at pmF_word_at cdF_word_at ctF_word_at : Value} {odF_word_at anF_word_at : Option Addr} {slF_word_at : Array (Option Value)} {ocL_source kVL_source dcL_source pmL_source cdL_source ctL_source : Value} {odL_source anL_source : Option Addr} {slL_source : Array (Option Value)} {ocL_draw kVL_draw dcL_draw pmL_draw cdL_draw ctL_draw : Value} {odL_draw anL_draw : Option Addr} {slL_draw : Array (Option Value)} {ocL_pick kVL_pick dcL_pick pmL_pick cdL_pick ctL_pick : Value} {odL_pick anL_pick : Option Addr} {slL_pick : Array (Option Value)} {ocL_same kVL_same dcL_same pmL_same cdL_same ctL_same : Value} {odL_same anL_same : Option Addr} {slL_same : Array (Option Value)} {ocL_plain kVL_plain dcL_plain pmL_plain cdL_plain ctL_plain : Value} {odL_plain anL_plain : Option Addr} {slL_plain : Array (Option Value)} {ocL_spec kVL_spec dcL_spec pmL_spec cdL_spec ctL_spec : Value} {odL_spec anL_spec : Option Addr} {slL_spec : Array (Option Value)} {ocL_part kVL_part dcL_part pmL_part cdL_part ctL_part : Value} {odL_part anL_part : Option Addr} {slL_part : Array (Option Value)} {ocL_joint kVL_joint dcL_joint pmL_joint cdL_joint ctL_joint : Value} {odL_joint anL_joint : Option Addr} {slL_joint : Array (Option Value)} {ocL_pair kVL_pair dcL_pair pmL_pair cdL_pair ctL_pair : Value} {odL_pair anL_pair : Option Addr} {slL_pair : Array (Option Value)} {ocL_words kVL_words dcL_words pmL_words cdL_words ctL_words : Value} {odL_words anL_words : Option Addr} {slL_words : Array (Option Value)} {ocL_end kVL_end dcL_end pmL_end cdL_end ctL_end : Value} {odL_end anL_end : Option Addr} {slL_end : Array (Option Value)} {ocL_due kVL_due dcL_due pmL_due cdL_due ctL_due : Value} {odL_due anL_due : Option Addr} {slL_due : Array (Option Value)} {ocL_bent kVL_bent dcL_bent pmL_bent cdL_bent ctL_bent : Value} {odL_bent anL_bent : Option Addr} {slL_bent : Array (Option Value)} {ocL_met kVL_met dcL_met pmL_met cdL_met ctL_met : Value} {odL_met anL_met : Option Addr} {slL_met : Array (Option Value)} {ocL_law kVL_law dcL_law pmL_law cdL_law ctL_law : Value} {odL_law anL_law : Option Addr} {slL_law : Array (Option Value)} {ocMha_init kVMha_init dcMha_init pmMha_init cdMha_init ctMha_init : Value} {odMha_init anMha_init : Option Addr} {slMha_init : Array (Option Value)} {ocMha_invert kVMha_invert dcMha_invert pmMha_invert cdMha_invert ctMha_invert : Value} {odMha_invert anMha_invert : Option Addr} {slMha_invert : Array (Option Value)} {ocMha_and kVMha_and dcMha_and pmMha_and cdMha_and ctMha_and : Value} {odMha_and anMha_and : Option Addr} {slMha_and : Array (Option Value)} {ocMha_or kVMha_or dcMha_or pmMha_or cdMha_or ctMha_or : Value} {odMha_or anMha_or : Option Addr} {slMha_or : Array (Option Value)} {ocMha_add kVMha_add dcMha_add pmMha_add cdMha_add ctMha_add : Value} {odMha_add anMha_add : Option Addr} {slMha_add : Array (Option Value)} {ocMha_text kVMha_text dcMha_text pmMha_text cdMha_text ctMha_text : Value} {odMha_text anMha_text : Option Addr} {slMha_text : Array (Option Value)} {ocMbo_init kVMbo_init dcMbo_init pmMbo_init cdMbo_init ctMbo_init : Value} {odMbo_init anMbo_init : Option Addr} {slMbo_init : Array (Option Value)} {ocMbo_invert kVMbo_invert dcMbo_invert pmMbo_invert cdMbo_invert ctMbo_invert : Value} {odMbo_invert anMbo_invert : Option Addr} {slMbo_invert : Array (Option Value)} {ocMbo_and kVMbo_and dcMbo_and pmMbo_and cdMbo_and ctMbo_and : Value} {odMbo_and anMbo_and : Option Addr} {slMbo_and : Array (Option Value)} {ocMbo_or kVMbo_or dcMbo_or pmMbo_or cdMbo_or ctMbo_or : Value} {odMbo_or anMbo_or : Option Addr} {slMbo_or : Array (Option Value)} {ocMbo_add kVMbo_add dcMbo_add pmMbo_add cdMbo_add ctMbo_add : Value} {odMbo_add anMbo_add : Option Addr} {slMbo_add : Array (Option Value)} {ocMbo_text kVMbo_text dcMbo_text pmMbo_text cdMbo_text ctMbo_text : Value} {odMbo_text anMbo_text : Option Addr} {slMbo_text : Array (Option Value)} {ocMri_init kVMri_init dcMri_init pmMri_init cdMri_init ctMri_init : Value} {odMri_init anMri_init : Option Addr} {slMri_init : Array (Option Value)} {ocMri_invert kVMri_invert dcMri_invert pmMri_invert cdMri_invert ctMri_invert : Value} {odMri_invert anMri_invert : Option Addr} {slMri_invert : Array (Option Value)} {ocMri_and kVMri_and dcMri_and pmMri_and cdMri_and ctMri_and : Value} {odMri_and anMri_and : Option Addr} {slMri_and : Array (Option Value)} {ocMri_or kVMri_or dcMri_or pmMri_or cdMri_or ctMri_or : Value} {odMri_or anMri_or : Option Addr} {slMri_or : Array (Option Value)} {ocMri_add kVMri_add dcMri_add pmMri_add cdMri_add ctMri_add : Value} {odMri_add anMri_add : Option Addr} {slMri_add : Array (Option Value)} {ocMri_text kVMri_text dcMri_text pmMri_text cdMri_text ctMri_text : Value} {odMri_text anMri_text : Option Addr} {slMri_text : Array (Option Value)} {ocMfl_init kVMfl_init dcMfl_init pmMfl_init cdMfl_init ctMfl_init : Value} {odMfl_init anMfl_init : Option Addr} {slMfl_init : Array (Option Value)} {ocMfl_invert kVMfl_invert dcMfl_invert pmMfl_invert cdMfl_invert ctMfl_invert : Value} {odMfl_invert anMfl_invert : Option Addr} {slMfl_invert : Array (Option Value)} {ocMfl_and kVMfl_and dcMfl_and pmMfl_and cdMfl_and ctMfl_and : Value} {odMfl_and anMfl_and : Option Addr} {slMfl_and : Array (Option Value)} {ocMfl_or kVMfl_or dcMfl_or pmMfl_or cdMfl_or ctMfl_or : Value} {odMfl_or anMfl_or : Option Addr} {slMfl_or : Array (Option Value)} {ocMfl_add kVMfl_add dcMfl_add pmMfl_add cdMfl_add ctMfl_add : Value} {odMfl_add anMfl_add : Option Addr} {slMfl_add : Array (Option Value)} {ocMfl_text kVMfl_text dcMfl_text pmMfl_text cdMfl_text ctMfl_text : Value} {odMfl_text anMfl_text : Option Addr} {slMfl_text : Array (Option Value)} {ocMtu_init kVMtu_init dcMtu_init pmMtu_init cdMtu_init ctMtu_init : Value} {odMtu_init anMtu_init : Option Addr} {slMtu_init : Array (Option Value)} {ocMtu_invert kVMtu_invert dcMtu_invert pmMtu_invert cdMtu_invert ctMtu_invert : Value} {odMtu_invert anMtu_invert : Option Addr} {slMtu_invert : Array (Option Value)} {ocMtu_and kVMtu_and dcMtu_and pmMtu_and cdMtu_and ctMtu_and : Value} {odMtu_and anMtu_and : Option Addr} {slMtu_and : Array (Option Value)} {ocMtu_or kVMtu_or dcMtu_or pmMtu_or cdMtu_or ctMtu_or : Value} {odMtu_or anMtu_or : Option Addr} {slMtu_or : Array (Option Value)} {ocMtu_add kVMtu_add dcMtu_add pmMtu_add cdMtu_add ctMtu_add : Value} {odMtu_add anMtu_add : Option Addr} {slMtu_add : Array (Option Value)} {ocMtu_text kVMtu_text dcMtu_text pmMtu_text cdMtu_text ctMtu_text : Value} {odMtu_text anMtu_text : Option Addr} {slMtu_text : Array (Option Value)} {ocMco_init kVMco_init dcMco_init pmMco_init cdMco_init ctMco_init : Value} {odMco_init anMco_init : Option Addr} {slMco_init : Array (Option Value)} {ocMco_invert kVMco_invert dcMco_invert pmMco_invert cdMco_invert ctMco_invert : Value} {odMco_invert anMco_invert : Option Addr} {slMco_invert : Array (Option Value)} {ocMco_and kVMco_and dcMco_and pmMco_and cdMco_and ctMco_and : Value} {odMco_and anMco_and : Option Addr} {slMco_and : Array (Option Value)} {ocMco_or kVMco_or dcMco_or pmMco_or cdMco_or ctMco_or : Value} {odMco_or anMco_or : Option Addr} {slMco_or : Array (Option Value)} {ocMco_add kVMco_add dcMco_add pmMco_add cdMco_add ctMco_add : Value} {odMco_add anMco_add : Option Addr} {slMco_add : Array (Option Value)} {ocMco_text kVMco_text dcMco_text pmMco_text cdMco_text ctMco_text : Value} {odMco_text anMco_text : Option Addr} {slMco_text : Array (Option Value)} {ocMpa_init kVMpa_init dcMpa_init pmMpa_init cdMpa_init ctMpa_init : Value} {odMpa_init anMpa_init : Option Addr} {slMpa_init : Array (Option Value)} {ocMpa_invert kVMpa_invert dcMpa_invert pmMpa_invert cdMpa_invert ctMpa_invert : Value} {odMpa_invert anMpa_invert : Option Addr} {slMpa_invert : Array (Option Value)} {ocMpa_and kVMpa_and dcMpa_and pmMpa_and cdMpa_and ctMpa_and : Value} {odMpa_and anMpa_and : Option Addr} {slMpa_and : Array (Option Value)} {ocMpa_or kVMpa_or dcMpa_or pmMpa_or cdMpa_or ctMpa_or : Value} {odMpa_or anMpa_or : Option Addr} {slMpa_or : Array (Option Value)} {ocMpa_add kVMpa_add dcMpa_add pmMpa_add cdMpa_add ctMpa_add : Value} {odMpa_add anMpa_add : Option Addr} {slMpa_add : Array (Option Value)} {ocMpa_text kVMpa_text dcMpa_text pmMpa_text cdMpa_text ctMpa_text : Value} {odMpa_text anMpa_text : Option Addr} {slMpa_text : Array (Option Value)} {nmBT qnBT : Str} {bsBT : List Value} {snBT : List Str} {sbBT : List Value} {abBT : Bool} {coBT : Option Bool} {ddBT : Option Addr} {p0BT p1BT p2BT p3BT p5BT : Option Value} {ocBT kVBT dcBT pmBT cdBT ctBT : Value} {odBT anBT : Option Addr} {slBT : Array (Option Value)} (X : K.In h) (G : h.Ns mainGlobals mg) (hfa : mg "law" = some (.ref fa))
    (aF_is_integer : PySem.W.nsIn K mainGlobals "is_integer" = some (some (.ref fF_is_integer)))
    (lF_is_integer : K.lookup fF_is_integer = some ⟨ocF_is_integer, odF_is_integer, .func (PySem.W.fnOf "is_integer" "is_integer" (defArgs s_is_integer) (defBody s_is_integer) (defScope s_is_integer) .none kVF_is_integer dcF_is_integer pmF_is_integer anF_is_integer cdF_is_integer ctF_is_integer), slF_is_integer⟩)
    (cF_is_integer : PySem.W.codeIn K cdF_is_integer "is_integer" = true)
    (kF_is_integer : PySem.W.keepIn K (.ref fF_is_integer) = true)
    (aF_is_number_of_places : PySem.W.nsIn K mainGlobals "is_number_of_places" = some (some (.ref fF_is_number_of_places)))
    (lF_is_number_of_places : K.lookup fF_is_number_of_places = some ⟨ocF_is_number_of_places, odF_is_number_of_places, .func (PySem.W.fnOf "is_number_of_places" "is_number_of_places" (defArgs s_is_number_of_places) (defBody s_is_number_of_places) (defScope s_is_number_of_places) .none kVF_is_number_of_places dcF_is_number_of_places pmF_is_number_of_places anF_is_number_of_places cdF_is_number_of_places ctF_is_number_of_places), slF_is_number_of_places⟩)
    (cF_is_number_of_places : PySem.W.codeIn K cdF_is_number_of_places "is_number_of_places" = true)
    (kF_is_number_of_places : PySem.W.keepIn K (.ref fF_is_number_of_places) = true)
    (aF_check_number_of_places : PySem.W.nsIn K mainGlobals "_check_number_of_places" = some (some (.ref fF_check_number_of_places)))
    (lF_check_number_of_places : K.lookup fF_check_number_of_places = some ⟨ocF_check_number_of_places, odF_check_number_of_places, .func (PySem.W.fnOf "_check_number_of_places" "_check_number_of_places" (defArgs s_check_number_of_places) (defBody s_check_number_of_places) (defScope s_check_number_of_places) .none kVF_check_number_of_places dcF_check_number_of_places pmF_check_number_of_places anF_check_number_of_places cdF_check_number_of_places ctF_check_number_of_places), slF_check_number_of_places⟩)
    (cF_check_number_of_places : PySem.W.codeIn K cdF_check_number_of_places "_check_number_of_places" = true)
    (kF_check_number_of_places : PySem.W.keepIn K (.ref fF_check_number_of_places) = true)
    (aF_read_kind : PySem.W.nsIn K mainGlobals "read_kind" = some (some (.ref fF_read_kind)))
    (lF_read_kind : K.lookup fF_read_kind = some ⟨ocF_read_kind, odF_read_kind, .func (PySem.W.fnOf "read_kind" "read_kind" (defArgs s_read_kind) (defBody s_read_kind) (defScope s_read_kind) .none kVF_read_kind dcF_read_kind pmF_read_kind anF_read_kind cdF_read_kind ctF_read_kind), slF_read_kind⟩)
    (cF_read_kind : PySem.W.codeIn K cdF_read_kind "read_kind" = true)
    (kF_read_kind : PySem.W.keepIn K (.ref fF_read_kind) = true)
    (aF_kind_at : PySem.W.nsIn K mainGlobals "_kind_at" = some (some (.ref fF_kind_at)))
    (lF_kind_at : K.lookup fF_kind_at = some ⟨ocF_kind_at, odF_kind_at, .func (PySem.W.fnOf "_kind_at" "_kind_at" (defArgs s_kind_at) (defBody s_kind_at) (defScope s_kind_at) .none kVF_kind_at dcF_kind_at pmF_kind_at anF_kind_at cdF_kind_at ctF_kind_at), slF_kind_at⟩)
    (cF_kind_at : PySem.W.codeIn K cdF_kind_at "_kind_at" = true)
    (kF_kind_at : PySem.W.keepIn K (.ref fF_kind_at) = true)
    (aF_put_together : PySem.W.nsIn K mainGlobals "_put_together" = some (some (.ref fF_put_together)))
    (lF_put_together : K.lookup fF_put_together = some ⟨ocF_put_together, odF_put_together, .func (PySem.W.fnOf "_put_together" "_put_together" (defArgs s_put_together) (defBody s_put_together) (defScope s_put_together) .none kVF_put_together dcF_put_together pmF_put_together anF_put_together cdF_put_together ctF_put_together), slF_put_together⟩)
    (cF_put_together : PySem.W.codeIn K cdF_put_together "_put_together" = true)
    (kF_put_together : PySem.W.keepIn K (.ref fF_put_together) = true)
    (aF_plain_kind_at : PySem.W.nsIn K mainGlobals "_plain_kind_at" = some (some (.ref fF_plain_kind_at)))
    (lF_plain_kind_at : K.lookup fF_plain_kind_at = some ⟨ocF_plain_kind_at, odF_plain_kind_at, .func (PySem.W.fnOf "_plain_kind_at" "_plain_kind_at" (defArgs s_plain_kind_at) (defBody s_plain_kind_at) (defScope s_plain_kind_at) .none kVF_plain_kind_at dcF_plain_kind_at pmF_plain_kind_at anF_plain_kind_at cdF_plain_kind_at ctF_plain_kind_at), slF_plain_kind_at⟩)
    (cF_plain_kind_at : PySem.W.codeIn K cdF_plain_kind_at "_plain_kind_at" = true)
    (kF_plain_kind_at : PySem.W.keepIn K (.ref fF_plain_kind_at) = true)
    (aF_number_at : PySem.W.nsIn K mainGlobals "_number_at" = some (some (.ref fF_number_at)))
    (lF_number_at : K.lookup fF_number_at = some ⟨ocF_number_at, odF_number_at, .func (PySem.W.fnOf "_number_at" "_number_at" (defArgs s_number_at) (defBody s_number_at) (defScope s_number_at) .none kVF_number_at dcF_number_at pmF_number_at anF_number_at cdF_number_at ctF_number_at), slF_number_at⟩)
    (cF_number_at : PySem.W.codeIn K cdF_number_at "_number_at" = true)
    (kF_number_at : PySem.W.keepIn K (.ref fF_number_at) = true)
    (aF_word_at : PySem.W.nsIn K mainGlobals "_word_at" = some (some (.ref fF_word_at)))
    (lF_word_at : K.lookup fF_word_at = some ⟨ocF_word_at, odF_word_at, .func (PySem.W.fnOf "_word_at" "_word_at" (defArgs s_word_at) (defBody s_word_at) (defScope s_word_at) .none kVF_word_at dcF_word_at pmF_word_at anF_word_at cdF_word_at ctF_word_at), slF_word_at⟩)
    (cF_word_at : PySem.W.codeIn K cdF_word_at "_word_at" = true)
    (kF_word_at : PySem.W.keepIn K (.ref fF_word_at) = true)
    (aL_source : PySem.W.nsIn K mainGlobals "_law_source" = some (some (.ref fL_source)))
    (lL_source : K.lookup fL_source = some ⟨ocL_source, odL_source, .func (PySem.W.fnOf "_law_source" "_law_source" (defArgs s_source) (defBody s_source) (defScope s_source) .none kVL_source dcL_source pmL_source anL_source cdL_source ctL_source), slL_source⟩)
    (cL_source : PySem.W.codeIn K cdL_source "_law_source" = true)
    (kL_source : PySem.W.keepIn K (.ref fL_source) = true)
    (aL_draw : PySem.W.nsIn K mainGlobals "_law_draw" = some (some (.ref fL_draw)))
    (lL_draw : K.lookup fL_draw = some ⟨ocL_draw, odL_draw, .func (PySem.W.fnOf "_law_draw" "_law_draw" (defArgs s_draw) (defBody s_draw) (defScope s_draw) .none kVL_draw dcL_draw pmL_draw anL_draw cdL_draw ctL_draw), slL_draw⟩)
    (cL_draw : PySem.W.codeIn K cdL_draw "_law_draw" = true)
    (kL_draw : PySem.W.keepIn K (.ref fL_draw) = true)
    (aL_pick : PySem.W.nsIn K mainGlobals "_law_pick" = some (some (.ref fL_pick)))
    (lL_pick : K.lookup fL_pick = some ⟨ocL_pick, odL_pick, .func (PySem.W.fnOf "_law_pick" "_law_pick" (defArgs s_pick) (defBody s_pick) (defScope s_pick) .none kVL_pick dcL_pick pmL_pick anL_pick cdL_pick ctL_pick), slL_pick⟩)
    (cL_pick : PySem.W.codeIn K cdL_pick "_law_pick" = true)
    (kL_pick : PySem.W.keepIn K (.ref fL_pick) = true)
    (aL_same : PySem.W.nsIn K mainGlobals "_law_same" = some (some (.ref fL_same)))
    (lL_same : K.lookup fL_same = some ⟨ocL_same, odL_same, .func (PySem.W.fnOf "_law_same" "_law_same" (defArgs s_same) (defBody s_same) (defScope s_same) .none kVL_same dcL_same pmL_same anL_same cdL_same ctL_same), slL_same⟩)
    (cL_same : PySem.W.codeIn K cdL_same "_law_same" = true)
    (kL_same : PySem.W.keepIn K (.ref fL_same) = true)
    (aL_plain : PySem.W.nsIn K mainGlobals "_law_plain" = some (some (.ref fL_plain)))
    (lL_plain : K.lookup fL_plain = some ⟨ocL_plain, odL_plain, .func (PySem.W.fnOf "_law_plain" "_law_plain" (defArgs s_plain) (defBody s_plain) (defScope s_plain) .none kVL_plain dcL_plain pmL_plain anL_plain cdL_plain ctL_plain), slL_plain⟩)
    (cL_plain : PySem.W.codeIn K cdL_plain "_law_plain" = true)
    (kL_plain : PySem.W.keepIn K (.ref fL_plain) = true)
    (aL_spec : PySem.W.nsIn K mainGlobals "_law_spec" = some (some (.ref fL_spec)))
    (lL_spec : K.lookup fL_spec = some ⟨ocL_spec, odL_spec, .func (PySem.W.fnOf "_law_spec" "_law_spec" (defArgs s_spec) (defBody s_spec) (defScope s_spec) .none kVL_spec dcL_spec pmL_spec anL_spec cdL_spec ctL_spec), slL_spec⟩)
    (cL_spec : PySem.W.codeIn K cdL_spec "_law_spec" = true)
    (kL_spec : PySem.W.keepIn K (.ref fL_spec) = true)
    (aL_part : PySem.W.nsIn K mainGlobals "_law_part" = some (some (.ref fL_part)))
    (lL_part : K.lookup fL_part = some ⟨ocL_part, odL_part, .func (PySem.W.fnOf "_law_part" "_law_part" (defArgs s_part) (defBody s_part) (defScope s_part) .none kVL_part dcL_part pmL_part anL_part cdL_part ctL_part), slL_part⟩)
    (cL_part : PySem.W.codeIn K cdL_part "_law_part" = true)
    (kL_part : PySem.W.keepIn K (.ref fL_part) = true)
    (aL_joint : PySem.W.nsIn K mainGlobals "_law_joint" = some (some (.ref fL_joint)))
    (lL_joint : K.lookup fL_joint = some ⟨ocL_joint, odL_joint, .func (PySem.W.fnOf "_law_joint" "_law_joint" (defArgs s_joint) (defBody s_joint) (defScope s_joint) .none kVL_joint dcL_joint pmL_joint anL_joint cdL_joint ctL_joint), slL_joint⟩)
    (cL_joint : PySem.W.codeIn K cdL_joint "_law_joint" = true)
    (kL_joint : PySem.W.keepIn K (.ref fL_joint) = true)
    (aL_pair : PySem.W.nsIn K mainGlobals "_law_pair" = some (some (.ref fL_pair)))
    (lL_pair : K.lookup fL_pair = some ⟨ocL_pair, odL_pair, .func (PySem.W.fnOf "_law_pair" "_law_pair" (defArgs s_pair) (defBody s_pair) (defScope s_pair) .none kVL_pair dcL_pair pmL_pair anL_pair cdL_pair ctL_pair), slL_pair⟩)
    (cL_pair : PySem.W.codeIn K cdL_pair "_law_pair" = true)
    (kL_pair : PySem.W.keepIn K (.ref fL_pair) = true)
    (aL_words : PySem.W.nsIn K mainGlobals "_law_words" = some (some (.ref fL_words)))
    (lL_words : K.lookup fL_words = some ⟨ocL_words, odL_words, .func (PySem.W.fnOf "_law_words" "_law_words" (defArgs s_words) (defBody s_words) (defScope s_words) .none kVL_words dcL_words pmL_words anL_words cdL_words ctL_words), slL_words⟩)
    (cL_words : PySem.W.codeIn K cdL_words "_law_words" = true)
    (kL_words : PySem.W.keepIn K (.ref fL_words) = true)
    (aL_end : PySem.W.nsIn K mainGlobals "_law_end" = some (some (.ref fL_end)))
    (lL_end : K.lookup fL_end = some ⟨ocL_end, odL_end, .func (PySem.W.fnOf "_law_end" "_law_end" (defArgs s_end) (defBody s_end) (defScope s_end) .none kVL_end dcL_end pmL_end anL_end cdL_end ctL_end), slL_end⟩)
    (cL_end : PySem.W.codeIn K cdL_end "_law_end" = true)
    (kL_end : PySem.W.keepIn K (.ref fL_end) = true)
    (aL_due : PySem.W.nsIn K mainGlobals "_law_due" = some (some (.ref fL_due)))
    (lL_due : K.lookup fL_due = some ⟨ocL_due, odL_due, .func (PySem.W.fnOf "_law_due" "_law_due" (defArgs s_due) (defBody s_due) (defScope s_due) .none kVL_due dcL_due pmL_due anL_due cdL_due ctL_due), slL_due⟩)
    (cL_due : PySem.W.codeIn K cdL_due "_law_due" = true)
    (kL_due : PySem.W.keepIn K (.ref fL_due) = true)
    (aL_bent : PySem.W.nsIn K mainGlobals "_law_bent" = some (some (.ref fL_bent)))
    (lL_bent : K.lookup fL_bent = some ⟨ocL_bent, odL_bent, .func (PySem.W.fnOf "_law_bent" "_law_bent" (defArgs s_bent) (defBody s_bent) (defScope s_bent) .none kVL_bent dcL_bent pmL_bent anL_bent cdL_bent ctL_bent), slL_bent⟩)
    (cL_bent : PySem.W.codeIn K cdL_bent "_law_bent" = true)
    (kL_bent : PySem.W.keepIn K (.ref fL_bent) = true)
    (aL_met : PySem.W.nsIn K mainGlobals "_law_met" = some (some (.ref fL_met)))
    (lL_met : K.lookup fL_met = some ⟨ocL_met, odL_met, .func (PySem.W.fnOf "_law_met" "_law_met" (defArgs s_met) (defBody s_met) (defScope s_met) .none kVL_met dcL_met pmL_met anL_met cdL_met ctL_met), slL_met⟩)
    (cL_met : PySem.W.codeIn K cdL_met "_law_met" = true)
    (kL_met : PySem.W.keepIn K (.ref fL_met) = true)
    (aL_law : PySem.W.nsIn K mainGlobals "law" = some (some (.ref fL_law)))
    (lL_law : K.lookup fL_law = some ⟨ocL_law, odL_law, .func (PySem.W.fnOf "law" "law" (defArgs s_law) (defBody s_law) (defScope s_law) .none kVL_law dcL_law pmL_law anL_law cdL_law ctL_law), slL_law⟩)
    (cL_law : PySem.W.codeIn K cdL_law "law" = true)
    (kL_law : PySem.W.keepIn K (.ref fL_law) = true)
    (aCha : PySem.W.nsIn K mainGlobals "Halves" = some (some (.ref Cha)))
    (pgha : PySem.W.plainGet K Cha Str.empty = true)
    (hdha : PySem.W.hasDictIn K Cha = true)
    (poha : PySem.W.plainOver K Cha = true)
    (saha : PySem.W.findIn K (.ref Cha) "__setattr__" = some (some (.builtin "object.__setattr__")))
    (mkha : PySem.W.makesIn K Cha = true)
    (kcha : PySem.W.keepIn K (.ref Cha) = true)
    (sfha : PySem.W.selfFirst K Cha = true)
    (nha_places : PySem.W.findIn K (.ref Cha) "places" = some none)
    (nha_most : PySem.W.findIn K (.ref Cha) "most" = some none)
    (nha_kind : PySem.W.findIn K (.ref Cha) "kind" = some none)
    (nha_word : PySem.W.findIn K (.ref Cha) "word" = some none)
    (nha_one : PySem.W.findIn K (.ref Cha) "one" = some none)
    (nha_other : PySem.W.findIn K (.ref Cha) "other" = some none)
    (rha_rand : PySem.W.findIn K (.ref Cha) "__rand__" = some none)
    (rha_ror : PySem.W.findIn K (.ref Cha) "__ror__" = some none)
    (rha_radd : PySem.W.findIn K (.ref Cha) "__radd__" = some none)
    (aMha_init : PySem.W.findIn K (.ref Cha) "__init__" = some (some (.ref fMha_init)))
    (iMha_init : PySem.W.isFn K (.ref fMha_init) = true)
    (lMha_init : K.lookup fMha_init = some ⟨ocMha_init, odMha_init, .func (PySem.W.fnOf "__init__" "Halves.__init__" (defArgs s_Halves_init) (defBody s_Halves_init) (defScope s_Halves_init) .none kVMha_init dcMha_init pmMha_init anMha_init cdMha_init ctMha_init), slMha_init⟩)
    (cMha_init : PySem.W.codeIn K cdMha_init "Halves.__init__" = true)
    (kMha_init : PySem.W.keepIn K (.ref fMha_init) = true)
    (aMha_invert : PySem.W.findIn K (.ref Cha) "__invert__" = some (some (.ref fMha_invert)))
    (iMha_invert : PySem.W.isFn K (.ref fMha_invert) = true)
    (lMha_invert : K.lookup fMha_invert = some ⟨ocMha_invert, odMha_invert, .func (PySem.W.fnOf "__invert__" "Halves.__invert__" (defArgs s_Halves_invert) (defBody s_Halves_invert) (defScope s_Halves_invert) .none kVMha_invert dcMha_invert pmMha_invert anMha_invert cdMha_invert ctMha_invert), slMha_invert⟩)
    (cMha_invert : PySem.W.codeIn K cdMha_invert "Halves.__invert__" = true)
    (kMha_invert : PySem.W.keepIn K (.ref fMha_invert) = true)
    (aMha_and : PySem.W.findIn K (.ref Cha) "__and__" = some (some (.ref fMha_and)))
    (iMha_and : PySem.W.isFn K (.ref fMha_and) = true)
    (lMha_and : K.lookup fMha_and = some ⟨ocMha_and, odMha_and, .func (PySem.W.fnOf "__and__" "Halves.__and__" (defArgs s_Halves_and) (defBody s_Halves_and) (defScope s_Halves_and) .none kVMha_and dcMha_and pmMha_and anMha_and cdMha_and ctMha_and), slMha_and⟩)
    (cMha_and : PySem.W.codeIn K cdMha_and "Halves.__and__" = true)
    (kMha_and : PySem.W.keepIn K (.ref fMha_and) = true)
    (aMha_or : PySem.W.findIn K (.ref Cha) "__or__" = some (some (.ref fMha_or)))
    (iMha_or : PySem.W.isFn K (.ref fMha_or) = true)
    (lMha_or : K.lookup fMha_or = some ⟨ocMha_or, odMha_or, .func (PySem.W.fnOf "__or__" "Halves.__or__" (defArgs s_Halves_or) (defBody s_Halves_or) (defScope s_Halves_or) .none kVMha_or dcMha_or pmMha_or anMha_or cdMha_or ctMha_or), slMha_or⟩)
    (cMha_or : PySem.W.codeIn K cdMha_or "Halves.__or__" = true)
    (kMha_or : PySem.W.keepIn K (.ref fMha_or) = true)
    (aMha_add : PySem.W.findIn K (.ref Cha) "__add__" = some (some (.ref fMha_add)))
    (iMha_add : PySem.W.isFn K (.ref fMha_add) = true)
    (lMha_add : K.lookup fMha_add = some ⟨ocMha_add, odMha_add, .func (PySem.W.fnOf "__add__" "Halves.__add__" (defArgs s_Halves_add) (defBody s_Halves_add) (defScope s_Halves_add) .none kVMha_add dcMha_add pmMha_add anMha_add cdMha_add ctMha_add), slMha_add⟩)
    (cMha_add : PySem.W.codeIn K cdMha_add "Halves.__add__" = true)
    (kMha_add : PySem.W.keepIn K (.ref fMha_add) = true)
    (aMha_text : PySem.W.findIn K (.ref Cha) "text" = some (some (.ref fMha_text)))
    (iMha_text : PySem.W.isFn K (.ref fMha_text) = true)
    (lMha_text : K.lookup fMha_text = some ⟨ocMha_text, odMha_text, .func (PySem.W.fnOf "text" "Halves.text" (defArgs s_Halves_text) (defBody s_Halves_text) (defScope s_Halves_text) .none kVMha_text dcMha_text pmMha_text anMha_text cdMha_text ctMha_text), slMha_text⟩)
    (cMha_text : PySem.W.codeIn K cdMha_text "Halves.text" = true)
    (kMha_text : PySem.W.keepIn K (.ref fMha_text) = true)
    (aCbo : PySem.W.nsIn K mainGlobals "Boxes" = some (some (.ref Cbo)))
    (pgbo : PySem.W.plainGet K Cbo Str.empty = true)
    (hdbo : PySem.W.hasDictIn K Cbo = true)
    (pobo : PySem.W.plainOver K Cbo = true)
    (sabo : PySem.W.findIn K (.ref Cbo) "__setattr__" = some (some (.builtin "object.__setattr__")))
    (mkbo : PySem.W.makesIn K Cbo = true)
    (kcbo : PySem.W.keepIn K (.ref Cbo) = true)
    (sfbo : PySem.W.selfFirst K Cbo = true)
    (nbo_places : PySem.W.findIn K (.ref Cbo) "places" = some none)
    (nbo_most : PySem.W.findIn K (.ref Cbo) "most" = some none)
    (nbo_kind : PySem.W.findIn K (.ref Cbo) "kind" = some none)
    (nbo_word : PySem.W.findIn K (.ref Cbo) "word" = some none)
    (nbo_one : PySem.W.findIn K (.ref Cbo) "one" = some none)
    (nbo_other : PySem.W.findIn K (.ref Cbo) "other" = some none)
    (rbo_rand : PySem.W.findIn K (.ref Cbo) "__rand__" = some none)
    (rbo_ror : PySem.W.findIn K (.ref Cbo) "__ror__" = some none)
    (rbo_radd : PySem.W.findIn K (.ref Cbo) "__radd__" = some none)
    (aMbo_init : PySem.W.findIn K (.ref Cbo) "__init__" = some (some (.ref fMbo_init)))
    (iMbo_init : PySem.W.isFn K (.ref fMbo_init) = true)
    (lMbo_init : K.lookup fMbo_init = some ⟨ocMbo_init, odMbo_init, .func (PySem.W.fnOf "__init__" "Boxes.__init__" (defArgs s_Boxes_init) (defBody s_Boxes_init) (defScope s_Boxes_init) .none kVMbo_init dcMbo_init pmMbo_init anMbo_init cdMbo_init ctMbo_init), slMbo_init⟩)
    (cMbo_init : PySem.W.codeIn K cdMbo_init "Boxes.__init__" = true)
    (kMbo_init : PySem.W.keepIn K (.ref fMbo_init) = true)
    (aMbo_invert : PySem.W.findIn K (.ref Cbo) "__invert__" = some (some (.ref fMbo_invert)))
    (iMbo_invert : PySem.W.isFn K (.ref fMbo_invert) = true)
    (lMbo_invert : K.lookup fMbo_invert = some ⟨ocMbo_invert, odMbo_invert, .func (PySem.W.fnOf "__invert__" "Boxes.__invert__" (defArgs s_Boxes_invert) (defBody s_Boxes_invert) (defScope s_Boxes_invert) .none kVMbo_invert dcMbo_invert pmMbo_invert anMbo_invert cdMbo_invert ctMbo_invert), slMbo_invert⟩)
    (cMbo_invert : PySem.W.codeIn K cdMbo_invert "Boxes.__invert__" = true)
    (kMbo_invert : PySem.W.keepIn K (.ref fMbo_invert) = true)
    (aMbo_and : PySem.W.findIn K (.ref Cbo) "__and__" = some (some (.ref fMbo_and)))
    (iMbo_and : PySem.W.isFn K (.ref fMbo_and) = true)
    (lMbo_and : K.lookup fMbo_and = some ⟨ocMbo_and, odMbo_and, .func (PySem.W.fnOf "__and__" "Boxes.__and__" (defArgs s_Boxes_and) (defBody s_Boxes_and) (defScope s_Boxes_and) .none kVMbo_and dcMbo_and pmMbo_and anMbo_and cdMbo_and ctMbo_and), slMbo_and⟩)
    (cMbo_and : PySem.W.codeIn K cdMbo_and "Boxes.__and__" = true)
    (kMbo_and : PySem.W.keepIn K (.ref fMbo_and) = true)
    (aMbo_or : PySem.W.findIn K (.ref Cbo) "__or__" = some (some (.ref fMbo_or)))
    (iMbo_or : PySem.W.isFn K (.ref fMbo_or) = true)
    (lMbo_or : K.lookup fMbo_or = some ⟨ocMbo_or, odMbo_or, .func (PySem.W.fnOf "__or__" "Boxes.__or__" (defArgs s_Boxes_or) (defBody s_Boxes_or) (defScope s_Boxes_or) .none kVMbo_or dcMbo_or pmMbo_or anMbo_or cdMbo_or ctMbo_or), slMbo_or⟩)
    (cMbo_or : PySem.W.codeIn K cdMbo_or "Boxes.__or__" = true)
    (kMbo_or : PySem.W.keepIn K (.ref fMbo_or) = true)
    (aMbo_add : PySem.W.findIn K (.ref Cbo) "__add__" = some (some (.ref fMbo_add)))
    (iMbo_add : PySem.W.isFn K (.ref fMbo_add) = true)
    (lMbo_add : K.lookup fMbo_add = some ⟨ocMbo_add, odMbo_add, .func (PySem.W.fnOf "__add__" "Boxes.__add__" (defArgs s_Boxes_add) (defBody s_Boxes_add) (defScope s_Boxes_add) .none kVMbo_add dcMbo_add pmMbo_add anMbo_add cdMbo_add ctMbo_add), slMbo_add⟩)
    (cMbo_add : PySem.W.codeIn K cdMbo_add "Boxes.__add__" = true)
    (kMbo_add : PySem.W.keepIn K (.ref fMbo_add) = true)
    (aMbo_text : PySem.W.findIn K (.ref Cbo) "text" = some (some (.ref fMbo_text)))
    (iMbo_text : PySem.W.isFn K (.ref fMbo_text) = true)
    (lMbo_text : K.lookup fMbo_text = some ⟨ocMbo_text, odMbo_text, .func (PySem.W.fnOf "text" "Boxes.text" (defArgs s_Boxes_text) (defBody s_Boxes_text) (defScope s_Boxes_text) .none kVMbo_text dcMbo_text pmMbo_text anMbo_text cdMbo_text ctMbo_text), slMbo_text⟩)
    (cMbo_text : PySem.W.codeIn K cdMbo_text "Boxes.text" = true)
    (kMbo_text : PySem.W.keepIn K (.ref fMbo_text) = true)
    (aCri : PySem.W.nsIn K mainGlobals "Rising" = some (some (.ref Cri)))
    (pgri : PySem.W.plainGet K Cri Str.empty = true)
    (hdri : PySem.W.hasDictIn K Cri = true)
    (pori : PySem.W.plainOver K Cri = true)
    (sari : PySem.W.findIn K (.ref Cri) "__setattr__" = some (some (.builtin "object.__setattr__")))
    (mkri : PySem.W.makesIn K Cri = true)
    (kcri : PySem.W.keepIn K (.ref Cri) = true)
    (sfri : PySem.W.selfFirst K Cri = true)
    (nri_places : PySem.W.findIn K (.ref Cri) "places" = some none)
    (nri_most : PySem.W.findIn K (.ref Cri) "most" = some none)
    (nri_kind : PySem.W.findIn K (.ref Cri) "kind" = some none)
    (nri_word : PySem.W.findIn K (.ref Cri) "word" = some none)
    (nri_one : PySem.W.findIn K (.ref Cri) "one" = some none)
    (nri_other : PySem.W.findIn K (.ref Cri) "other" = some none)
    (rri_rand : PySem.W.findIn K (.ref Cri) "__rand__" = some none)
    (rri_ror : PySem.W.findIn K (.ref Cri) "__ror__" = some none)
    (rri_radd : PySem.W.findIn K (.ref Cri) "__radd__" = some none)
    (aMri_init : PySem.W.findIn K (.ref Cri) "__init__" = some (some (.ref fMri_init)))
    (iMri_init : PySem.W.isFn K (.ref fMri_init) = true)
    (lMri_init : K.lookup fMri_init = some ⟨ocMri_init, odMri_init, .func (PySem.W.fnOf "__init__" "Rising.__init__" (defArgs s_Rising_init) (defBody s_Rising_init) (defScope s_Rising_init) .none kVMri_init dcMri_init pmMri_init anMri_init cdMri_init ctMri_init), slMri_init⟩)
    (cMri_init : PySem.W.codeIn K cdMri_init "Rising.__init__" = true)
    (kMri_init : PySem.W.keepIn K (.ref fMri_init) = true)
    (aMri_invert : PySem.W.findIn K (.ref Cri) "__invert__" = some (some (.ref fMri_invert)))
    (iMri_invert : PySem.W.isFn K (.ref fMri_invert) = true)
    (lMri_invert : K.lookup fMri_invert = some ⟨ocMri_invert, odMri_invert, .func (PySem.W.fnOf "__invert__" "Rising.__invert__" (defArgs s_Rising_invert) (defBody s_Rising_invert) (defScope s_Rising_invert) .none kVMri_invert dcMri_invert pmMri_invert anMri_invert cdMri_invert ctMri_invert), slMri_invert⟩)
    (cMri_invert : PySem.W.codeIn K cdMri_invert "Rising.__invert__" = true)
    (kMri_invert : PySem.W.keepIn K (.ref fMri_invert) = true)
    (aMri_and : PySem.W.findIn K (.ref Cri) "__and__" = some (some (.ref fMri_and)))
    (iMri_and : PySem.W.isFn K (.ref fMri_and) = true)
    (lMri_and : K.lookup fMri_and = some ⟨ocMri_and, odMri_and, .func (PySem.W.fnOf "__and__" "Rising.__and__" (defArgs s_Rising_and) (defBody s_Rising_and) (defScope s_Rising_and) .none kVMri_and dcMri_and pmMri_and anMri_and cdMri_and ctMri_and), slMri_and⟩)
    (cMri_and : PySem.W.codeIn K cdMri_and "Rising.__and__" = true)
    (kMri_and : PySem.W.keepIn K (.ref fMri_and) = true)
    (aMri_or : PySem.W.findIn K (.ref Cri) "__or__" = some (some (.ref fMri_or)))
    (iMri_or : PySem.W.isFn K (.ref fMri_or) = true)
    (lMri_or : K.lookup fMri_or = some ⟨ocMri_or, odMri_or, .func (PySem.W.fnOf "__or__" "Rising.__or__" (defArgs s_Rising_or) (defBody s_Rising_or) (defScope s_Rising_or) .none kVMri_or dcMri_or pmMri_or anMri_or cdMri_or ctMri_or), slMri_or⟩)
    (cMri_or : PySem.W.codeIn K cdMri_or "Rising.__or__" = true)
    (kMri_or : PySem.W.keepIn K (.ref fMri_or) = true)
    (aMri_add : PySem.W.findIn K (.ref Cri) "__add__" = some (some (.ref fMri_add)))
    (iMri_add : PySem.W.isFn K (.ref fMri_add) = true)
    (lMri_add : K.lookup fMri_add = some ⟨ocMri_add, odMri_add, .func (PySem.W.fnOf "__add__" "Rising.__add__" (defArgs s_Rising_add) (defBody s_Rising_add) (defScope s_Rising_add) .none kVMri_add dcMri_add pmMri_add anMri_add cdMri_add ctMri_add), slMri_add⟩)
    (cMri_add : PySem.W.codeIn K cdMri_add "Rising.__add__" = true)
    (kMri_add : PySem.W.keepIn K (.ref fMri_add) = true)
    (aMri_text : PySem.W.findIn K (.ref Cri) "text" = some (some (.ref fMri_text)))
    (iMri_text : PySem.W.isFn K (.ref fMri_text) = true)
    (lMri_text : K.lookup fMri_text = some ⟨ocMri_text, odMri_text, .func (PySem.W.fnOf "text" "Rising.text" (defArgs s_Rising_text) (defBody s_Rising_text) (defScope s_Rising_text) .none kVMri_text dcMri_text pmMri_text anMri_text cdMri_text ctMri_text), slMri_text⟩)
    (cMri_text : PySem.W.codeIn K cdMri_text "Rising.text" = true)
    (kMri_text : PySem.W.keepIn K (.ref fMri_text) = true)
    (aCfl : PySem.W.nsIn K mainGlobals "Flats" = some (some (.ref Cfl)))
    (pgfl : PySem.W.plainGet K Cfl Str.empty = true)
    (hdfl : PySem.W.hasDictIn K Cfl = true)
    (pofl : PySem.W.plainOver K Cfl = true)
    (safl : PySem.W.findIn K (.ref Cfl) "__setattr__" = some (some (.builtin "object.__setattr__")))
    (mkfl : PySem.W.makesIn K Cfl = true)
    (kcfl : PySem.W.keepIn K (.ref Cfl) = true)
    (sffl : PySem.W.selfFirst K Cfl = true)
    (nfl_places : PySem.W.findIn K (.ref Cfl) "places" = some none)
    (nfl_most : PySem.W.findIn K (.ref Cfl) "most" = some none)
    (nfl_kind : PySem.W.findIn K (.ref Cfl) "kind" = some none)
    (nfl_word : PySem.W.findIn K (.ref Cfl) "word" = some none)
    (nfl_one : PySem.W.findIn K (.ref Cfl) "one" = some none)
    (nfl_other : PySem.W.findIn K (.ref Cfl) "other" = some none)
    (rfl_rand : PySem.W.findIn K (.ref Cfl) "__rand__" = some none)
    (rfl_ror : PySem.W.findIn K (.ref Cfl) "__ror__" = some none)
    (rfl_radd : PySem.W.findIn K (.ref Cfl) "__radd__" = some none)
    (aMfl_init : PySem.W.findIn K (.ref Cfl) "__init__" = some (some (.ref fMfl_init)))
    (iMfl_init : PySem.W.isFn K (.ref fMfl_init) = true)
    (lMfl_init : K.lookup fMfl_init = some ⟨ocMfl_init, odMfl_init, .func (PySem.W.fnOf "__init__" "Flats.__init__" (defArgs s_Flats_init) (defBody s_Flats_init) (defScope s_Flats_init) .none kVMfl_init dcMfl_init pmMfl_init anMfl_init cdMfl_init ctMfl_init), slMfl_init⟩)
    (cMfl_init : PySem.W.codeIn K cdMfl_init "Flats.__init__" = true)
    (kMfl_init : PySem.W.keepIn K (.ref fMfl_init) = true)
    (aMfl_invert : PySem.W.findIn K (.ref Cfl) "__invert__" = some (some (.ref fMfl_invert)))
    (iMfl_invert : PySem.W.isFn K (.ref fMfl_invert) = true)
    (lMfl_invert : K.lookup fMfl_invert = some ⟨ocMfl_invert, odMfl_invert, .func (PySem.W.fnOf "__invert__" "Flats.__invert__" (defArgs s_Flats_invert) (defBody s_Flats_invert) (defScope s_Flats_invert) .none kVMfl_invert dcMfl_invert pmMfl_invert anMfl_invert cdMfl_invert ctMfl_invert), slMfl_invert⟩)
    (cMfl_invert : PySem.W.codeIn K cdMfl_invert "Flats.__invert__" = true)
    (kMfl_invert : PySem.W.keepIn K (.ref fMfl_invert) = true)
    (aMfl_and : PySem.W.findIn K (.ref Cfl) "__and__" = some (some (.ref fMfl_and)))
    (iMfl_and : PySem.W.isFn K (.ref fMfl_and) = true)
    (lMfl_and : K.lookup fMfl_and = some ⟨ocMfl_and, odMfl_and, .func (PySem.W.fnOf "__and__" "Flats.__and__" (defArgs s_Flats_and) (defBody s_Flats_and) (defScope s_Flats_and) .none kVMfl_and dcMfl_and pmMfl_and anMfl_and cdMfl_and ctMfl_and), slMfl_and⟩)
    (cMfl_and : PySem.W.codeIn K cdMfl_and "Flats.__and__" = true)
    (kMfl_and : PySem.W.keepIn K (.ref fMfl_and) = true)
    (aMfl_or : PySem.W.findIn K (.ref Cfl) "__or__" = some (some (.ref fMfl_or)))
    (iMfl_or : PySem.W.isFn K (.ref fMfl_or) = true)
    (lMfl_or : K.lookup fMfl_or = some ⟨ocMfl_or, odMfl_or, .func (PySem.W.fnOf "__or__" "Flats.__or__" (defArgs s_Flats_or) (defBody s_Flats_or) (defScope s_Flats_or) .none kVMfl_or dcMfl_or pmMfl_or anMfl_or cdMfl_or ctMfl_or), slMfl_or⟩)
    (cMfl_or : PySem.W.codeIn K cdMfl_or "Flats.__or__" = true)
    (kMfl_or : PySem.W.keepIn K (.ref fMfl_or) = true)
    (aMfl_add : PySem.W.findIn K (.ref Cfl) "__add__" = some (some (.ref fMfl_add)))
    (iMfl_add : PySem.W.isFn K (.ref fMfl_add) = true)
    (lMfl_add : K.lookup fMfl_add = some ⟨ocMfl_add, odMfl_add, .func (PySem.W.fnOf "__add__" "Flats.__add__" (defArgs s_Flats_add) (defBody s_Flats_add) (defScope s_Flats_add) .none kVMfl_add dcMfl_add pmMfl_add anMfl_add cdMfl_add ctMfl_add), slMfl_add⟩)
    (cMfl_add : PySem.W.codeIn K cdMfl_add "Flats.__add__" = true)
    (kMfl_add : PySem.W.keepIn K (.ref fMfl_add) = true)
    (aMfl_text : PySem.W.findIn K (.ref Cfl) "text" = some (some (.ref fMfl_text)))
    (iMfl_text : PySem.W.isFn K (.ref fMfl_text) = true)
    (lMfl_text : K.lookup fMfl_text = some ⟨ocMfl_text, odMfl_text, .func (PySem.W.fnOf "text" "Flats.text" (defArgs s_Flats_text) (defBody s_Flats_text) (defScope s_Flats_text) .none kVMfl_text dcMfl_text pmMfl_text anMfl_text cdMfl_text ctMfl_text), slMfl_text⟩)
    (cMfl_text : PySem.W.codeIn K cdMfl_text "Flats.text" = true)
    (kMfl_text : PySem.W.keepIn K (.ref fMfl_text) = true)
    (aCtu : PySem.W.nsIn K mainGlobals "Turns" = some (some (.ref Ctu)))
    (pgtu : PySem.W.plainGet K Ctu Str.empty = true)
    (hdtu : PySem.W.hasDictIn K Ctu = true)
    (potu : PySem.W.plainOver K Ctu = true)
    (satu : PySem.W.findIn K (.ref Ctu) "__setattr__" = some (some (.builtin "object.__setattr__")))
    (mktu : PySem.W.makesIn K Ctu = true)
    (kctu : PySem.W.keepIn K (.ref Ctu) = true)
    (sftu : PySem.W.selfFirst K Ctu = true)
    (ntu_places : PySem.W.findIn K (.ref Ctu) "places" = some none)
    (ntu_most : PySem.W.findIn K (.ref Ctu) "most" = some none)
    (ntu_kind : PySem.W.findIn K (.ref Ctu) "kind" = some none)
    (ntu_word : PySem.W.findIn K (.ref Ctu) "word" = some none)
    (ntu_one : PySem.W.findIn K (.ref Ctu) "one" = some none)
    (ntu_other : PySem.W.findIn K (.ref Ctu) "other" = some none)
    (rtu_rand : PySem.W.findIn K (.ref Ctu) "__rand__" = some none)
    (rtu_ror : PySem.W.findIn K (.ref Ctu) "__ror__" = some none)
    (rtu_radd : PySem.W.findIn K (.ref Ctu) "__radd__" = some none)
    (aMtu_init : PySem.W.findIn K (.ref Ctu) "__init__" = some (some (.ref fMtu_init)))
    (iMtu_init : PySem.W.isFn K (.ref fMtu_init) = true)
    (lMtu_init : K.lookup fMtu_init = some ⟨ocMtu_init, odMtu_init, .func (PySem.W.fnOf "__init__" "Turns.__init__" (defArgs s_Turns_init) (defBody s_Turns_init) (defScope s_Turns_init) .none kVMtu_init dcMtu_init pmMtu_init anMtu_init cdMtu_init ctMtu_init), slMtu_init⟩)
    (cMtu_init : PySem.W.codeIn K cdMtu_init "Turns.__init__" = true)
    (kMtu_init : PySem.W.keepIn K (.ref fMtu_init) = true)
    (aMtu_invert : PySem.W.findIn K (.ref Ctu) "__invert__" = some (some (.ref fMtu_invert)))
    (iMtu_invert : PySem.W.isFn K (.ref fMtu_invert) = true)
    (lMtu_invert : K.lookup fMtu_invert = some ⟨ocMtu_invert, odMtu_invert, .func (PySem.W.fnOf "__invert__" "Turns.__invert__" (defArgs s_Turns_invert) (defBody s_Turns_invert) (defScope s_Turns_invert) .none kVMtu_invert dcMtu_invert pmMtu_invert anMtu_invert cdMtu_invert ctMtu_invert), slMtu_invert⟩)
    (cMtu_invert : PySem.W.codeIn K cdMtu_invert "Turns.__invert__" = true)
    (kMtu_invert : PySem.W.keepIn K (.ref fMtu_invert) = true)
    (aMtu_and : PySem.W.findIn K (.ref Ctu) "__and__" = some (some (.ref fMtu_and)))
    (iMtu_and : PySem.W.isFn K (.ref fMtu_and) = true)
    (lMtu_and : K.lookup fMtu_and = some ⟨ocMtu_and, odMtu_and, .func (PySem.W.fnOf "__and__" "Turns.__and__" (defArgs s_Turns_and) (defBody s_Turns_and) (defScope s_Turns_and) .none kVMtu_and dcMtu_and pmMtu_and anMtu_and cdMtu_and ctMtu_and), slMtu_and⟩)
    (cMtu_and : PySem.W.codeIn K cdMtu_and "Turns.__and__" = true)
    (kMtu_and : PySem.W.keepIn K (.ref fMtu_and) = true)
    (aMtu_or : PySem.W.findIn K (.ref Ctu) "__or__" = some (some (.ref fMtu_or)))
    (iMtu_or : PySem.W.isFn K (.ref fMtu_or) = true)
    (lMtu_or : K.lookup fMtu_or = some ⟨ocMtu_or, odMtu_or, .func (PySem.W.fnOf "__or__" "Turns.__or__" (defArgs s_Turns_or) (defBody s_Turns_or) (defScope s_Turns_or) .none kVMtu_or dcMtu_or pmMtu_or anMtu_or cdMtu_or ctMtu_or), slMtu_or⟩)
    (cMtu_or : PySem.W.codeIn K cdMtu_or "Turns.__or__" = true)
    (kMtu_or : PySem.W.keepIn K (.ref fMtu_or) = true)
    (aMtu_add : PySem.W.findIn K (.ref Ctu) "__add__" = some (some (.ref fMtu_add)))
    (iMtu_add : PySem.W.isFn K (.ref fMtu_add) = true)
    (lMtu_add : K.lookup fMtu_add = some ⟨ocMtu_add, odMtu_add, .func (PySem.W.fnOf "__add__" "Turns.__add__" (defArgs s_Turns_add) (defBody s_Turns_add) (defScope s_Turns_add) .none kVMtu_add dcMtu_add pmMtu_add anMtu_add cdMtu_add ctMtu_add), slMtu_add⟩)
    (cMtu_add : PySem.W.codeIn K cdMtu_add "Turns.__add__" = true)
    (kMtu_add : PySem.W.keepIn K (.ref fMtu_add) = true)
    (aMtu_text : PySem.W.findIn K (.ref Ctu) "text" = some (some (.ref fMtu_text)))
    (iMtu_text : PySem.W.isFn K (.ref fMtu_text) = true)
    (lMtu_text : K.lookup fMtu_text = some ⟨ocMtu_text, odMtu_text, .func (PySem.W.fnOf "text" "Turns.text" (defArgs s_Turns_text) (defBody s_Turns_text) (defScope s_Turns_text) .none kVMtu_text dcMtu_text pmMtu_text anMtu_text cdMtu_text ctMtu_text), slMtu_text⟩)
    (cMtu_text : PySem.W.codeIn K cdMtu_text "Turns.text" = true)
    (kMtu_text : PySem.W.keepIn K (.ref fMtu_text) = true)
    (aCco : PySem.W.nsIn K mainGlobals "Contrary" = some (some (.ref Cco)))
    (pgco : PySem.W.plainGet K Cco Str.empty = true)
    (hdco : PySem.W.hasDictIn K Cco = true)
    (poco : PySem.W.plainOver K Cco = true)
    (saco : PySem.W.findIn K (.ref Cco) "__setattr__" = some (some (.builtin "object.__setattr__")))
    (mkco : PySem.W.makesIn K Cco = true)
    (kcco : PySem.W.keepIn K (.ref Cco) = true)
    (sfco : PySem.W.selfFirst K Cco = true)
    (nco_places : PySem.W.findIn K (.ref Cco) "places" = some none)
    (nco_most : PySem.W.findIn K (.ref Cco) "most" = some none)
    (nco_kind : PySem.W.findIn K (.ref Cco) "kind" = some none)
    (nco_word : PySem.W.findIn K (.ref Cco) "word" = some none)
    (nco_one : PySem.W.findIn K (.ref Cco) "one" = some none)
    (nco_other : PySem.W.findIn K (.ref Cco) "other" = some none)
    (rco_rand : PySem.W.findIn K (.ref Cco) "__rand__" = some none)
    (rco_ror : PySem.W.findIn K (.ref Cco) "__ror__" = some none)
    (rco_radd : PySem.W.findIn K (.ref Cco) "__radd__" = some none)
    (aMco_init : PySem.W.findIn K (.ref Cco) "__init__" = some (some (.ref fMco_init)))
    (iMco_init : PySem.W.isFn K (.ref fMco_init) = true)
    (lMco_init : K.lookup fMco_init = some ⟨ocMco_init, odMco_init, .func (PySem.W.fnOf "__init__" "Contrary.__init__" (defArgs s_Contrary_init) (defBody s_Contrary_init) (defScope s_Contrary_init) .none kVMco_init dcMco_init pmMco_init anMco_init cdMco_init ctMco_init), slMco_init⟩)
    (cMco_init : PySem.W.codeIn K cdMco_init "Contrary.__init__" = true)
    (kMco_init : PySem.W.keepIn K (.ref fMco_init) = true)
    (aMco_invert : PySem.W.findIn K (.ref Cco) "__invert__" = some (some (.ref fMco_invert)))
    (iMco_invert : PySem.W.isFn K (.ref fMco_invert) = true)
    (lMco_invert : K.lookup fMco_invert = some ⟨ocMco_invert, odMco_invert, .func (PySem.W.fnOf "__invert__" "Contrary.__invert__" (defArgs s_Contrary_invert) (defBody s_Contrary_invert) (defScope s_Contrary_invert) .none kVMco_invert dcMco_invert pmMco_invert anMco_invert cdMco_invert ctMco_invert), slMco_invert⟩)
    (cMco_invert : PySem.W.codeIn K cdMco_invert "Contrary.__invert__" = true)
    (kMco_invert : PySem.W.keepIn K (.ref fMco_invert) = true)
    (aMco_and : PySem.W.findIn K (.ref Cco) "__and__" = some (some (.ref fMco_and)))
    (iMco_and : PySem.W.isFn K (.ref fMco_and) = true)
    (lMco_and : K.lookup fMco_and = some ⟨ocMco_and, odMco_and, .func (PySem.W.fnOf "__and__" "Contrary.__and__" (defArgs s_Contrary_and) (defBody s_Contrary_and) (defScope s_Contrary_and) .none kVMco_and dcMco_and pmMco_and anMco_and cdMco_and ctMco_and), slMco_and⟩)
    (cMco_and : PySem.W.codeIn K cdMco_and "Contrary.__and__" = true)
    (kMco_and : PySem.W.keepIn K (.ref fMco_and) = true)
    (aMco_or : PySem.W.findIn K (.ref Cco) "__or__" = some (some (.ref fMco_or)))
    (iMco_or : PySem.W.isFn K (.ref fMco_or) = true)
    (lMco_or : K.lookup fMco_or = some ⟨ocMco_or, odMco_or, .func (PySem.W.fnOf "__or__" "Contrary.__or__" (defArgs s_Contrary_or) (defBody s_Contrary_or) (defScope s_Contrary_or) .none kVMco_or dcMco_or pmMco_or anMco_or cdMco_or ctMco_or), slMco_or⟩)
    (cMco_or : PySem.W.codeIn K cdMco_or "Contrary.__or__" = true)
    (kMco_or : PySem.W.keepIn K (.ref fMco_or) = true)
    (aMco_add : PySem.W.findIn K (.ref Cco) "__add__" = some (some (.ref fMco_add)))
    (iMco_add : PySem.W.isFn K (.ref fMco_add) = true)
    (lMco_add : K.lookup fMco_add = some ⟨ocMco_add, odMco_add, .func (PySem.W.fnOf "__add__" "Contrary.__add__" (defArgs s_Contrary_add) (defBody s_Contrary_add) (defScope s_Contrary_add) .none kVMco_add dcMco_add pmMco_add anMco_add cdMco_add ctMco_add), slMco_add⟩)
    (cMco_add : PySem.W.codeIn K cdMco_add "Contrary.__add__" = true)
    (kMco_add : PySem.W.keepIn K (.ref fMco_add) = true)
    (aMco_text : PySem.W.findIn K (.ref Cco) "text" = some (some (.ref fMco_text)))
    (iMco_text : PySem.W.isFn K (.ref fMco_text) = true)
    (lMco_text : K.lookup fMco_text = some ⟨ocMco_text, odMco_text, .func (PySem.W.fnOf "text" "Contrary.text" (defArgs s_Contrary_text) (defBody s_Contrary_text) (defScope s_Contrary_text) .none kVMco_text dcMco_text pmMco_text anMco_text cdMco_text ctMco_text), slMco_text⟩)
    (cMco_text : PySem.W.codeIn K cdMco_text "Contrary.text" = true)
    (kMco_text : PySem.W.keepIn K (.ref fMco_text) = true)
    (aCpa : PySem.W.nsIn K mainGlobals "Pair" = some (some (.ref Cpa)))
    (pgpa : PySem.W.plainGet K Cpa Str.empty = true)
    (hdpa : PySem.W.hasDictIn K Cpa = true)
    (popa : PySem.W.plainOver K Cpa = true)
    (sapa : PySem.W.findIn K (.ref Cpa) "__setattr__" = some (some (.builtin "object.__setattr__")))
    (mkpa : PySem.W.makesIn K Cpa = true)
    (kcpa : PySem.W.keepIn K (.ref Cpa) = true)
    (sfpa : PySem.W.selfFirst K Cpa = true)
    (npa_places : PySem.W.findIn K (.ref Cpa) "places" = some none)
    (npa_most : PySem.W.findIn K (.ref Cpa) "most" = some none)
    (npa_kind : PySem.W.findIn K (.ref Cpa) "kind" = some none)
    (npa_word : PySem.W.findIn K (.ref Cpa) "word" = some none)
    (npa_one : PySem.W.findIn K (.ref Cpa) "one" = some none)
    (npa_other : PySem.W.findIn K (.ref Cpa) "other" = some none)
    (rpa_rand : PySem.W.findIn K (.ref Cpa) "__rand__" = some none)
    (rpa_ror : PySem.W.findIn K (.ref Cpa) "__ror__" = some none)
    (rpa_radd : PySem.W.findIn K (.ref Cpa) "__radd__" = some none)
    (aMpa_init : PySem.W.findIn K (.ref Cpa) "__init__" = some (some (.ref fMpa_init)))
    (iMpa_init : PySem.W.isFn K (.ref fMpa_init) = true)
    (lMpa_init : K.lookup fMpa_init = some ⟨ocMpa_init, odMpa_init, .func (PySem.W.fnOf "__init__" "Pair.__init__" (defArgs s_Pair_init) (defBody s_Pair_init) (defScope s_Pair_init) .none kVMpa_init dcMpa_init pmMpa_init anMpa_init cdMpa_init ctMpa_init), slMpa_init⟩)
    (cMpa_init : PySem.W.codeIn K cdMpa_init "Pair.__init__" = true)
    (kMpa_init : PySem.W.keepIn K (.ref fMpa_init) = true)
    (aMpa_invert : PySem.W.findIn K (.ref Cpa) "__invert__" = some (some (.ref fMpa_invert)))
    (iMpa_invert : PySem.W.isFn K (.ref fMpa_invert) = true)
    (lMpa_invert : K.lookup fMpa_invert = some ⟨ocMpa_invert, odMpa_invert, .func (PySem.W.fnOf "__invert__" "Pair.__invert__" (defArgs s_Pair_invert) (defBody s_Pair_invert) (defScope s_Pair_invert) .none kVMpa_invert dcMpa_invert pmMpa_invert anMpa_invert cdMpa_invert ctMpa_invert), slMpa_invert⟩)
    (cMpa_invert : PySem.W.codeIn K cdMpa_invert "Pair.__invert__" = true)
    (kMpa_invert : PySem.W.keepIn K (.ref fMpa_invert) = true)
    (aMpa_and : PySem.W.findIn K (.ref Cpa) "__and__" = some (some (.ref fMpa_and)))
    (iMpa_and : PySem.W.isFn K (.ref fMpa_and) = true)
    (lMpa_and : K.lookup fMpa_and = some ⟨ocMpa_and, odMpa_and, .func (PySem.W.fnOf "__and__" "Pair.__and__" (defArgs s_Pair_and) (defBody s_Pair_and) (defScope s_Pair_and) .none kVMpa_and dcMpa_and pmMpa_and anMpa_and cdMpa_and ctMpa_and), slMpa_and⟩)
    (cMpa_and : PySem.W.codeIn K cdMpa_and "Pair.__and__" = true)
    (kMpa_and : PySem.W.keepIn K (.ref fMpa_and) = true)
    (aMpa_or : PySem.W.findIn K (.ref Cpa) "__or__" = some (some (.ref fMpa_or)))
    (iMpa_or : PySem.W.isFn K (.ref fMpa_or) = true)
    (lMpa_or : K.lookup fMpa_or = some ⟨ocMpa_or, odMpa_or, .func (PySem.W.fnOf "__or__" "Pair.__or__" (defArgs s_Pair_or) (defBody s_Pair_or) (defScope s_Pair_or) .none kVMpa_or dcMpa_or pmMpa_or anMpa_or cdMpa_or ctMpa_or), slMpa_or⟩)
    (cMpa_or : PySem.W.codeIn K cdMpa_or "Pair.__or__" = true)
    (kMpa_or : PySem.W.keepIn K (.ref fMpa_or) = true)
    (aMpa_add : PySem.W.findIn K (.ref Cpa) "__add__" = some (some (.ref fMpa_add)))
    (iMpa_add : PySem.W.isFn K (.ref fMpa_add) = true)
    (lMpa_add : K.lookup fMpa_add = some ⟨ocMpa_add, odMpa_add, .func (PySem.W.fnOf "__add__" "Pair.__add__" (defArgs s_Pair_add) (defBody s_Pair_add) (defScope s_Pair_add) .none kVMpa_add dcMpa_add pmMpa_add anMpa_add cdMpa_add ctMpa_add), slMpa_add⟩)
    (cMpa_add : PySem.W.codeIn K cdMpa_add "Pair.__add__" = true)
    (kMpa_add : PySem.W.keepIn K (.ref fMpa_add) = true)
    (aMpa_text : PySem.W.findIn K (.ref Cpa) "text" = some (some (.ref fMpa_text)))
    (iMpa_text : PySem.W.isFn K (.ref fMpa_text) = true)
    (lMpa_text : K.lookup fMpa_text = some ⟨ocMpa_text, odMpa_text, .func (PySem.W.fnOf "text" "Pair.text" (defArgs s_Pair_text) (defBody s_Pair_text) (defScope s_Pair_text) .none kVMpa_text dcMpa_text pmMpa_text anMpa_text cdMpa_text ctMpa_text), slMpa_text⟩)
    (cMpa_text : PySem.W.codeIn K cdMpa_text "Pair.text" = true)
    (kMpa_text : PySem.W.keepIn K (.ref fMpa_text) = true)
    (uha_bo : PySem.W.subIn K (.ref Cha) (.ref Cbo) = some false)
    (uha_ri : PySem.W.subIn K (.ref Cha) (.ref Cri) = some false)
    (uha_fl : PySem.W.subIn K (.ref Cha) (.ref Cfl) = some false)
    (uha_tu : PySem.W.subIn K (.ref Cha) (.ref Ctu) = some false)
    (uha_co : PySem.W.subIn K (.ref Cha) (.ref Cco) = some false)
    (uha_pa : PySem.W.subIn K (.ref Cha) (.ref Cpa) = some false)
    (ubo_ha : PySem.W.subIn K (.ref Cbo) (.ref Cha) = some false)
    (ubo_ri : PySem.W.subIn K (.ref Cbo) (.ref Cri) = some false)
    (ubo_fl : PySem.W.subIn K (.ref Cbo) (.ref Cfl) = some false)
    (ubo_tu : PySem.W.subIn K (.ref Cbo) (.ref Ctu) = some false)
    (ubo_co : PySem.W.subIn K (.ref Cbo) (.ref Cco) = some false)
    (ubo_pa : PySem.W.subIn K (.ref Cbo) (.ref Cpa) = some false)
    (uri_ha : PySem.W.subIn K (.ref Cri) (.ref Cha) = some false)
    (uri_bo : PySem.W.subIn K (.ref Cri) (.ref Cbo) = some false)
    (uri_fl : PySem.W.subIn K (.ref Cri) (.ref Cfl) = some false)
    (uri_tu : PySem.W.subIn K (.ref Cri) (.ref Ctu) = some false)
    (uri_co : PySem.W.subIn K (.ref Cri) (.ref Cco) = some false)
    (uri_pa : PySem.W.subIn K (.ref Cri) (.ref Cpa) = some false)
    (ufl_ha : PySem.W.subIn K (.ref Cfl) (.ref Cha) = some false)
    (ufl_bo : PySem.W.subIn K (.ref Cfl) (.ref Cbo) = some false)
    (ufl_ri : PySem.W.subIn K (.ref Cfl) (.ref Cri) = some false)
    (ufl_tu : PySem.W.subIn K (.ref Cfl) (.ref Ctu) = some false)
    (ufl_co : PySem.W.subIn K (.ref Cfl) (.ref Cco) = some false)
    (ufl_pa : PySem.W.subIn K (.ref Cfl) (.ref Cpa) = some false)
    (utu_ha : PySem.W.subIn K (.ref Ctu) (.ref Cha) = some false)
    (utu_bo : PySem.W.subIn K (.ref Ctu) (.ref Cbo) = some false)
    (utu_ri : PySem.W.subIn K (.ref Ctu) (.ref Cri) = some false)
    (utu_fl : PySem.W.subIn K (.ref Ctu) (.ref Cfl) = some false)
    (utu_co : PySem.W.subIn K (.ref Ctu) (.ref Cco) = some false)
    (utu_pa : PySem.W.subIn K (.ref Ctu) (.ref Cpa) = some false)
    (uco_ha : PySem.W.subIn K (.ref Cco) (.ref Cha) = some false)
    (uco_bo : PySem.W.subIn K (.ref Cco) (.ref Cbo) = some false)
    (uco_ri : PySem.W.subIn K (.ref Cco) (.ref Cri) = some false)
    (uco_fl : PySem.W.subIn K (.ref Cco) (.ref Cfl) = some false)
    (uco_tu : PySem.W.subIn K (.ref Cco) (.ref Ctu) = some false)
    (uco_pa : PySem.W.subIn K (.ref Cco) (.ref Cpa) = some false)
    (upa_ha : PySem.W.subIn K (.ref Cpa) (.ref Cha) = some false)
    (upa_bo : PySem.W.subIn K (.ref Cpa) (.ref Cbo) = some false)
    (upa_ri : PySem.W.subIn K (.ref Cpa) (.ref Cri) = some false)
    (upa_fl : PySem.W.subIn K (.ref Cpa) (.ref Cfl) = some false)
    (upa_tu : PySem.W.subIn K (.ref Cpa) (.ref Ctu) = some false)
    (upa_co : PySem.W.subIn K (.ref Cpa) (.ref Cco) = some false)
    (hn : PySem.W.specialIn K (.builtin "object.__class__") "__get__" = some (some (.builtin "getset_descriptor.__get__")))
    (ht : PySem.W.takesIn K (.builtin "object.__class__") = some true)
    (aCBT : PySem.W.nsIn K mainGlobals "BadText" = some (some (.ref CBT)))
    (xLBT : K.lookup CBT = some (excClassObj nmBT qnBT CBT NBT bsBT (.ref Tc :: veL) true snBT sbBT abBT coBT ddBT p0BT p1BT p2BT p3BT p5BT "ValueError.__new__"))
    (saBT : PySem.W.findIn K (.ref CBT) "__setattr__" = some (some (.builtin "object.__setattr__")))
    (gaBT : PySem.W.findIn K (.ref CBT) "__getattribute__" = some (some (.builtin "BaseException.__getattribute__")))
    (ggBT : PySem.W.findIn K (.ref CBT) "__getattr__" = some none)
    (haBT : PySem.W.findIn K (.ref CBT) "__class__" = some (some (.builtin "object.__class__")))
    (kCBT : PySem.W.keepIn K (.ref CBT) = true)
    (nbBT : PySem.W.findIn K (.ref CBT) "index" = some none)
    (aiBT : PySem.W.findIn K (.ref CBT) "__init__" = some (some (.ref fBT)))
    (exBT : PySem.W.subIn K (.ref CBT) (.type "BaseException") = some true)
    (icBT : PySem.W.isClsIn K CBT = true)
    (tyBT : PySem.W.typeIn K (.ref CBT) = some (.type "type"))
    (selfBT : PySem.W.subIn K (.ref CBT) (.ref CBT) = some true)
    (tiBT : PySem.W.typeIn K (.ref fBT) = some (.type "function"))
    (lBT : K.lookup fBT = some ⟨ocBT, odBT, .func (PySem.W.fnOf "__init__" "BadText.__init__" (defArgs s_BadText_init) (defBody s_BadText_init) (defScope s_BadText_init) .none kVBT dcBT pmBT anBT cdBT ctBT), slBT⟩)
    (cBT : PySem.W.codeIn K cdBT "BadText.__init__" = true)
    (kBT : PySem.W.keepIn K (.ref fBT) = true)
    (cLEAST_PLACES : PySem.W.nsIn K mainGlobals "LEAST_PLACES" = some (some (.int 1 tLEAST_PLACES)))
    (cMOST_PLACES : PySem.W.nsIn K mainGlobals "MOST_PLACES" = some (some (.int 3 tMOST_PLACES)))
    (cGREATEST_MOST : PySem.W.nsIn K mainGlobals "GREATEST_MOST" = some (some (.int 6 tGREATEST_MOST)))
    (z_len : PySem.W.nsIn K mainGlobals "len" = some none)
    (z_int : PySem.W.nsIn K mainGlobals "int" = some none)
    (z_isinstance : PySem.W.nsIn K mainGlobals "isinstance" = some none)
    (z_list : PySem.W.nsIn K mainGlobals "list" = some none)
    (z_tuple : PySem.W.nsIn K mainGlobals "tuple" = some none)
    (z_bool : PySem.W.nsIn K mainGlobals "bool" = some none)
    (z_all : PySem.W.nsIn K mainGlobals "all" = some none)
    (z_zip : PySem.W.nsIn K mainGlobals "zip" = some none)
    (z_range : PySem.W.nsIn K mainGlobals "range" = some none)
    (z_enumerate : PySem.W.nsIn K mainGlobals "enumerate" = some none)
    (z_str : PySem.W.nsIn K mainGlobals "str" = some none)
    (z_min : PySem.W.nsIn K mainGlobals "min" = some none) :
    ∃ fd : FuncData, (∀ (s : Shared) (v : Value), BindsTo s fd ⟨[v], []⟩ [("_law_script", v)]) ∧ ∀ base : Heap, K.In base → base.Ns mainGlobals mg → FnOk l.prog w K mg base CX0 60 fa fd ["_law_script"] (spLaw43 K) := by
  have e := hfa.symm.trans (PySem.W.mg_of X G aL_law)
  cases e
  have M : ∀ {x : Str} {v : Value}, PySem.W.nsIn K mainGlobals x = some (some v) → mg x = some v := fun q => PySem.W.mg_of X G q
  have T : TxS mg := { m_len := PySem.W.mg_none_of X G z_len, m_int := PySem.W.mg_none_of X G z_int, m_isinstance := PySem.W.mg_none_of X G z_isinstance, m_list := PySem.W.mg_none_of X G z_list, m_tuple := PySem.W.mg_none_of X G z_tuple, m_bool := PySem.W.mg_none_of X G z_bool, m_all := PySem.W.mg_none_of X G z_all, m_zip := PySem.W.mg_none_of X G z_zip, m_range := PySem.W.mg_none_of X G z_range, m_enumerate := PySem.W.mg_none_of X G z_enumerate, m_str := PySem.W.mg_none_of X G z_str, m_min := PySem.W.mg_none_of X G z_min, c_LEAST_PLACES := ⟨_, M cLEAST_PLACES⟩, c_MOST_PLACES := ⟨_, M cMOST_PLACES⟩, c_GREATEST_MOST := ⟨_, M cGREATEST_MOST⟩ }
  have TS := T
  have TK := TS.toTxK
  have TF := TK.toTxF
  have TB := TF.toTxB
  have TR : TxR mg := { toTxF := TF }
  have GF_is_integer := fun_mk (st := s_is_integer) lF_is_integer cF_is_integer kF_is_integer
  have bF_is_integer := GF_is_integer.binds (ps := ["thing"]) fun _ _ _ _ _ _ us hl => match us, hl with | [_], _ => rfl
  have GF_is_number_of_places := fun_mk (st := s_is_number_of_places) lF_is_number_of_places cF_is_number_of_places kF_is_number_of_places
  have bF_is_number_of_places := GF_is_number_of_places.binds (ps := ["thing"]) fun _ _ _ _ _ _ us hl => match us, hl with | [_], _ => rfl
  have GF_check_number_of_places := fun_mk (st := s_check_number_of_places) lF_check_number_of_places cF_check_number_of_places kF_check_number_of_places
  have bF_check_number_of_places := GF_check_number_of_places.binds (ps := ["places"]) fun _ _ _ _ _ _ us hl => match us, hl with | [_], _ => rfl
  have GF_read_kind := fun_mk (st := s_read_kind) lF_read_kind cF_read_kind kF_read_kind
  have bF_read_kind := GF_read_kind.binds (ps := ["text"]) fun _ _ _ _ _ _ us hl => match us, hl with | [_], _ => rfl
  have GF_kind_at := fun_mk (st := s_kind_at) lF_kind_at cF_kind_at kF_kind_at
  have bF_kind_at := GF_kind_at.binds (ps := ["words", "at", "places"]) fun _ _ _ _ _ _ us hl => match us, hl with | [_, _, _], _ => rfl
  have GF_put_together := fun_mk (st := s_put_together) lF_put_together cF_put_together kF_put_together
  have bF_put_together := GF_put_together.binds (ps := ["word", "one", "other"]) fun _ _ _ _ _ _ us hl => match us, hl with | [_, _, _], _ => rfl
  have GF_plain_kind_at := fun_mk (st := s_plain_kind_at) lF_plain_kind_at cF_plain_kind_at kF_plain_kind_at
  have bF_plain_kind_at := GF_plain_kind_at.binds (ps := ["words", "at", "places"]) fun _ _ _ _ _ _ us hl => match us, hl with | [_, _, _], _ => rfl
  have GF_number_at := fun_mk (st := s_number_at) lF_number_at cF_number_at kF_number_at
  have bF_number_at := GF_number_at.binds (ps := ["words", "at", "least", "most"]) fun _ _ _ _ _ _ us hl => match us, hl with | [_, _, _, _], _ => rfl
  have GF_word_at := fun_mk (st := s_word_at) lF_word_at cF_word_at kF_word_at
  have bF_word_at := GF_word_at.binds (ps := ["words", "at"]) fun _ _ _ _ _ _ us hl => match us, hl with | [_, _], _ => rfl
  have GL_source := fun_mk (st := s_source) lL_source cL_source kL_source
  have bL_source := GL_source.binds (ps := ["_law_script", "_law_at"]) fun _ _ _ _ _ _ us hl => match us, hl with | [_, _], _ => rfl
  have GL_draw := fun_mk (st := s_draw) lL_draw cL_draw kL_draw
  have bL_draw := GL_draw.binds (ps := ["_law_draws", "_law_many"]) fun _ _ _ _ _ _ us hl => match us, hl with | [_, _], _ => rfl
  have GL_pick := fun_mk (st := s_pick) lL_pick cL_pick kL_pick
  have bL_pick := GL_pick.binds (ps := ["_law_draws", "_law_things"]) fun _ _ _ _ _ _ us hl => match us, hl with | [_, _], _ => rfl
  have GL_same := fun_mk (st := s_same) lL_same cL_same kL_same
  have bL_same := GL_same.binds (ps := ["_law_found", "_law_due_here"]) fun _ _ _ _ _ _ us hl => match us, hl with | [_, _], _ => rfl
  have GL_plain := fun_mk (st := s_plain) lL_plain cL_plain kL_plain
  have bL_plain := GL_plain.binds (ps := ["_law_draws", "_law_places"]) fun _ _ _ _ _ _ us hl => match us, hl with | [_, _], _ => rfl
  have GL_spec := fun_mk (st := s_spec) lL_spec cL_spec kL_spec
  have bL_spec := GL_spec.binds (ps := ["_law_draws", "_law_places", "_law_deep"]) fun _ _ _ _ _ _ us hl => match us, hl with | [_, _, _], _ => rfl
  have GL_part := fun_mk (st := s_part) lL_part cL_part kL_part
  have bL_part := GL_part.binds (ps := ["_law_draws", "_law_places"]) fun _ _ _ _ _ _ us hl => match us, hl with | [_, _], _ => rfl
  have GL_joint := fun_mk (st := s_joint) lL_joint cL_joint kL_joint
  have bL_joint := GL_joint.binds (ps := ["_law_draws", "_law_places", "_law_deep"]) fun _ _ _ _ _ _ us hl => match us, hl with | [_, _, _], _ => rfl
  have GL_pair := fun_mk (st := s_pair) lL_pair cL_pair kL_pair
  have bL_pair := GL_pair.binds (ps := ["_law_draws", "_law_places", "_law_deep"]) fun _ _ _ _ _ _ us hl => match us, hl with | [_, _, _], _ => rfl
  have GL_words := fun_mk (st := s_words) lL_words cL_words kL_words
  have bL_words := GL_words.binds (ps := ["_law_spec_here"]) fun _ _ _ _ _ _ us hl => match us, hl with | [_], _ => rfl
  have GL_end := fun_mk (st := s_end) lL_end cL_end kL_end
  have bL_end := GL_end.binds (ps := ["_law_words_here", "_law_at", "_law_here"]) fun _ _ _ _ _ _ us hl => match us, hl with | [_, _, _], _ => rfl
  have GL_due := fun_mk (st := s_due) lL_due cL_due kL_due
  have bL_due := GL_due.binds (ps := ["_law_words_here"]) fun _ _ _ _ _ _ us hl => match us, hl with | [_], _ => rfl
  have GL_bent := fun_mk (st := s_bent) lL_bent cL_bent kL_bent
  have bL_bent := GL_bent.binds (ps := ["_law_draws", "_law_words_here"]) fun _ _ _ _ _ _ us hl => match us, hl with | [_, _], _ => rfl
  have GL_met := fun_mk (st := s_met) lL_met cL_met kL_met
  have bL_met := GL_met.binds (ps := ["_law_text"]) fun _ _ _ _ _ _ us hl => match us, hl with | [_], _ => rfl
  have GL_law := fun_mk (st := s_law) lL_law cL_law kL_law
  have GMha_init := fun_mk (st := s_Halves_init) lMha_init cMha_init kMha_init
  have bMha_init := GMha_init.binds (ps := ["self", "places"]) fun _ _ _ _ _ _ us hl => match us, hl with | [_, _], _ => rfl
  have GMha_invert := fun_mk (st := s_Halves_invert) lMha_invert cMha_invert kMha_invert
  have bMha_invert := GMha_invert.binds (ps := ["self"]) fun _ _ _ _ _ _ us hl => match us, hl with | [_], _ => rfl
  have GMha_and := fun_mk (st := s_Halves_and) lMha_and cMha_and kMha_and
  have bMha_and := GMha_and.binds (ps := ["self", "other"]) fun _ _ _ _ _ _ us hl => match us, hl with | [_, _], _ => rfl
  have GMha_or := fun_mk (st := s_Halves_or) lMha_or cMha_or kMha_or
  have bMha_or := GMha_or.binds (ps := ["self", "other"]) fun _ _ _ _ _ _ us hl => match us, hl with | [_, _], _ => rfl
  have GMha_add := fun_mk (st := s_Halves_add) lMha_add cMha_add kMha_add
  have bMha_add := GMha_add.binds (ps := ["self", "other"]) fun _ _ _ _ _ _ us hl => match us, hl with | [_, _], _ => rfl
  have GMha_text := fun_mk (st := s_Halves_text) lMha_text cMha_text kMha_text
  have bMha_text := GMha_text.binds (ps := ["self"]) fun _ _ _ _ _ _ us hl => match us, hl with | [_], _ => rfl
  have GMbo_init := fun_mk (st := s_Boxes_init) lMbo_init cMbo_init kMbo_init
  have bMbo_init := GMbo_init.binds (ps := ["self", "places"]) fun _ _ _ _ _ _ us hl => match us, hl with | [_, _], _ => rfl
  have GMbo_invert := fun_mk (st := s_Boxes_invert) lMbo_invert cMbo_invert kMbo_invert
  have bMbo_invert := GMbo_invert.binds (ps := ["self"]) fun _ _ _ _ _ _ us hl => match us, hl with | [_], _ => rfl
  have GMbo_and := fun_mk (st := s_Boxes_and) lMbo_and cMbo_and kMbo_and
  have bMbo_and := GMbo_and.binds (ps := ["self", "other"]) fun _ _ _ _ _ _ us hl => match us, hl with | [_, _], _ => rfl
  have GMbo_or := fun_mk (st := s_Boxes_or) lMbo_or cMbo_or kMbo_or
  have bMbo_or := GMbo_or.binds (ps := ["self", "other"]) fun _ _ _ _ _ _ us hl => match us, hl with | [_, _], _ => rfl
  have GMbo_add := fun_mk (st := s_Boxes_add) lMbo_add cMbo_add kMbo_add
  have bMbo_add := GMbo_add.binds (ps := ["self", "other"]) fun _ _ _ _ _ _ us hl => match us, hl with | [_, _], _ => rfl
  have GMbo_text := fun_mk (st := s_Boxes_text) lMbo_text cMbo_text kMbo_text
  have bMbo_text := GMbo_text.binds (ps := ["self"]) fun _ _ _ _ _ _ us hl => match us, hl with | [_], _ => rfl
  have GMri_init := fun_mk (st := s_Rising_init) lMri_init cMri_init kMri_init
  have bMri_init := GMri_init.binds (ps := ["self", "places"]) fun _ _ _ _ _ _ us hl => match us, hl with | [_, _], _ => rfl
  have GMri_invert := fun_mk (st := s_Rising_invert) lMri_invert cMri_invert kMri_invert
  have bMri_invert := GMri_invert.binds (ps := ["self"]) fun _ _ _ _ _ _ us hl => match us, hl with | [_], _ => rfl
  have GMri_and := fun_mk (st := s_Rising_and) lMri_and cMri_and kMri_and
  have bMri_and := GMri_and.binds (ps := ["self", "other"]) fun _ _ _ _ _ _ us hl => match us, hl with | [_, _], _ => rfl
  have GMri_or := fun_mk (st := s_Rising_or) lMri_or cMri_or kMri_or
  have bMri_or := GMri_or.binds (ps := ["self", "other"]) fun _ _ _ _ _ _ us hl => match us, hl with | [_, _], _ => rfl
  have GMri_add := fun_mk (st := s_Rising_add) lMri_add cMri_add kMri_add
  have bMri_add := GMri_add.binds (ps := ["self", "other"]) fun _ _ _ _ _ _ us hl => match us, hl with | [_, _], _ => rfl
  have GMri_text := fun_mk (st := s_Rising_text) lMri_text cMri_text kMri_text
  have bMri_text := GMri_text.binds (ps := ["self"]) fun _ _ _ _ _ _ us hl => match us, hl with | [_], _ => rfl
  have GMfl_init := fun_mk (st := s_Flats_init) lMfl_init cMfl_init kMfl_init
  have bMfl_init := GMfl_init.binds (ps := ["self", "places"]) fun _ _ _ _ _ _ us hl => match us, hl with | [_, _], _ => rfl
  have GMfl_invert := fun_mk (st := s_Flats_invert) lMfl_invert cMfl_invert kMfl_invert
  have bMfl_invert := GMfl_invert.binds (ps := ["self"]) fun _ _ _ _ _ _ us hl => match us, hl with | [_], _ => rfl
  have GMfl_and := fun_mk (st := s_Flats_and) lMfl_and cMfl_and kMfl_and
  have bMfl_and := GMfl_and.binds (ps := ["self", "other"]) fun _ _ _ _ _ _ us hl => match us, hl with | [_, _], _ => rfl
  have GMfl_or := fun_mk (st := s_Flats_or) lMfl_or cMfl_or kMfl_or
  have bMfl_or := GMfl_or.binds (ps := ["self", "other"]) fun _ _ _ _ _ _ us hl => match us, hl with | [_, _], _ => rfl
  have GMfl_add := fun_mk (st := s_Flats_add) lMfl_add cMfl_add kMfl_add
  have bMfl_add := GMfl_add.binds (ps := ["self", "other"]) fun _ _ _ _ _ _ us hl => match us, hl with | [_, _], _ => rfl
  have GMfl_text := fun_mk (st := s_Flats_text) lMfl_text cMfl_text kMfl_text
  have bMfl_text := GMfl_text.binds (ps := ["self"]) fun _ _ _ _ _ _ us hl => match us, hl with | [_], _ => rfl
  have GMtu_init := fun_mk (st := s_Turns_init) lMtu_init cMtu_init kMtu_init
  have bMtu_init := GMtu_init.binds (ps := ["self", "most"]) fun _ _ _ _ _ _ us hl => match us, hl with | [_, _], _ => rfl
  have GMtu_invert := fun_mk (st := s_Turns_invert) lMtu_invert cMtu_invert kMtu_invert
  have bMtu_invert := GMtu_invert.binds (ps := ["self"]) fun _ _ _ _ _ _ us hl => match us, hl with | [_], _ => rfl
  have GMtu_and := fun_mk (st := s_Turns_and) lMtu_and cMtu_and kMtu_and
  have bMtu_and := GMtu_and.binds (ps := ["self", "other"]) fun _ _ _ _ _ _ us hl => match us, hl with | [_, _], _ => rfl
  have GMtu_or := fun_mk (st := s_Turns_or) lMtu_or cMtu_or kMtu_or
  have bMtu_or := GMtu_or.binds (ps := ["self", "other"]) fun _ _ _ _ _ _ us hl => match us, hl with | [_, _], _ => rfl
  have GMtu_add := fun_mk (st := s_Turns_add) lMtu_add cMtu_add kMtu_add
  have bMtu_add := GMtu_add.binds (ps := ["self", "other"]) fun _ _ _ _ _ _ us hl => match us, hl with | [_, _], _ => rfl
  have GMtu_text := fun_mk (st := s_Turns_text) lMtu_text cMtu_text kMtu_text
  have bMtu_text := GMtu_text.binds (ps := ["self"]) fun _ _ _ _ _ _ us hl => match us, hl with | [_], _ => rfl
  have GMco_init := fun_mk (st := s_Contrary_init) lMco_init cMco_init kMco_init
  have bMco_init := GMco_init.binds (ps := ["self", "kind"]) fun _ _ _ _ _ _ us hl => match us, hl with | [_, _], _ => rfl
  have GMco_invert := fun_mk (st := s_Contrary_invert) lMco_invert cMco_invert kMco_invert
  have bMco_invert := GMco_invert.binds (ps := ["self"]) fun _ _ _ _ _ _ us hl => match us, hl with | [_], _ => rfl
  have GMco_and := fun_mk (st := s_Contrary_and) lMco_and cMco_and kMco_and
  have bMco_and := GMco_and.binds (ps := ["self", "other"]) fun _ _ _ _ _ _ us hl => match us, hl with | [_, _], _ => rfl
  have GMco_or := fun_mk (st := s_Contrary_or) lMco_or cMco_or kMco_or
  have bMco_or := GMco_or.binds (ps := ["self", "other"]) fun _ _ _ _ _ _ us hl => match us, hl with | [_, _], _ => rfl
  have GMco_add := fun_mk (st := s_Contrary_add) lMco_add cMco_add kMco_add
  have bMco_add := GMco_add.binds (ps := ["self", "other"]) fun _ _ _ _ _ _ us hl => match us, hl with | [_, _], _ => rfl
  have GMco_text := fun_mk (st := s_Contrary_text) lMco_text cMco_text kMco_text
  have bMco_text := GMco_text.binds (ps := ["self"]) fun _ _ _ _ _ _ us hl => match us, hl with | [_], _ => rfl
  have GMpa_init := fun_mk (st := s_Pair_init) lMpa_init cMpa_init kMpa_init
  have bMpa_init := GMpa_init.binds (ps := ["self", "word", "one", "other"]) fun _ _ _ _ _ _ us hl => match us, hl with | [_, _, _, _], _ => rfl
  have GMpa_invert := fun_mk (st := s_Pair_invert) lMpa_invert cMpa_invert kMpa_invert
  have bMpa_invert := GMpa_invert.binds (ps := ["self"]) fun _ _ _ _ _ _ us hl => match us, hl with | [_], _ => rfl
  have GMpa_and := fun_mk (st := s_Pair_and) lMpa_and cMpa_and kMpa_and
  have bMpa_and := GMpa_and.binds (ps := ["self", "other"]) fun _ _ _ _ _ _ us hl => match us, hl with | [_, _], _ => rfl
  have GMpa_or := fun_mk (st := s_Pair_or) lMpa_or cMpa_or kMpa_or
  have bMpa_or := GMpa_or.binds (ps := ["self", "other"]) fun _ _ _ _ _ _ us hl => match us, hl with | [_, _], _ => rfl
  have GMpa_add := fun_mk (st := s_Pair_add) lMpa_add cMpa_add kMpa_add
  have bMpa_add := GMpa_add.binds (ps := ["self", "other"]) fun _ _ _ _ _ _ us hl => match us, hl with | [_, _], _ => rfl
  have GMpa_text := fun_mk (st := s_Pair_text) lMpa_text cMpa_text kMpa_text
  have bMpa_text := GMpa_text.binds (ps := ["self"]) fun _ _ _ _ _ _ us hl => match us, hl with | [_], _ => rfl
  have GBT := fun_mk (st := s_BadText_init) lBT cBT kBT
  have bBT := GBT.binds (ps := ["self", "index"]) fun _ _ _ _ _ _ us hl => match us, hl with | [_, _], _ => rfl
  let c : KC := (fun i => match i with | .ha => Cha | .bo => Cbo | .ri => Cri | .fl => Cfl | .tu => Ctu | .co => Cco | .pa => Cpa)
  have S : KCl K c := ⟨fun i => by cases i <;> first | exact ⟨pgha, hdha, poha, saha⟩ | exact ⟨pgbo, hdbo, pobo, sabo⟩ | exact ⟨pgri, hdri, pori, sari⟩ | exact ⟨pgfl, hdfl, pofl, safl⟩ | exact ⟨pgtu, hdtu, potu, satu⟩ | exact ⟨pgco, hdco, poco, saco⟩ | exact ⟨pgpa, hdpa, popa, sapa⟩, fun i f hf => by
    simp only [List.mem_cons, List.not_mem_nil, or_false] at hf
    cases i <;> rcases hf with rfl | rfl | rfl | rfl | rfl | rfl <;> first | exact nha_places | exact nha_most | exact nha_kind | exact nha_word | exact nha_one | exact nha_other | exact nbo_places | exact nbo_most | exact nbo_kind | exact nbo_word | exact nbo_one | exact nbo_other | exact nri_places | exact nri_most | exact nri_kind | exact nri_word | exact nri_one | exact nri_other | exact nfl_places | exact nfl_most | exact nfl_kind | exact nfl_word | exact nfl_one | exact nfl_other | exact ntu_places | exact ntu_most | exact ntu_kind | exact ntu_word | exact ntu_one | exact ntu_other | exact nco_places | exact nco_most | exact nco_kind | exact nco_word | exact nco_one | exact nco_other | exact npa_places | exact npa_most | exact npa_kind | exact npa_word | exact npa_one | exact npa_other⟩
  refine ⟨PySem.W.fnOf "law" "law" (defArgs s_law) (defBody s_law) (defScope s_law) .none kVL_law dcL_law pmL_law anL_law cdL_law ctL_law, fun s v => .of_eq rfl, fun base _ _ => ?_⟩
  have D_int : DefAt l.prog w K mg base "is_integer" 1 ["thing"] (spB K isI) := ⟨_, _, ok_is_integer GF_is_integer TF, M aF_is_integer, kF_is_integer, bF_is_integer⟩
  have D_num : DefAt l.prog w K mg base "is_number_of_places" 2 ["thing"] (spB K isN) := ⟨_, _, ok_is_number_of_places GF_is_number_of_places TF D_int, M aF_is_number_of_places, kF_is_number_of_places, bF_is_number_of_places⟩
  have D_chk : DefAt l.prog w K mg base "_check_number_of_places" 3 ["places"] (spCheckP) := ⟨_, _, ok_checkP GF_check_number_of_places TK D_num, M aF_check_number_of_places, kF_check_number_of_places, bF_check_number_of_places⟩
  have NC : Mak l.prog w K mg base 1 "Contrary" (c .co) (spIC c) [] := ⟨_, _, _, _, ⟨mkco, aMco_init, iMco_init, kcco⟩, ok_Contrary_init GMco_init S, M aCco, bMco_init, .nil⟩
  have NP : Mak l.prog w K mg base 1 "Pair" (c .pa) (spIP c) [] := ⟨_, _, _, _, ⟨mkpa, aMpa_init, iMpa_init, kcpa⟩, ok_Pair_init GMpa_init S, M aCpa, bMpa_init, .nil⟩
  have N : KMk l.prog w K mg base c := ⟨⟨_, _, _, _, ⟨mkha, aMha_init, iMha_init, kcha⟩, ok_Halves_init GMha_init TK S D_chk, M aCha, bMha_init, .nil⟩, ⟨_, _, _, _, ⟨mkbo, aMbo_init, iMbo_init, kcbo⟩, ok_Boxes_init GMbo_init TK S D_chk, M aCbo, bMbo_init, .nil⟩, ⟨_, _, _, _, ⟨mkri, aMri_init, iMri_init, kcri⟩, ok_Rising_init GMri_init TK S D_chk, M aCri, bMri_init, .nil⟩, ⟨_, _, _, _, ⟨mkfl, aMfl_init, iMfl_init, kcfl⟩, ok_Flats_init GMfl_init TK S D_chk, M aCfl, bMfl_init, .nil⟩, ⟨_, _, _, _, ⟨mktu, aMtu_init, iMtu_init, kctu⟩, ok_Turns_init GMtu_init TK S D_int, M aCtu, bMtu_init, .nil⟩⟩
  have inv : ∀ i, InvI l.prog w K mg base (c i) (spInv K c) := fun i => by
    cases i
    · exact ⟨_, _, ok_Halves_invert GMha_invert NC, aMha_invert, iMha_invert, bMha_invert⟩
    · exact ⟨_, _, ok_Boxes_invert GMbo_invert NC, aMbo_invert, iMbo_invert, bMbo_invert⟩
    · exact ⟨_, _, ok_Rising_invert GMri_invert NC, aMri_invert, iMri_invert, bMri_invert⟩
    · exact ⟨_, _, ok_Flats_invert GMfl_invert NC, aMfl_invert, iMfl_invert, bMfl_invert⟩
    · exact ⟨_, _, ok_Turns_invert GMtu_invert NC, aMtu_invert, iMtu_invert, bMtu_invert⟩
    · exact ⟨_, _, ok_Contrary_invert GMco_invert NC, aMco_invert, iMco_invert, bMco_invert⟩
    · exact ⟨_, _, ok_Pair_invert GMpa_invert NC, aMpa_invert, iMpa_invert, bMpa_invert⟩
  have op_and : ∀ i, OpI l.prog w K mg base (c i) .BitAnd (spPr c .both) := fun i => by
    cases i
    · exact ⟨_, _, ok_Halves_and GMha_and NP, ⟨sfha, by rw [dn_and.1]; exact aMha_and, iMha_and, by rw [dn_and.2]; exact rha_rand⟩, bMha_and⟩
    · exact ⟨_, _, ok_Boxes_and GMbo_and NP, ⟨sfbo, by rw [dn_and.1]; exact aMbo_and, iMbo_and, by rw [dn_and.2]; exact rbo_rand⟩, bMbo_and⟩
    · exact ⟨_, _, ok_Rising_and GMri_and NP, ⟨sfri, by rw [dn_and.1]; exact aMri_and, iMri_and, by rw [dn_and.2]; exact rri_rand⟩, bMri_and⟩
    · exact ⟨_, _, ok_Flats_and GMfl_and NP, ⟨sffl, by rw [dn_and.1]; exact aMfl_and, iMfl_and, by rw [dn_and.2]; exact rfl_rand⟩, bMfl_and⟩
    · exact ⟨_, _, ok_Turns_and GMtu_and NP, ⟨sftu, by rw [dn_and.1]; exact aMtu_and, iMtu_and, by rw [dn_and.2]; exact rtu_rand⟩, bMtu_and⟩
    · exact ⟨_, _, ok_Contrary_and GMco_and NP, ⟨sfco, by rw [dn_and.1]; exact aMco_and, iMco_and, by rw [dn_and.2]; exact rco_rand⟩, bMco_and⟩
    · exact ⟨_, _, ok_Pair_and GMpa_and NP, ⟨sfpa, by rw [dn_and.1]; exact aMpa_and, iMpa_and, by rw [dn_and.2]; exact rpa_rand⟩, bMpa_and⟩
  have op_or : ∀ i, OpI l.prog w K mg base (c i) .BitOr (spPr c .either) := fun i => by
    cases i
    · exact ⟨_, _, ok_Halves_or GMha_or NP, ⟨sfha, by rw [dn_or.1]; exact aMha_or, iMha_or, by rw [dn_or.2]; exact rha_ror⟩, bMha_or⟩
    · exact ⟨_, _, ok_Boxes_or GMbo_or NP, ⟨sfbo, by rw [dn_or.1]; exact aMbo_or, iMbo_or, by rw [dn_or.2]; exact rbo_ror⟩, bMbo_or⟩
    · exact ⟨_, _, ok_Rising_or GMri_or NP, ⟨sfri, by rw [dn_or.1]; exact aMri_or, iMri_or, by rw [dn_or.2]; exact rri_ror⟩, bMri_or⟩
    · exact ⟨_, _, ok_Flats_or GMfl_or NP, ⟨sffl, by rw [dn_or.1]; exact aMfl_or, iMfl_or, by rw [dn_or.2]; exact rfl_ror⟩, bMfl_or⟩
    · exact ⟨_, _, ok_Turns_or GMtu_or NP, ⟨sftu, by rw [dn_or.1]; exact aMtu_or, iMtu_or, by rw [dn_or.2]; exact rtu_ror⟩, bMtu_or⟩
    · exact ⟨_, _, ok_Contrary_or GMco_or NP, ⟨sfco, by rw [dn_or.1]; exact aMco_or, iMco_or, by rw [dn_or.2]; exact rco_ror⟩, bMco_or⟩
    · exact ⟨_, _, ok_Pair_or GMpa_or NP, ⟨sfpa, by rw [dn_or.1]; exact aMpa_or, iMpa_or, by rw [dn_or.2]; exact rpa_ror⟩, bMpa_or⟩
  have op_add : ∀ i, OpI l.prog w K mg base (c i) .Add (spPr c .any) := fun i => by
    cases i
    · exact ⟨_, _, ok_Halves_add GMha_add NP, ⟨sfha, by rw [dn_add.1]; exact aMha_add, iMha_add, by rw [dn_add.2]; exact rha_radd⟩, bMha_add⟩
    · exact ⟨_, _, ok_Boxes_add GMbo_add NP, ⟨sfbo, by rw [dn_add.1]; exact aMbo_add, iMbo_add, by rw [dn_add.2]; exact rbo_radd⟩, bMbo_add⟩
    · exact ⟨_, _, ok_Rising_add GMri_add NP, ⟨sfri, by rw [dn_add.1]; exact aMri_add, iMri_add, by rw [dn_add.2]; exact rri_radd⟩, bMri_add⟩
    · exact ⟨_, _, ok_Flats_add GMfl_add NP, ⟨sffl, by rw [dn_add.1]; exact aMfl_add, iMfl_add, by rw [dn_add.2]; exact rfl_radd⟩, bMfl_add⟩
    · exact ⟨_, _, ok_Turns_add GMtu_add NP, ⟨sftu, by rw [dn_add.1]; exact aMtu_add, iMtu_add, by rw [dn_add.2]; exact rtu_radd⟩, bMtu_add⟩
    · exact ⟨_, _, ok_Contrary_add GMco_add NP, ⟨sfco, by rw [dn_add.1]; exact aMco_add, iMco_add, by rw [dn_add.2]; exact rco_radd⟩, bMco_add⟩
    · exact ⟨_, _, ok_Pair_add GMpa_add NP, ⟨sfpa, by rw [dn_add.1]; exact aMpa_add, iMpa_add, by rw [dn_add.2]; exact rpa_radd⟩, bMpa_add⟩
  have sub : ∀ i j, c i = c j ∨ PySem.W.subIn K (.ref (c j)) (.ref (c i)) = some false := fun i j => by
    cases i <;> cases j <;> first | exact .inl rfl | exact .inr uha_bo | exact .inr uha_ri | exact .inr uha_fl | exact .inr uha_tu | exact .inr uha_co | exact .inr uha_pa | exact .inr ubo_ha | exact .inr ubo_ri | exact .inr ubo_fl | exact .inr ubo_tu | exact .inr ubo_co | exact .inr ubo_pa | exact .inr uri_ha | exact .inr uri_bo | exact .inr uri_fl | exact .inr uri_tu | exact .inr uri_co | exact .inr uri_pa | exact .inr ufl_ha | exact .inr ufl_bo | exact .inr ufl_ri | exact .inr ufl_tu | exact .inr ufl_co | exact .inr ufl_pa | exact .inr utu_ha | exact .inr utu_bo | exact .inr utu_ri | exact .inr utu_fl | exact .inr utu_co | exact .inr utu_pa | exact .inr uco_ha | exact .inr uco_bo | exact .inr uco_ri | exact .inr uco_fl | exact .inr uco_tu | exact .inr uco_pa | exact .inr upa_ha | exact .inr upa_bo | exact .inr upa_ri | exact .inr upa_fl | exact .inr upa_tu | exact .inr upa_co
  have O : KOp l.prog w K mg base c := ⟨inv, op_and, op_or, op_add, sub⟩
  have XF : TextFs K c := ⟨⟨_, _, ⟨aMha_text, iMha_text, kMha_text⟩, GMha_text, bMha_text⟩, ⟨_, _, ⟨aMbo_text, iMbo_text, kMbo_text⟩, GMbo_text, bMbo_text⟩, ⟨_, _, ⟨aMri_text, iMri_text, kMri_text⟩, GMri_text, bMri_text⟩, ⟨_, _, ⟨aMfl_text, iMfl_text, kMfl_text⟩, GMfl_text, bMfl_text⟩, ⟨_, _, ⟨aMtu_text, iMtu_text, kMtu_text⟩, GMtu_text, bMtu_text⟩, ⟨_, _, ⟨aMco_text, iMco_text, kMco_text⟩, GMco_text, bMco_text⟩, ⟨_, _, ⟨aMpa_text, iMpa_text, kMpa_text⟩, GMpa_text, bMpa_text⟩⟩
  have MT : ∀ n, TextM l.prog w K mg base c n := text_all S XF
  have EB : IsErr K CBT (.ref Tc :: veL) := ⟨_, _, _, _, _, _, _, _, _, _, _, _, _, _, xLBT⟩
  have FB : ErrF K CBT := ⟨saBT, gaBT, ggBT, haBT, kCBT⟩
  have ZB : IsiC K CBT := isi_of EB FB rfl hn ht
  have R : BadT l.prog w K mg base CBT := ok_BadText (M aCBT) (oex_of EB FB rfl ZB) (xf_of EB FB ZB) nbBT aiBT tiBT GBT bBT fun s u v => .of_eq rfl
  have XM := exm_own exBT icBT tyBT selfBT
  have D_word : DefX l.prog w K mg base "_word_at" 3 ["words", "at"] (spWordAt K CBT) := ⟨_, _, ok_word_at GF_word_at TF R, M aF_word_at, kF_word_at, bF_word_at⟩
  have D_numb : DefX l.prog w K mg base "_number_at" 4 ["words", "at", "least", "most"] (spNumAt K CBT) := ⟨_, _, ok_number_at GF_number_at TS R D_word, M aF_number_at, kF_number_at, bF_number_at⟩
  have D_plk : DefX l.prog w K mg base "_plain_kind_at" 6 ["words", "at", "places"] (spPlainAt K c CBT) := ⟨_, _, ok_plain_kind_at GF_plain_kind_at TS R N D_numb, M aF_plain_kind_at, kF_plain_kind_at, bF_plain_kind_at⟩
  have D_put : DefAt l.prog w K mg base "_put_together" 4 ["word", "one", "other"] (spPut K c) := ⟨_, _, ok_put_together GF_put_together O, M aF_put_together, kF_put_together, bF_put_together⟩
  have D_kind : ∀ n, DefX l.prog w K mg base "_kind_at" (n + 6) ["words", "at", "places"] (spKindAtP K c CBT n) := fun n => by
    induction n with
    | zero => exact ⟨_, _, ⟨fun _ _ _ _ h => h.elim, fun _ _ _ _ _ _ _ _ _ _ _ _ _ h => h.elim⟩, M aF_kind_at, kF_kind_at, bF_kind_at⟩
    | succ n ih => exact ⟨_, _, kind_body GF_kind_at TS R S O n D_word D_plk D_put ih, M aF_kind_at, kF_kind_at, bF_kind_at⟩
  have D_read : DefX l.prog w K mg base "read_kind" 48 ["text"] (spRead K c CBT 40) := ⟨_, _, read_body GF_read_kind TS R 40 (by decide) (D_kind 41), M aF_read_kind, kF_read_kind, bF_read_kind⟩
  have D_source : DefAt l.prog w K mg base "_law_source" 1 ["_law_script", "_law_at"] (spSource K) := ⟨_, _, ok_source GL_source TB, M aL_source, kL_source, bL_source⟩
  have D_draw : DefAt l.prog w K mg base "_law_draw" 1 ["_law_draws", "_law_many"] (spDraw) := ⟨_, _, ok_draw GL_draw TB, M aL_draw, kL_draw, bL_draw⟩
  have D_pick : DefAt l.prog w K mg base "_law_pick" 2 ["_law_draws", "_law_things"] (spPick K) := ⟨_, _, ok_pick GL_pick TB D_draw, M aL_pick, kL_pick, bL_pick⟩
  have D_same : ∀ n, DefAt l.prog w K mg base "_law_same" n ["_law_found", "_law_due_here"] (spPrev K n) := fun n => by
    induction n with
    | zero => exact ⟨_, _, ⟨fun _ _ _ _ h => h.elim, fun _ _ _ _ _ _ _ _ _ _ _ _ _ h => h.elim⟩, M aL_same, kL_same, bL_same⟩
    | succ n ih => exact ⟨_, _, same_body GL_same TB n ih, M aL_same, kL_same, bL_same⟩
  have D_plain : DefAt l.prog w K mg base "_law_plain" 3 ["_law_draws", "_law_places"] (spPlain K) := ⟨_, _, ok_plain GL_plain TR D_draw D_pick, M aL_plain, kL_plain, bL_plain⟩
  have D_part : DefAt l.prog w K mg base "_law_part" 3 ["_law_draws", "_law_places"] (spPlain K) := ⟨_, _, ok_part GL_part TR D_draw D_pick, M aL_part, kL_part, bL_part⟩
  have D_joint : ∀ n, DefAt l.prog w K mg base "_law_joint" (2 * n + 2) ["_law_draws", "_law_places", "_law_deep"] (spJointP K n) ∧ DefAt l.prog w K mg base "_law_pair" (2 * n + 3) ["_law_draws", "_law_places", "_law_deep"] (spPair K n) := fun n => by
    induction n with
    | zero => exact ⟨⟨_, _, ⟨fun _ _ _ _ h => h.elim, fun _ _ _ _ _ _ _ _ _ _ _ _ _ h => h.elim⟩, M aL_joint, kL_joint, bL_joint⟩, ⟨_, _, ⟨fun _ _ _ _ h => h.elim, fun _ _ _ _ _ _ _ _ _ _ _ _ _ h => h.elim⟩, M aL_pair, kL_pair, bL_pair⟩⟩
    | succ n ih =>
      have J : DefAt l.prog w K mg base "_law_joint" (2 * n + 4) ["_law_draws", "_law_places", "_law_deep"] (spJoint K n) := ⟨_, _, joint_body GL_joint TR n D_draw D_pick D_part ih.1 ih.2, M aL_joint, kL_joint, bL_joint⟩
      exact ⟨J, ⟨_, _, pair_body GL_pair TR n D_draw D_part J, M aL_pair, kL_pair, bL_pair⟩⟩
  have D_spec : ∀ n, DefAt l.prog w K mg base "_law_spec" (2 * n + 2) ["_law_draws", "_law_places", "_law_deep"] (spJointP K n) := fun n => by
    induction n with
    | zero => exact ⟨_, _, ⟨fun _ _ _ _ h => h.elim, fun _ _ _ _ _ _ _ _ _ _ _ _ _ h => h.elim⟩, M aL_spec, kL_spec, bL_spec⟩
    | succ n ih => exact ⟨_, _, spec_body GL_spec TR n D_draw D_pick D_plain ih (D_joint n).2, M aL_spec, kL_spec, bL_spec⟩
  have D_ws : ∀ n, DefAt l.prog w K mg base "_law_words" n ["_law_spec_here"] (spWordsP K n) := fun n => by
    induction n with
    | zero => exact ⟨_, _, ⟨fun _ _ _ _ h => h.elim, fun _ _ _ _ _ _ _ _ _ _ _ _ _ h => h.elim⟩, M aL_words, kL_words, bL_words⟩
    | succ n ih => exact ⟨_, _, words_body GL_words TS n ih, M aL_words, kL_words, bL_words⟩
  have D_end : ∀ n, DefAt l.prog w K mg base "_law_end" n ["_law_words_here", "_law_at", "_law_here"] (spEndP K n) := fun n => by
    induction n with
    | zero => exact ⟨_, _, ⟨fun _ _ _ _ h => h.elim, fun _ _ _ _ _ _ _ _ _ _ _ _ _ h => h.elim⟩, M aL_end, kL_end, bL_end⟩
    | succ n ih => exact ⟨_, _, end_body GL_end TS n ih, M aL_end, kL_end, bL_end⟩
  have D_due : DefAt l.prog w K mg base "_law_due" 42 ["_law_words_here"] (spDue K 40) := ⟨_, _, due_body GL_due TS 40 (D_end 41), M aL_due, kL_due, bL_due⟩
  have D_bent : DefAt l.prog w K mg base "_law_bent" 3 ["_law_draws", "_law_words_here"] (spBentW) := ⟨_, _, bent_body GL_bent TS D_draw D_pick, M aL_bent, kL_bent, bL_bent⟩
  have D_met : DefAt l.prog w K mg base "_law_met" 49 ["_law_text"] (spMet 40) := ⟨_, _, met_body GL_met R XM 40 (by decide) (MT 40) D_read, M aL_met, kL_met, bL_met⟩
  exact law_body GL_law T D_source D_draw (D_spec 3) (D_ws 5) D_bent D_due D_met (D_same 3)
theorem walk {l : PySem.W.OpenLaw} {q : Program} {loose : List Str} {XP : (Str → Option Value) → Heap → Prop} {YP : World → Heap → Prop} {d : DefRec} {K : Params → PySem.W.Frag} (hn : l.most = some 63) (hdf : d.params.defaults = [])
    (hY : ∀ (w : World) (h : Heap), YP w h → (K w.params).In h)
    (F : ∀ (w : World) (mg : Str → Option Value) (fa : Addr) (h : Heap), (K w.params).In h → h.Ns mainGlobals mg → mg d.name = some (.ref fa) →
      ∃ fd : FuncData, (∀ (s : Shared) (u : Value), BindsTo s fd ⟨[u], []⟩ [("_law_script", u)]) ∧ ∀ base : Heap, (K w.params).In base → base.Ns mainGlobals mg → FnOk l.prog w (K w.params) mg base CX0 60 fa fd ["_law_script"] (spLaw43 (K w.params))) :
    PySem.W.WalkO q loose XP YP l.row.toRowW d [] (fun f vs => PySem.call f vs) :=
  L2.walk_of (n := 63) (k := 60) (x := "_law_script") (CX := fun _ => CX0) (sp := fun w => spLaw43 (K w.params)) hn (by decide) hdf ⟨rfl, by decide, by decide⟩ hY F (fun _ _ a ns hl _ hS => ⟨a, ns, rfl, hS, hl, fun _ _ => rfl⟩) fun _ _ _ _ _ z => z
end U

set_option Elab.async false
open PySem PySem.W PyProof.Rows in
set_option maxRecDepth 100000 in
set_option maxHeartbeats 0 in
theorem PySem.Challenge.cw_toldenough_k43_texts_of_kinds_refused_holds : PySem.Challenge.rw_toldenough_k43_texts_of_kinds_refused.Holds := by
  w_on; o_law; k_head; (case hw => w_witness2)
  k_fill
  refine U.walk (l := PySem.Challenge.rw_toldenough_k43_texts_of_kinds_refused) rfl rfl (fun w h Y => PySem.W.kIn_of Y) ?F
  case F =>
    intro w mg fa h KX G hmg
    refine' U.all_mk KX G hmg ?aF_is_integer ?lF_is_integer ?cF_is_integer ?kF_is_integer ?aF_is_number_of_places ?lF_is_number_of_places ?cF_is_number_of_places ?kF_is_number_of_places ?aF_check_number_of_places ?lF_check_number_of_places ?cF_check_number_of_places ?kF_check_number_of_places ?aF_read_kind ?lF_read_kind ?cF_read_kind ?kF_read_kind ?aF_kind_at ?lF_kind_at ?cF_kind_at ?kF_kind_at ?aF_put_together ?lF_put_together ?cF_put_together ?kF_put_together ?aF_plain_kind_at ?lF_plain_kind_at ?cF_plain_kind_at ?kF_plain_kind_at ?aF_number_at ?lF_number_at ?cF_number_at ?kF_number_at ?aF_word_at ?lF_word_at ?cF_word_at ?kF_word_at ?aL_source ?lL_source ?cL_source ?kL_source ?aL_draw ?lL_draw ?cL_draw ?kL_draw ?aL_pick ?lL_pick ?cL_pick ?kL_pick ?aL_same ?lL_same ?cL_same ?kL_same ?aL_plain ?lL_plain ?cL_plain ?kL_plain ?aL_spec ?lL_spec ?cL_spec ?kL_spec ?aL_part ?lL_part ?cL_part ?kL_part ?aL_joint ?lL_joint ?cL_joint ?kL_joint ?aL_pair ?lL_pair ?cL_pair ?kL_pair ?aL_words ?lL_words ?cL_words ?kL_words ?aL_end ?lL_end ?cL_end ?kL_end ?aL_due ?lL_due ?cL_due ?kL_due ?aL_bent ?lL_bent ?cL_bent ?kL_bent ?aL_met ?lL_met ?cL_met ?kL_met ?aL_law ?lL_law ?cL_law ?kL_law ?aCha ?pgha ?hdha ?poha ?saha ?mkha ?kcha ?sfha ?nha_places ?nha_most ?nha_kind ?nha_word ?nha_one ?nha_other ?rha_rand ?rha_ror ?rha_radd ?aMha_init ?iMha_init ?lMha_init ?cMha_init ?kMha_init ?aMha_invert ?iMha_invert ?lMha_invert ?cMha_invert ?kMha_invert ?aMha_and ?iMha_and ?lMha_and ?cMha_and ?kMha_and ?aMha_or ?iMha_or ?lMha_or ?cMha_or ?kMha_or ?aMha_add ?iMha_add ?lMha_add ?cMha_add ?kMha_add ?aMha_text ?iMha_text ?lMha_text ?cMha_text ?kMha_text ?aCbo ?pgbo ?hdbo ?pobo ?sabo ?mkbo ?kcbo ?sfbo ?nbo_places ?nbo_most ?nbo_kind ?nbo_word ?nbo_one ?nbo_other ?rbo_rand ?rbo_ror ?rbo_radd ?aMbo_init ?iMbo_init ?lMbo_init ?cMbo_init ?kMbo_init ?aMbo_invert ?iMbo_invert ?lMbo_invert ?cMbo_invert ?kMbo_invert ?aMbo_and ?iMbo_and ?lMbo_and ?cMbo_and ?kMbo_and ?aMbo_or ?iMbo_or ?lMbo_or ?cMbo_or ?kMbo_or ?aMbo_add ?iMbo_add ?lMbo_add ?cMbo_add ?kMbo_add ?aMbo_text ?iMbo_text ?lMbo_text ?cMbo_text ?kMbo_text ?aCri ?pgri ?hdri ?pori ?sari ?mkri ?kcri ?sfri ?nri_places ?nri_most ?nri_kind ?nri_word ?nri_one ?nri_other ?rri_rand ?rri_ror ?rri_radd ?aMri_init ?iMri_init ?lMri_init ?cMri_init ?kMri_init ?aMri_invert ?iMri_invert ?lMri_invert ?cMri_invert ?kMri_invert ?aMri_and ?iMri_and ?lMri_and ?cMri_and ?kMri_and ?aMri_or ?iMri_or ?lMri_or ?cMri_or ?kMri_or ?aMri_add ?iMri_add ?lMri_add ?cMri_add ?kMri_add ?aMri_text ?iMri_text ?lMri_text ?cMri_text ?kMri_text ?aCfl ?pgfl ?hdfl ?pofl ?safl ?mkfl ?kcfl ?sffl ?nfl_places ?nfl_most ?nfl_kind ?nfl_word ?nfl_one ?nfl_other ?rfl_rand ?rfl_ror ?rfl_radd ?aMfl_init ?iMfl_init ?lMfl_init ?cMfl_init ?kMfl_init ?aMfl_invert ?iMfl_invert ?lMfl_invert ?cMfl_invert ?kMfl_invert ?aMfl_and ?iMfl_and ?lMfl_and ?cMfl_and ?kMfl_and ?aMfl_or ?iMfl_or ?lMfl_or ?cMfl_or ?kMfl_or ?aMfl_add ?iMfl_add ?lMfl_add ?cMfl_add ?kMfl_add ?aMfl_text ?iMfl_text ?lMfl_text ?cMfl_text ?kMfl_text ?aCtu ?pgtu ?hdtu ?potu ?satu ?mktu ?kctu ?sftu ?ntu_places ?ntu_most ?ntu_kind ?ntu_word ?ntu_one ?ntu_other ?rtu_rand ?rtu_ror ?rtu_radd ?aMtu_init ?iMtu_init ?lMtu_init ?cMtu_init ?kMtu_init ?aMtu_invert ?iMtu_invert ?lMtu_invert ?cMtu_invert ?kMtu_invert ?aMtu_and ?iMtu_and ?lMtu_and ?cMtu_and ?kMtu_and ?aMtu_or ?iMtu_or ?lMtu_or ?cMtu_or ?kMtu_or ?aMtu_add ?iMtu_add ?lMtu_add ?cMtu_add ?kMtu_add ?aMtu_text ?iMtu_text ?lMtu_text ?cMtu_text ?kMtu_text ?aCco ?pgco ?hdco ?poco ?saco ?mkco ?kcco ?sfco ?nco_places ?nco_most ?nco_kind ?nco_word ?nco_one ?nco_other ?rco_rand ?rco_ror ?rco_radd ?aMco_init ?iMco_init ?lMco_init ?cMco_init ?kMco_init ?aMco_invert ?iMco_invert ?lMco_invert ?cMco_invert ?kMco_invert ?aMco_and ?iMco_and ?lMco_and ?cMco_and ?kMco_and ?aMco_or ?iMco_or ?lMco_or ?cMco_or ?kMco_or ?aMco_add ?iMco_add ?lMco_add ?cMco_add ?kMco_add ?aMco_text ?iMco_text ?lMco_text ?cMco_text ?kMco_text ?aCpa ?pgpa ?hdpa ?popa ?sapa ?mkpa ?kcpa ?sfpa ?npa_places ?npa_most ?npa_kind ?npa_word ?npa_one ?npa_other ?rpa_rand ?rpa_ror ?rpa_radd ?aMpa_init ?iMpa_init ?lMpa_init ?cMpa_init ?kMpa_init ?aMpa_invert ?iMpa_invert ?lMpa_invert ?cMpa_invert ?kMpa_invert ?aMpa_and ?iMpa_and ?lMpa_and ?cMpa_and ?kMpa_and ?aMpa_or ?iMpa_or ?lMpa_or ?cMpa_or ?kMpa_or ?aMpa_add ?iMpa_add ?lMpa_add ?cMpa_add ?kMpa_add ?aMpa_text ?iMpa_text ?lMpa_text ?cMpa_text ?kMpa_text ?uha_bo ?uha_ri ?uha_fl ?uha_tu ?uha_co ?uha_pa ?ubo_ha ?ubo_ri ?ubo_fl ?ubo_tu ?ubo_co ?ubo_pa ?uri_ha ?uri_bo ?uri_fl ?uri_tu ?uri_co ?uri_pa ?ufl_ha ?ufl_bo ?ufl_ri ?ufl_tu ?ufl_co ?ufl_pa ?utu_ha ?utu_bo ?utu_ri ?utu_fl ?utu_co ?utu_pa ?uco_ha ?uco_bo ?uco_ri ?uco_fl ?uco_tu ?uco_pa ?upa_ha ?upa_bo ?upa_ri ?upa_fl ?upa_tu ?upa_co ?hn ?ht ?aCBT ?xLBT ?saBT ?gaBT ?ggBT ?haBT ?kCBT ?nbBT ?aiBT ?exBT ?icBT ?tyBT ?selfBT ?tiBT ?lBT ?cBT ?kBT ?cLEAST_PLACES ?cMOST_PLACES ?cGREATEST_MOST ?z_len ?z_int ?z_isinstance ?z_list ?z_tuple ?z_bool ?z_all ?z_zip ?z_range ?z_enumerate ?z_str ?z_min
    (case aF_is_integer => k_is)
    (case lF_is_integer => k_is)
    (case cF_is_integer => k_is)
    (case kF_is_integer => k_is)
    (case aF_is_number_of_places => k_is)
    (case lF_is_number_of_places => k_is)
    (case cF_is_number_of_places => k_is)
    (case kF_is_number_of_places => k_is)
    (case aF_check_number_of_places => k_is)
    (case lF_check_number_of_places => k_is)
    (case cF_check_number_of_places => k_is)
    (case kF_check_number_of_places => k_is)
    (case aF_read_kind => k_is)
    (case lF_read_kind => k_is)
    (case cF_read_kind => k_is)
    (case kF_read_kind => k_is)
    (case aF_kind_at => k_is)
    (case lF_kind_at => k_is)
    (case cF_kind_at => k_is)
    (case kF_kind_at => k_is)
    (case aF_put_together => k_is)
    (case lF_put_together => k_is)
    (case cF_put_together => k_is)
    (case kF_put_together => k_is)
    (case aF_plain_kind_at => k_is)
    (case lF_plain_kind_at => k_is)
    (case cF_plain_kind_at => k_is)
    (case kF_plain_kind_at => k_is)
    (case aF_number_at => k_is)
    (case lF_number_at => k_is)
    (case cF_number_at => k_is)
    (case kF_number_at => k_is)
    (case aF_word_at => k_is)
    (case lF_word_at => k_is)
    (case cF_word_at => k_is)
    (case kF_word_at => k_is)
    (case aL_source => k_is)
    (case lL_source => k_is)
    (case cL_source => k_is)
    (case kL_source => k_is)
    (case aL_draw => k_is)
    (case lL_draw => k_is)
    (case cL_draw => k_is)
    (case kL_draw => k_is)
    (case aL_pick => k_is)
    (case lL_pick => k_is)
    (case cL_pick => k_is)
    (case kL_pick => k_is)
    (case aL_same => k_is)
    (case lL_same => k_is)
    (case cL_same => k_is)
    (case kL_same => k_is)
    (case aL_plain => k_is)
    (case lL_plain => k_is)
    (case cL_plain => k_is)
    (case kL_plain => k_is)
    (case aL_spec => k_is)
    (case lL_spec => k_is)
    (case cL_spec => k_is)
    (case kL_spec => k_is)
    (case aL_part => k_is)
    (case lL_part => k_is)
    (case cL_part => k_is)
    (case kL_part => k_is)
    (case aL_joint => k_is)
    (case lL_joint => k_is)
    (case cL_joint => k_is)
    (case kL_joint => k_is)
    (case aL_pair => k_is)
    (case lL_pair => k_is)
    (case cL_pair => k_is)
    (case kL_pair => k_is)
    (case aL_words => k_is)
    (case lL_words => k_is)
    (case cL_words => k_is)
    (case kL_words => k_is)
    (case aL_end => k_is)
    (case lL_end => k_is)
    (case cL_end => k_is)
    (case kL_end => k_is)
    (case aL_due => k_is)
    (case lL_due => k_is)
    (case cL_due => k_is)
    (case kL_due => k_is)
    (case aL_bent => k_is)
    (case lL_bent => k_is)
    (case cL_bent => k_is)
    (case kL_bent => k_is)
    (case aL_met => k_is)
    (case lL_met => k_is)
    (case cL_met => k_is)
    (case kL_met => k_is)
    (case aL_law => k_is)
    (case lL_law => k_is)
    (case cL_law => k_is)
    (case kL_law => k_is)
    (case aCha => k_is)
    (case pgha => k_is)
    (case hdha => k_is)
    (case poha => k_is)
    (case saha => k_is)
    (case mkha => k_is)
    (case kcha => k_is)
    (case sfha => k_is)
    (case nha_places => k_is)
    (case nha_most => k_is)
    (case nha_kind => k_is)
    (case nha_word => k_is)
    (case nha_one => k_is)
    (case nha_other => k_is)
    (case rha_rand => k_is)
    (case rha_ror => k_is)
    (case rha_radd => k_is)
    (case aMha_init => k_is)
    (case iMha_init => k_is)
    (case lMha_init => k_is)
    (case cMha_init => k_is)
    (case kMha_init => k_is)
    (case aMha_invert => k_is)
    (case iMha_invert => k_is)
    (case lMha_invert => k_is)
    (case cMha_invert => k_is)
    (case kMha_invert => k_is)
    (case aMha_and => k_is)
    (case iMha_and => k_is)
    (case lMha_and => k_is)
    (case cMha_and => k_is)
    (case kMha_and => k_is)
    (case aMha_or => k_is)
    (case iMha_or => k_is)
    (case lMha_or => k_is)
    (case cMha_or => k_is)
    (case kMha_or => k_is)
    (case aMha_add => k_is)
    (case iMha_add => k_is)
    (case lMha_add => k_is)
    (case cMha_add => k_is)
    (case kMha_add => k_is)
    (case aMha_text => k_is)
    (case iMha_text => k_is)
    (case lMha_text => k_is)
    (case cMha_text => k_is)
    (case kMha_text => k_is)
    (case aCbo => k_is)
    (case pgbo => k_is)
    (case hdbo => k_is)
    (case pobo => k_is)
    (case sabo => k_is)
    (case mkbo => k_is)
    (case kcbo => k_is)
    (case sfbo => k_is)
    (case nbo_places => k_is)
    (case nbo_most => k_is)
    (case nbo_kind => k_is)
    (case nbo_word => k_is)
    (case nbo_one => k_is)
    (case nbo_other => k_is)
    (case rbo_rand => k_is)
    (case rbo_ror => k_is)
    (case rbo_radd => k_is)
    (case aMbo_init => k_is)
    (case iMbo_init => k_is)
    (case lMbo_init => k_is)
    (case cMbo_init => k_is)
    (case kMbo_init => k_is)
    (case aMbo_invert => k_is)
    (case iMbo_invert => k_is)
    (case lMbo_invert => k_is)
    (case cMbo_invert => k_is)
    (case kMbo_invert => k_is)
    (case aMbo_and => k_is)
    (case iMbo_and => k_is)
    (case lMbo_and => k_is)
    (case cMbo_and => k_is)
    (case kMbo_and => k_is)
    (case aMbo_or => k_is)
    (case iMbo_or => k_is)
    (case lMbo_or => k_is)
    (case cMbo_or => k_is)
    (case kMbo_or => k_is)
    (case aMbo_add => k_is)
    (case iMbo_add => k_is)
    (case lMbo_add => k_is)
    (case cMbo_add => k_is)
    (case kMbo_add => k_is)
    (case aMbo_text => k_is)
    (case iMbo_text => k_is)
    (case lMbo_text => k_is)
    (case cMbo_text => k_is)
    (case kMbo_text => k_is)
    (case aCri => k_is)
    (case pgri => k_is)
    (case hdri => k_is)
    (case pori => k_is)
    (case sari => k_is)
    (case mkri => k_is)
    (case kcri => k_is)
    (case sfri => k_is)
    (case nri_places => k_is)
    (case nri_most => k_is)
    (case nri_kind => k_is)
    (case nri_word => k_is)
    (case nri_one => k_is)
    (case nri_other => k_is)
    (case rri_rand => k_is)
    (case rri_ror => k_is)
    (case rri_radd => k_is)
    (case aMri_init => k_is)
    (case iMri_init => k_is)
    (case lMri_init => k_is)
    (case cMri_init => k_is)
    (case kMri_init => k_is)
    (case aMri_invert => k_is)
    (case iMri_invert => k_is)
    (case lMri_invert => k_is)
    (case cMri_invert => k_is)
    (case kMri_invert => k_is)
    (case aMri_and => k_is)
    (case iMri_and => k_is)
    (case lMri_and => k_is)
    (case cMri_and => k_is)
    (case kMri_and => k_is)
    (case aMri_or => k_is)
    (case iMri_or => k_is)
    (case lMri_or => k_is)
    (case cMri_or => k_is)
    (case kMri_or => k_is)
    (case aMri_add => k_is)
    (case iMri_add => k_is)
    (case lMri_add => k_is)
    (case cMri_add => k_is)
    (case kMri_add => k_is)
    (case aMri_text => k_is)
    (case iMri_text => k_is)
    (case lMri_text => k_is)
    (case cMri_text => k_is)
    (case kMri_text => k_is)
    (case aCfl => k_is)
    (case pgfl => k_is)
    (case hdfl => k_is)
    (case pofl => k_is)
    (case safl => k_is)
    (case mkfl => k_is)
    (case kcfl => k_is)
    (case sffl => k_is)
    (case nfl_places => k_is)
    (case nfl_most => k_is)
    (case nfl_kind => k_is)
    (case nfl_word => k_is)
    (case nfl_one => k_is)
    (case nfl_other => k_is)
    (case rfl_rand => k_is)
    (case rfl_ror => k_is)
    (case rfl_radd => k_is)
    (case aMfl_init => k_is)
    (case iMfl_init => k_is)
    (case lMfl_init => k_is)
    (case cMfl_init => k_is)
    (case kMfl_init => k_is)
    (case aMfl_invert => k_is)
    (case iMfl_invert => k_is)
    (case lMfl_invert => k_is)
    (case cMfl_invert => k_is)
    (case kMfl_invert => k_is)
    (case aMfl_and => k_is)
    (case iMfl_and => k_is)
    (case lMfl_and => k_is)
    (case cMfl_and => k_is)
    (case kMfl_and => k_is)
    (case aMfl_or => k_is)
    (case iMfl_or => k_is)
    (case lMfl_or => k_is)
    (case cMfl_or => k_is)
    (case kMfl_or => k_is)
    (case aMfl_add => k_is)
    (case iMfl_add => k_is)
    (case lMfl_add => k_is)
    (case cMfl_add => k_is)
    (case kMfl_add => k_is)
    (case aMfl_text => k_is)
    (case iMfl_text => k_is)
    (case lMfl_text => k_is)
    (case cMfl_text => k_is)
    (case kMfl_text => k_is)
    (case aCtu => k_is)
    (case pgtu => k_is)
    (case hdtu => k_is)
    (case potu => k_is)
    (case satu => k_is)
    (case mktu => k_is)
    (case kctu => k_is)
    (case sftu => k_is)
    (case ntu_places => k_is)
    (case ntu_most => k_is)
    (case ntu_kind => k_is)
    (case ntu_word => k_is)
    (case ntu_one => k_is)
    (case ntu_other => k_is)
    (case rtu_rand => k_is)
    (case rtu_ror => k_is)
    (case rtu_radd => k_is)
    (case aMtu_init => k_is)
    (case iMtu_init => k_is)
    (case lMtu_init => k_is)
    (case cMtu_init => k_is)
    (case kMtu_init => k_is)
    (case aMtu_invert => k_is)
    (case iMtu_invert => k_is)
    (case lMtu_invert => k_is)
    (case cMtu_invert => k_is)
    (case kMtu_invert => k_is)
    (case aMtu_and => k_is)
    (case iMtu_and => k_is)
    (case lMtu_and => k_is)
    (case cMtu_and => k_is)
    (case kMtu_and => k_is)
    (case aMtu_or => k_is)
    (case iMtu_or => k_is)
    (case lMtu_or => k_is)
    (case cMtu_or => k_is)
    (case kMtu_or => k_is)
    (case aMtu_add => k_is)
    (case iMtu_add => k_is)
    (case lMtu_add => k_is)
    (case cMtu_add => k_is)
    (case kMtu_add => k_is)
    (case aMtu_text => k_is)
    (case iMtu_text => k_is)
    (case lMtu_text => k_is)
    (case cMtu_text => k_is)
    (case kMtu_text => k_is)
    (case aCco => k_is)
    (case pgco => k_is)
    (case hdco => k_is)
    (case poco => k_is)
    (case saco => k_is)
    (case mkco => k_is)
    (case kcco => k_is)
    (case sfco => k_is)
    (case nco_places => k_is)
    (case nco_most => k_is)
    (case nco_kind => k_is)
    (case nco_word => k_is)
    (case nco_one => k_is)
    (case nco_other => k_is)
    (case rco_rand => k_is)
    (case rco_ror => k_is)
    (case rco_radd => k_is)
    (case aMco_init => k_is)
    (case iMco_init => k_is)
    (case lMco_init => k_is)
    (case cMco_init => k_is)
    (case kMco_init => k_is)
    (case aMco_invert => k_is)
    (case iMco_invert => k_is)
    (case lMco_invert => k_is)
    (case cMco_invert => k_is)
    (case kMco_invert => k_is)
    (case aMco_and => k_is)
    (case iMco_and => k_is)
    (case lMco_and => k_is)
    (case cMco_and => k_is)
    (case kMco_and => k_is)
    (case aMco_or => k_is)
    (case iMco_or => k_is)
    (case lMco_or => k_is)
    (case cMco_or => k_is)
    (case kMco_or => k_is)
    (case aMco_add => k_is)
    (case iMco_add => k_is)
    (case lMco_add => k_is)
    (case cMco_add => k_is)
    (case kMco_add => k_is)
    (case aMco_text => k_is)
    (case iMco_text => k_is)
    (case lMco_text => k_is)
    (case cMco_text => k_is)
    (case kMco_text => k_is)
    (case aCpa => k_is)
    (case pgpa => k_is)
    (case hdpa => k_is)
    (case popa => k_is)
    (case sapa => k_is)
    (case mkpa => k_is)
    (case kcpa => k_is)
    (case sfpa => k_is)
    (case npa_places => k_is)
    (case npa_most => k_is)
    (case npa_kind => k_is)
    (case npa_word => k_is)
    (case npa_one => k_is)
    (case npa_other => k_is)
    (case rpa_rand => k_is)
    (case rpa_ror => k_is)
    (case rpa_radd => k_is)
    (case aMpa_init => k_is)
    (case iMpa_init => k_is)
    (case lMpa_init => k_is)
    (case cMpa_init => k_is)
    (case kMpa_init => k_is)
    (case aMpa_invert => k_is)
    (case iMpa_invert => k_is)
    (case lMpa_invert => k_is)
    (case cMpa_invert => k_is)
    (case kMpa_invert => k_is)
    (case aMpa_and => k_is)
    (case iMpa_and => k_is)
    (case lMpa_and => k_is)
    (case cMpa_and => k_is)
    (case kMpa_and => k_is)
    (case aMpa_or => k_is)
    (case iMpa_or => k_is)
    (case lMpa_or => k_is)
    (case cMpa_or => k_is)
    (case kMpa_or => k_is)
    (case aMpa_add => k_is)
    (case iMpa_add => k_is)
    (case lMpa_add => k_is)
    (case cMpa_add => k_is)
    (case kMpa_add => k_is)
    (case aMpa_text => k_is)
    (case iMpa_text => k_is)
    (case lMpa_text => k_is)
    (case cMpa_text => k_is)
    (case kMpa_text => k_is)
    (case uha_bo => k_is)
    (case uha_ri => k_is)
    (case uha_fl => k_is)
    (case uha_tu => k_is)
    (case uha_co => k_is)
    (case uha_pa => k_is)
    (case ubo_ha => k_is)
    (case ubo_ri => k_is)
    (case ubo_fl => k_is)
    (case ubo_tu => k_is)
    (case ubo_co => k_is)
    (case ubo_pa => k_is)
    (case uri_ha => k_is)
    (case uri_bo => k_is)
    (case uri_fl => k_is)
    (case uri_tu => k_is)
    (case uri_co => k_is)
    (case uri_pa => k_is)
    (case ufl_ha => k_is)
    (case ufl_bo => k_is)
    (case ufl_ri => k_is)
    (case ufl_tu => k_is)
    (case ufl_co => k_is)
    (case ufl_pa => k_is)
    (case utu_ha => k_is)
    (case utu_bo => k_is)
    (case utu_ri => k_is)
    (case utu_fl => k_is)
    (case utu_co => k_is)
    (case utu_pa => k_is)
    (case uco_ha => k_is)
    (case uco_bo => k_is)
    (case uco_ri => k_is)
    (case uco_fl => k_is)
    (case uco_tu => k_is)
    (case uco_pa => k_is)
    (case upa_ha => k_is)
    (case upa_bo => k_is)
    (case upa_ri => k_is)
    (case upa_fl => k_is)
    (case upa_tu => k_is)
    (case upa_co => k_is)
    (case hn => k_is)
    (case ht => k_is)
    (case aCBT => k_is)
    (case xLBT => k_is)
    (case saBT => k_is)
    (case gaBT => k_is)
    (case ggBT => k_is)
    (case haBT => k_is)
    (case kCBT => k_is)
    (case nbBT => k_is)
    (case aiBT => k_is)
    (case exBT => k_is)
    (case icBT => k_is)
    (case tyBT => k_is)
    (case selfBT => k_is)
    (case tiBT => k_is)
    (case lBT => k_is)
    (case cBT => k_is)
    (case kBT => k_is)
    (case cLEAST_PLACES => k_is)
    (case cMOST_PLACES => k_is)
    (case cGREATEST_MOST => k_is)
    (case z_len => k_is)
    (case z_int => k_is)
    (case z_isinstance => k_is)
    (case z_list => k_is)
    (case z_tuple => k_is)
    (case z_bool => k_is)
    (case z_all => k_is)
    (case z_zip => k_is)
    (case z_range => k_is)
    (case z_enumerate => k_is)
    (case z_str => k_is)
    (case z_min => k_is)


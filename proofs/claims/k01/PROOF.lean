import PyProof.Rows.All
import Wide.All
import OpenK.AllK
import Wide.FinOn
import PyProof.EqAt
import PyProof.EqKinds
import PyProof.TupleCall
import HandS.Base
import HandS.Call
import HandS.List
import HandS.Comp
import HandS.Ends
import HandS.Dict
import HandS.Iter
import HandS.Words
import HandS.WordsList
import HandS.Evl
import HandS.Zip
import HandS.IsInst
import HandS.Walk
import HandS.Exc
import HandS.ExcOwn
import HandS.ExcInit
import HandS.ExcValue
import KE.KExcIs
import HandS.ExcField
import PySem.Challenge.RW_toldenough_k01_errors_made
set_option Elab.async false
set_option linter.all false
set_option maxRecDepth 100000
set_option maxHeartbeats 2000000
namespace U
open PySem L2
open Evl (Ex)
/-! ### heaps with hidden cells -/
/-- H without the cells of L -/
def W (L : List Addr) (H : Hp) : Hp := fun a => if a ∈ L then none else H a
/-- the hidden cells stand in H -/
def Hid (L : List Addr) (H : Hp) : Prop := ∀ a ∈ L, H a ≠ none
section
variable {L : List Addr} {H H' H2 : Hp} {a p : Addr} {o u : HO}
theorem w_in (h : W L H a = some o) : H a = some o ∧ a ∉ L := by
  unfold W at h
  by_cases e : a ∈ L
  · rw [if_pos e] at h
    cases h
  · rw [if_neg e] at h
    exact ⟨h, e⟩
theorem w_of (n : a ∉ L) (h : H a = some o) : W L H a = some o := by
  unfold W
  rw [if_neg n]
  exact h
theorem w_sub : Ex (W L H) H := fun a o h => (w_in h).1
theorem w_ex (e : Ex H H') : Ex (W L H) (W L H') := fun a o h => w_of (w_in h).2 (e a o (w_in h).1)
theorem w_nil : W [] H = H := by
  funext a
  unfold W
  rw [if_neg (by simp)]
theorem hid_nil : Hid [] H := fun _ h => by cases h
theorem hid_ex (e : Ex H H') (h : Hid L H) : Hid L H' := fun a m z => by
  cases q : H a with
  | none => exact h a m q
  | some o =>
    have r := e a o q
    rw [z] at r
    cases r
theorem hid_not (h : Hid L H) (n : H p = none) : p ∉ L := fun m => h p m n
theorem w_new (h : Hid L H) (n : H p = none) : W L (upd H p o) p = some o := w_of (hid_not h n) upd_same
theorem w_upd_in (m : p ∈ L) : W L (upd H p o) = W L H := by
  funext a
  unfold W
  by_cases e : a ∈ L
  · rw [if_pos e, if_pos e]
  · rw [if_neg e, if_neg e, upd_ne (fun z => e (by rw [z]; exact m))]
theorem w_sub2 {L2 : List Addr} (s : ∀ a ∈ L, a ∈ L2) : Ex (W L2 H) (W L H) := fun a o h => w_of (fun m => (w_in h).2 (s a m)) (w_in h).1
theorem hid_upd (h : Hid L H) : Hid L (upd H p o) := fun a m z => by
  by_cases e : a = p
  · rw [e, upd_same] at z
    cases z
  · rw [upd_ne e] at z
    exact h a m z
end
/-! ### data that stands -/
section
variable {K : PySem.W.Frag} {H H' : Hp}
mutual
theorem dp_mono (e : Ex H H') : ∀ (d : PyData) (v : V), Dp K H v d → Dp K H' v d
  | .none, _, h => by cases h; exact .non
  | .bool _, _, h => by cases h; exact .bl _
  | .int _, _, h => by cases h; exact .int _
  | .str _, _, h => by cases h; exact .str _
  | .list ds, _, h => by
    cases h with
    | lst hs ha => exact .lst (Evl.ex_l e hs) (dpa_mono e ds _ ha)
  | .tuple ds, _, h => by
    cases h with
    | tup hs ha => exact .tup (Evl.ex_t e hs) (dpa_mono e ds _ ha)
  | .dict _, _, h => by cases h
theorem dpa_mono (e : Ex H H') : ∀ (ds : List PyData) (vs : List V), DpAll K H vs ds → DpAll K H' vs ds
  | [], _, h => by cases h; exact .nil
  | d :: ds, _, h => by
    cases h with
    | cons h1 h2 => exact .cons (dp_mono e d _ h1) (dpa_mono e ds _ h2)
end
theorem _root_.L2.Dp.up {v : V} {d : PyData} (h : Dp K H v d) (e : Ex H H') : Dp K H' v d := dp_mono e d v h
theorem _root_.L2.DpAll.up {vs : List V} {ds : List PyData} (h : DpAll K H vs ds) (e : Ex H H') : DpAll K H' vs ds := dpa_mono e ds vs h
theorem dpa_len : ∀ {vs : List V} {ds : List PyData}, DpAll K H vs ds → vs.length = ds.length
  | _, _, .nil => rfl
  | _, _, .cons _ t => congrArg Nat.succ (dpa_len t)
theorem dpa_get : ∀ {vs : List V} {ds : List PyData} {i : Nat} {v : V}, DpAll K H vs ds → vs[i]? = some v → ∃ d, ds[i]? = some d ∧ Dp K H v d
  | _, _, _, _, .nil, e => by simp at e
  | _, _, 0, _, .cons r _, e => by simp at e; subst e; exact ⟨_, rfl, r⟩
  | _, _, i + 1, x, .cons _ t, e => by
    obtain ⟨d, h1, h2⟩ := dpa_get (i := i) (v := x) t (by simpa using e)
    exact ⟨d, by simpa using h1, h2⟩
theorem dpa_get2 : ∀ {vs : List V} {ds : List PyData} {i : Nat} {d : PyData}, DpAll K H vs ds → ds[i]? = some d → ∃ v, vs[i]? = some v ∧ Dp K H v d
  | _, _, _, _, .nil, e => by simp at e
  | _, _, 0, _, .cons r _, e => by simp at e; subst e; exact ⟨_, rfl, r⟩
  | _, _, i + 1, x, .cons _ t, e => by
    obtain ⟨v, h1, h2⟩ := dpa_get2 (i := i) (d := x) t (by simpa using e)
    exact ⟨v, by simpa using h1, h2⟩
theorem dpa_app : ∀ {vs ws : List V} {ds es : List PyData}, DpAll K H vs ds → DpAll K H ws es → DpAll K H (vs ++ ws) (ds ++ es)
  | _, _, _, _, .nil, h => h
  | _, _, _, _, .cons r t, h => .cons r (dpa_app t h)
/-- the type's name -/
def tyOf : PyData → String
  | .none => "NoneType"
  | .bool _ => "bool"
  | .int _ => "int"
  | .str _ => "str"
  | .list _ => "list"
  | .tuple _ => "tuple"
  | .dict _ => "dict"
theorem dp_ty {v : V} {d : PyData} (h : Dp K H v d) : TyX K H v (.type (tyOf d)) := by
  cases h with
  | non => exact .base .non
  | bl b => exact .base (.bl b)
  | int i => exact .base (.int i)
  | str x => exact .base (.str x)
  | lst hs ha =>
    rcases hs with (h | ⟨o, h⟩) | ⟨o, its, n, h, c, _⟩
    · exact .base (.lst h)
    · exact .base (.frz h)
    · exact .kList h c
  | tup hs ha =>
    rcases hs with (h | ⟨o, h⟩) | ⟨o, its, n, h, c, _⟩
    · exact .base (.tup h)
    · exact .fTuple h
    · exact .kTuple h c
/-- isinstance of data: one class, several classes -/
def kitsB (a : String) : List String → Option Bool
  | [] => some false
  | n :: ns => match kitB a n with
    | some true => some true
    | some false => kitsB a ns
    | none => none
theorem kitsB_ok {a : String} : ∀ {ns : List String} {b : Bool}, kitsB a ns = some b → PySem.W.kitAny K (.type a) (ns.map Value.type) = some b
  | [], _, h => h
  | n :: ns, b, h => by
    unfold kitsB at h
    cases q : kitB a n with
    | none => rw [q] at h; cases h
    | some c =>
      rw [q] at h
      cases c with
      | true =>
        cases h
        exact kitAny_cons (kit_ty q) (fun z => by cases z) fun _ => rfl
      | false => exact kitAny_cons (kit_ty q) (fun _ => kitsB_ok h) fun z => by cases z
theorem tys_cls : ∀ {ns : List String}, Paired ClsV (ns.map V.ty) (ns.map Value.type)
  | [] => .nil
  | n :: _ => .cons (.ty n) tys_cls
end
/-! ### what isinstance answers -/
theorem isi_NoneType_list : kitB "NoneType" "list" = some false := by decide +kernel
theorem isi_NoneType_tuple : kitB "NoneType" "tuple" = some false := by decide +kernel
theorem isi_NoneType_bool : kitB "NoneType" "bool" = some false := by decide +kernel
theorem isi_NoneType_int : kitB "NoneType" "int" = some false := by decide +kernel
theorem isi_NoneType_str : kitB "NoneType" "str" = some false := by decide +kernel
theorem isi_NoneType_list_tuple : kitsB "NoneType" ["list", "tuple"] = some false := by decide +kernel
theorem isi_NoneType_bool_int : kitsB "NoneType" ["bool", "int"] = some false := by decide +kernel
theorem isi_NoneType_bool_int_list_tuple : kitsB "NoneType" ["bool", "int", "list", "tuple"] = some false := by decide +kernel
theorem isi_bool_list : kitB "bool" "list" = some false := by decide +kernel
theorem isi_bool_tuple : kitB "bool" "tuple" = some false := by decide +kernel
theorem isi_bool_bool : kitB "bool" "bool" = some true := by decide +kernel
theorem isi_bool_int : kitB "bool" "int" = some true := by decide +kernel
theorem isi_bool_str : kitB "bool" "str" = some false := by decide +kernel
theorem isi_bool_list_tuple : kitsB "bool" ["list", "tuple"] = some false := by decide +kernel
theorem isi_bool_bool_int : kitsB "bool" ["bool", "int"] = some true := by decide +kernel
theorem isi_bool_bool_int_list_tuple : kitsB "bool" ["bool", "int", "list", "tuple"] = some true := by decide +kernel
theorem isi_int_list : kitB "int" "list" = some false := by decide +kernel
theorem isi_int_tuple : kitB "int" "tuple" = some false := by decide +kernel
theorem isi_int_bool : kitB "int" "bool" = some false := by decide +kernel
theorem isi_int_int : kitB "int" "int" = some true := by decide +kernel
theorem isi_int_str : kitB "int" "str" = some false := by decide +kernel
theorem isi_int_list_tuple : kitsB "int" ["list", "tuple"] = some false := by decide +kernel
theorem isi_int_bool_int : kitsB "int" ["bool", "int"] = some true := by decide +kernel
theorem isi_int_bool_int_list_tuple : kitsB "int" ["bool", "int", "list", "tuple"] = some true := by decide +kernel
theorem isi_str_list : kitB "str" "list" = some false := by decide +kernel
theorem isi_str_tuple : kitB "str" "tuple" = some false := by decide +kernel
theorem isi_str_bool : kitB "str" "bool" = some false := by decide +kernel
theorem isi_str_int : kitB "str" "int" = some false := by decide +kernel
theorem isi_str_str : kitB "str" "str" = some true := by decide +kernel
theorem isi_str_list_tuple : kitsB "str" ["list", "tuple"] = some false := by decide +kernel
theorem isi_str_bool_int : kitsB "str" ["bool", "int"] = some false := by decide +kernel
theorem isi_str_bool_int_list_tuple : kitsB "str" ["bool", "int", "list", "tuple"] = some false := by decide +kernel
theorem isi_list_list : kitB "list" "list" = some true := by decide +kernel
theorem isi_list_tuple : kitB "list" "tuple" = some false := by decide +kernel
theorem isi_list_bool : kitB "list" "bool" = some false := by decide +kernel
theorem isi_list_int : kitB "list" "int" = some false := by decide +kernel
theorem isi_list_str : kitB "list" "str" = some false := by decide +kernel
theorem isi_list_list_tuple : kitsB "list" ["list", "tuple"] = some true := by decide +kernel
theorem isi_list_bool_int : kitsB "list" ["bool", "int"] = some false := by decide +kernel
theorem isi_list_bool_int_list_tuple : kitsB "list" ["bool", "int", "list", "tuple"] = some true := by decide +kernel
theorem isi_tuple_list : kitB "tuple" "list" = some false := by decide +kernel
theorem isi_tuple_tuple : kitB "tuple" "tuple" = some true := by decide +kernel
theorem isi_tuple_bool : kitB "tuple" "bool" = some false := by decide +kernel
theorem isi_tuple_int : kitB "tuple" "int" = some false := by decide +kernel
theorem isi_tuple_str : kitB "tuple" "str" = some false := by decide +kernel
theorem isi_tuple_list_tuple : kitsB "tuple" ["list", "tuple"] = some true := by decide +kernel
theorem isi_tuple_bool_int : kitsB "tuple" ["bool", "int"] = some false := by decide +kernel
theorem isi_tuple_bool_int_list_tuple : kitsB "tuple" ["bool", "int", "list", "tuple"] = some true := by decide +kernel
theorem isi_dict_list : kitB "dict" "list" = some false := by decide +kernel
theorem isi_dict_tuple : kitB "dict" "tuple" = some false := by decide +kernel
theorem isi_dict_bool : kitB "dict" "bool" = some false := by decide +kernel
theorem isi_dict_int : kitB "dict" "int" = some false := by decide +kernel
theorem isi_dict_str : kitB "dict" "str" = some false := by decide +kernel
theorem isi_dict_list_tuple : kitsB "dict" ["list", "tuple"] = some false := by decide +kernel
theorem isi_dict_bool_int : kitsB "dict" ["bool", "int"] = some false := by decide +kernel
theorem isi_dict_bool_int_list_tuple : kitsB "dict" ["bool", "int", "list", "tuple"] = some false := by decide +kernel
/-! ### readings -/
section
variable {K : PySem.W.Frag} {σ : L2.St} {H : Hp} {te tb : TE} {v w : V} {d e : PyData} {b : Bool}
theorem ev_isi {n : String} (h : Evl.Ev te σ H v) (hd : Dp K H v d) (hb : kitB (tyOf d) n = some b) : Evl.Ev (tCB (rIsi K) (tCons te (tCons (tC (.ty n)) tNil))) σ H (.bl b) := fun H1 e1 Q q =>
  h H1 e1 _ fun H2 e2 => ⟨v, .ty n, _, _, b, rfl, .ty n, dp_ty (Dp.up hd (e1.trans e2)), kit_ty hb, q H2 e2⟩
theorem ev_isi2 {m n : String} (h : Evl.Ev te σ H v) (hd : Dp K H v d) (hb : kitsB (tyOf d) [m, n] = some b) : Evl.Ev (tCB (rIsiT K) (tCons te (tCons (tTup (tCons (tC (.ty m)) (tCons (tC (.ty n)) tNil))) tNil))) σ H (.bl b) := fun H1 e1 Q q =>
  h H1 e1 _ fun H2 e2 => ⟨by show 2 ≤ sizeLine; decide, fun p hp => ⟨v, p, _, _, _, b, rfl, upd_same, tys_cls (ns := [m, n]), dp_ty (Dp.up hd ((e1.trans e2).trans (Ex.new hp))), kitsB_ok hb, q _ (e2.trans (Ex.new hp))⟩⟩
theorem ev_isi4 {m n k l : String} (h : Evl.Ev te σ H v) (hd : Dp K H v d) (hb : kitsB (tyOf d) [m, n, k, l] = some b) :
    Evl.Ev (tCB (rIsiT K) (tCons te (tCons (tTup (tCons (tC (.ty m)) (tCons (tC (.ty n)) (tCons (tC (.ty k)) (tCons (tC (.ty l)) tNil))))) tNil))) σ H (.bl b) := fun H1 e1 Q q =>
  h H1 e1 _ fun H2 e2 => ⟨by show 4 ≤ sizeLine; decide, fun p hp => ⟨v, p, _, _, _, b, rfl, upd_same, tys_cls (ns := [m, n, k, l]), dp_ty (Dp.up hd ((e1.trans e2).trans (Ex.new hp))), kitsB_ok hb, q _ (e2.trans (Ex.new hp))⟩⟩
theorem ev_eqD (h : Evl.Ev te σ H v) (h2 : Evl.Ev tb σ H w) (hd : Dp K H v d) (he : Dp K H w e) (sd : SeqAt.shaped d = true) (se : SeqAt.shaped e = true) : Evl.Ev (tOp (rEqD K) te tb) σ H (.bl (PyData.eqv d e)) := fun H1 e1 Q q =>
  h H1 e1 _ fun H2 e2 => h2 H2 (e1.trans e2) _ fun H3 e3 => ⟨d, e, Dp.up hd ((e1.trans e2).trans e3), Dp.up he ((e1.trans e2).trans e3), sd, se, q H3 (e2.trans e3)⟩
theorem ev_eqB {a c : Bool} (h : Evl.Ev te σ H (.bl a)) (h2 : Evl.Ev tb σ H (.bl c)) : Evl.Ev (tOp rEq te tb) σ H (.bl (decide (V.bl a = V.bl c))) := Evl.ev_op h h2 (Evl.rv_eq rfl)
theorem ev_neB {a c : Bool} (h : Evl.Ev te σ H (.bl a)) (h2 : Evl.Ev tb σ H (.bl c)) : Evl.Ev (tOp rNe te tb) σ H (.bl (!decide (V.bl a = V.bl c))) := Evl.ev_op h h2 (Evl.rv_ne rfl)
theorem ev_lenS {a : Addr} {xs : List V} (ha : Evl.Ev te σ H (.ref a)) (h : SqL K H a xs ∨ SqT K H a xs) : Evl.Ev (tCB (fun xs H Q => ∃ p ys, xs = [.ref p] ∧ (SqL K H p ys ∨ SqT K H p ys) ∧ Q (.int ys.length) H) (tCons te tNil)) σ H (.int (xs.length : Int)) := fun H1 e Q q =>
  ha H1 e _ fun H2 e2 => ⟨a, xs, rfl, h.imp (Evl.ex_l (e.trans e2)) (Evl.ex_t (e.trans e2)), q H2 e2⟩
end
/-! ### defs of the text, found by their names -/
structure DefAt (P : Program) (w : World) (K : PySem.W.Frag) (mg : Str → Option Value) (base : Heap) (x : Str) (k : Nat) (ps : List Str) (sp : Sp) : Prop where
  ex : ∃ f fd, FnOk P w K mg base CX0 k f fd ps sp ∧ mg x = some (.ref f) ∧ PySem.W.keepIn K (.ref f) = true ∧ Binds K fd ps []
theorem DefAt.imp {P : Program} {w : World} {K : PySem.W.Frag} {mg : Str → Option Value} {base : Heap} {x : Str} {k : Nat} {ps : List Str} {sp sp' : Sp} (D : DefAt P w K mg base x k ps sp) (h : ∀ vs H Q E, sp' vs H Q E → sp vs H Q E) : DefAt P w K mg base x k ps sp' := by
  obtain ⟨f, fd, F, r⟩ := D.ex
  exact ⟨f, fd, F.imp h, r⟩
theorem DefAt.mono {P : Program} {w : World} {K : PySem.W.Frag} {mg : Str → Option Value} {base : Heap} {x : Str} {k j : Nat} {ps : List Str} {sp : Sp} (D : DefAt P w K mg base x k ps sp) (h : k ≤ j) : DefAt P w K mg base x j ps sp := by
  obtain ⟨f, fd, F, r⟩ := D.ex
  exact ⟨f, fd, F.mono h, r⟩
def tCallD (sp : Sp) (t : TA) : TE := fun σ H Q => t σ H fun vs H1 => sp vs H1 Q E0
theorem pe_callD {X : Cx} {x : Str} {k : Nat} {ps : List Str} {sp : Sp} {p pos : Pos} {e : Expr} {es : List Expr} {t : TA} (D : DefAt X.prog X.w X.K X.mg X.base x k ps sp) (hr : Room k X.A) (hg : Gl X x) (ha : PA X (e :: es) t)
    (hdb : (x == ("__debug__" : Str)) = false := by decide) (he : starEach (e :: es) X.env = (false, eval e X.env) :: starEach es X.env := by rfl) (hpl : (backTo pos (starEach es X.env)).any (·.1) = false := by rfl) :
    PE X (.Call (.Name x p) (e :: es) [] pos) (tCallD sp t) := by
  obtain ⟨f, fd, F, hm, hk, hb⟩ := D.ex
  refine ⟨fun pins s σ H Q I h => (pe_call (E := E0) F hr hg hm hk hb .nil pass0 ha hdb he hpl).run pins s σ H Q I ?_⟩
  have e1 : (fun (vs : List V) (H1 : Hp) => sp (vs ++ []) H1 Q E0) = fun vs H1 => sp vs H1 Q E0 := by
    funext vs H1
    rw [List.append_nil]
  show t σ H fun vs H1 => sp (vs ++ []) H1 Q E0
  rw [e1]
  exact h
/-! ### draws -/
/-- at l the draws: three numbers; at most n drawn by the second way -/
def Dr (n : Nat) (H : Hp) (l : Addr) : Prop := ∃ x y z : Int, H l = some (.lst [.int x, .int y, .int z]) ∧ 0 ≤ x ∧ 0 ≤ y ∧ y ≤ 1099511627776 ∧ 0 ≤ z ∧ z ≤ (n : Int)
theorem Dr.up {n m : Nat} {H : Hp} {l : Addr} (h : Dr n H l) (e : n ≤ m) : Dr m H l := by
  obtain ⟨x, y, z, h1, h2, h3, h4, h5, h6⟩ := h
  exact ⟨x, y, z, h1, h2, h3, h4, h5, by omega⟩
theorem Dr.ne {n : Nat} {H : Hp} {l : Addr} (h : Dr n H l) : H l ≠ none := by
  obtain ⟨x, y, z, h1, _⟩ := h
  rw [h1]
  simp
theorem Dr.ex {n : Nat} {H H' : Hp} {l : Addr} (h : Dr n H l) (e : Ex H H') : Dr n H' l := by
  obtain ⟨x, y, z, h1, h2⟩ := h
  exact ⟨x, y, z, e _ _ h1, h2⟩
/-- all but the cell l stays -/
def ExB (l : Addr) (H H' : Hp) : Prop := ∀ a o, a ≠ l → H a = some o → H' a = some o
theorem ExB.refl (l : Addr) (H : Hp) : ExB l H H := fun _ _ _ h => h
theorem ExB.of {l : Addr} {H H' : Hp} (e : Ex H H') : ExB l H H' := fun a o _ h => e a o h
theorem ExB.trans {l : Addr} {H H1 H2 : Hp} (a : ExB l H H1) (b : ExB l H1 H2) : ExB l H H2 := fun c o n h => b c o n (a c o n h)
theorem ExB.upd {l : Addr} {H : Hp} {o : HO} : ExB l H (upd H l o) := fun a u n h => by
  rw [upd_ne n]
  exact h
theorem ExB.w {l : Addr} {L : List Addr} {H H' : Hp} (e : ExB l H H') (m : l ∈ L) : Ex (W L H) (W L H') := fun a o h => by
  obtain ⟨h1, n⟩ := w_in h
  exact w_of n (e a o (fun z => n (by rw [z]; exact m)) h1)
theorem ExB.hid {l : Addr} {L : List Addr} {H H' : Hp} (e : ExB l H H') (hl : H' l ≠ none) (h : Hid L H) : Hid L H' := fun a m => by
  by_cases q : a = l
  · rw [q]
    exact hl
  · intro z
    cases r : H a with
    | none => exact h a m r
    | some o =>
      have t := e a o q r
      rw [z] at t
      cases t
def spSource (K : PySem.W.Frag) : Sp := fun vs H Q _ => ∃ (s : Addr) (ns : List Int) (i : Nat), vs = [.ref s, .int (i : Int)] ∧ SqL K H s (ns.map V.int) ∧ ns.length ≤ 63 ∧ i ≤ 100 ∧
  ∀ l o, H l = none → Dr 0 (upd H l o) l → Q (.ref l) (upd H l o)
def spDraw : Sp := fun vs H Q _ => ∃ (l : Addr) (many : Int) (n : Nat), vs = [.ref l, .int many] ∧ Dr n H l ∧ n < 1000000 ∧ 0 < many ∧ many < 1073741824 ∧
  ∀ r o, 0 ≤ r → r < many → Dr (n + 1) (upd H l o) l → Q (.int r) (upd H l o)
def spPick (K : PySem.W.Frag) : Sp := fun vs H Q _ => ∃ (l t : Addr) (ds : List PyData) (n : Nat) (L : List Addr), vs = [.ref l, .ref t] ∧ Dr n H l ∧ n < 1000000 ∧ l ∈ L ∧ Dp K (W L H) (.ref t) (.list ds) ∧ 0 < ds.length ∧ ds.length < 1073741824 ∧
  ∀ v d o, d ∈ ds → Dp K (W L (upd H l o)) v d → Dr (n + 1) (upd H l o) l → Q v (upd H l o)
end U

set_option Elab.async false
set_option linter.all false
set_option maxRecDepth 100000
set_option maxHeartbeats 2000000
namespace U
open PySem L2
open Evl (Ex)
theorem yes_lc {σ : L2.St} {H : Hp} {A B : Hp → Prop} (h : A H) : tYes σ H (fun b H3 => if b = true then A H3 else B H3) := by
  show (if true = true then A H else B H)
  rw [if_pos rfl]
  exact h
section
variable {K : PySem.W.Frag} {a b : Addr} {xs ys : List V} {σ : L2.St} {H : Hp}
theorem walk_zipT {n : Nat} (hn : n = min xs.length ys.length) : Walk (RZ.ItzT K a b) n (fun H => SqT K H a xs ∧ SqT K H b ys) (YPair (fun i => xs[i]?) (fun i => ys[i]?)) := by
  subst hn
  refine ⟨fun i _ hi q => ?_, fun _ q => ⟨xs, ys, q.1, q.2, by omega⟩, fun i H v H' _ q y => ?_⟩
  · have h1 : i < xs.length := by omega
    have h2 : i < ys.length := by omega
    exact ⟨xs, ys, xs[i], ys[i], q.1, q.2, by simp [h1], by simp [h2]⟩
  · obtain ⟨T, x, z, h1, h2, h3, h4, h5⟩ := y
    exact ⟨T, x, z, h1, h2, h3, h4 xs q.1, h5 ys q.2⟩
/-- what a comprehension of every item has made so far -/
def Cm (H : Hp) (v : Nat → V) (Dl : Addr) (i : Nat) (H' : Hp) : Prop := H Dl = none ∧ Ex H H' ∧ H' Dl = some (.lst ((List.range i).map v))
theorem cm_0 {v : Nat → V} {Dl : Addr} (h : H Dl = none) : Cm H v Dl 0 (upd H Dl (.lst [])) := ⟨h, Ex.new h, upd_same⟩
theorem cm_turn {H' : Hp} {v : Nat → V} {Dl : Addr} {i : Nat} {te : TE} {σ2 : L2.St} (p : Cm H v Dl i H') (hi : i < 50000) (H2 : Hp) (e2 : Ex H' H2) (he : Evl.Ev te σ2 H (v i)) :
    te σ2 H2 fun y H4 => ∃ acc, H4 Dl = some (.lst acc) ∧ acc.length < sizeLine ∧ Cm H v Dl (i + 1) (upd H4 Dl (.lst (acc ++ [y]))) := by
  obtain ⟨p1, p2, p3⟩ := p
  refine he H2 (p2.trans e2) _ fun H4 e4 => ⟨_, e4 Dl _ (e2 Dl _ p3), Evl.sz_lt (by rw [List.length_map, List.length_range]; omega), p1, Evl.Ex.mut ((p2.trans e2).trans e4) p1, ?_⟩
  rw [upd_same, List.range_succ, List.map_append]
  rfl
theorem el_zip {ta : TA} {te : TE} {i1 i2 : Nat} {vs : List Nat} {v : Nat → V} (h : Evl.EvA ta σ H [.ref a, .ref b]) (hx : (SqL K H a xs ∧ SqL K H b ys) ∨ (SqT K H a xs ∧ SqT K H b ys)) (hl : xs.length = ys.length) (hz : xs.length ≤ 40000)
    (hw : ∀ x y, wipe (((wipe σ vs).set i1 (some x)).set i2 (some y)) vs = wipe σ vs)
    (he : ∀ (i : Nat) (x y : V) H1, Ex H H1 → xs[i]? = some x → ys[i]? = some y → Evl.Ev te (((wipe σ vs).set i1 (some x)).set i2 (some y)) H1 (v i)) :
    Evl.EvL (tLc (RZ.iZipA K ta) (gTup K 2 (gCons (gName i1) (gCons (gName i2) gNil))) tYes te vs) σ H ((List.range xs.length).map v) := fun H0 e0 Q q => h H0 e0 _ fun H1 e1 => by
  have turn : ∀ (Dl : Addr) (i : Nat) (x : V) (H2 H3 : Hp), i < xs.length → Cm H1 v Dl i H2 → YPair (fun i => xs[i]?) (fun i => ys[i]?) i H2 x H3 → gTup K 2 (gCons (gName i1) (gCons (gName i2) gNil)) x (wipe σ vs) H3 fun σ2 H2 => wipe σ2 vs = wipe σ vs ∧ tYes σ2 H2 fun b H3 =>
      if b = true then te σ2 H3 fun y H4 => ∃ acc, H4 Dl = some (.lst acc) ∧ acc.length < sizeLine ∧ Cm H1 v Dl (i + 1) (upd H4 Dl (.lst (acc ++ [y]))) else Cm H1 v Dl (i + 1) H3 := by
    intro Dl i x H2 H3 hi p yp
    obtain ⟨T, u, w, rfl, hT, rfl, hu, hw'⟩ := yp
    refine ⟨T, [u, w], rfl, SqT.of upd_same, rfl, u, [w], rfl, w, [], rfl, rfl, hw u w, ?_⟩
    exact yes_lc (A := fun H3 => te ((List.set (wipe σ vs) i1 (some u)).set i2 (some w)) H3 fun y H4 => ∃ acc, H4 Dl = some (.lst acc) ∧ acc.length < sizeLine ∧ Cm H1 v Dl (i + 1) (upd H4 Dl (.lst (acc ++ [y])))) (B := fun H3 => Cm H1 v Dl (i + 1) H3) <| cm_turn p (by omega) _ (Ex.new hT) (he i u w _ (e0.trans e1) hu hw')
  rcases hx with ⟨x1, x2⟩ | ⟨x1, x2⟩
  · refine ⟨a, b, xs, ys, rfl, .inl ⟨Evl.ex_l (e0.trans e1) x1, Evl.ex_l (e0.trans e1) x2, fun Dl hD => ?_⟩⟩
    exact lc_it (walk_zip (n := xs.length) (by omega)) (Cm H1 v Dl) (cm_0 hD) (fun i H2 _ p => ⟨Evl.ex_l ((e0.trans e1).trans p.2.1) x1, Evl.ex_l ((e0.trans e1).trans p.2.1) x2⟩) (fun i x H2 H3 hi p y => turn Dl i x H2 H3 hi p y)
      (fun H2 p => q Dl H2 (Evl.fresh_back e1 p.1) (e1.trans p.2.1) p.2.2)
  · refine ⟨a, b, xs, ys, rfl, .inr ⟨Evl.ex_t (e0.trans e1) x1, Evl.ex_t (e0.trans e1) x2, fun Dl hD => ?_⟩⟩
    exact lc_it (walk_zipT (n := xs.length) (by omega)) (Cm H1 v Dl) (cm_0 hD) (fun i H2 _ p => ⟨Evl.ex_t ((e0.trans e1).trans p.2.1) x1, Evl.ex_t ((e0.trans e1).trans p.2.1) x2⟩) (fun i x H2 H3 hi p y => turn Dl i x H2 H3 hi p y)
      (fun H2 p => q Dl H2 (Evl.fresh_back e1 p.1) (e1.trans p.2.1) p.2.2)
theorem ev_all {te : TE} {bs : List Bool} (h : Evl.EvL te σ H (bs.map V.bl)) : Evl.Ev (tCB (rAll K) (tCons te tNil)) σ H (.bl (bs.all id)) := fun H1 e1 Q q =>
  h H1 e1 _ fun p H2 hp e2 h2 => ⟨p, bs, rfl, SqL.of h2, q H2 e2⟩
theorem ev_any {te : TE} {bs : List Bool} (h : Evl.EvL te σ H (bs.map V.bl)) : Evl.Ev (tCB (rAny K) (tCons te tNil)) σ H (.bl (bs.any id)) := fun H1 e1 Q q =>
  h H1 e1 _ fun p H2 hp e2 h2 => ⟨p, bs, rfl, SqL.of h2, q H2 e2⟩
theorem ev_callD {sp : Sp} {ta : TA} {vs : List V} {z : V} (h : Evl.EvA ta σ H vs) (hs : ∀ H1, Ex H H1 → ∀ Q : VK, (∀ H2, Ex H1 H2 → Q z H2) → sp vs H1 Q E0) : Evl.Ev (tCallD sp ta) σ H z := fun H1 e Q q =>
  h H1 e _ fun H2 e2 => hs H2 (e.trans e2) Q fun H3 e3 => q H3 (e2.trans e3)
end
/-! ### data no deeper than n -/
def fits : Nat → PyData → Prop
  | 0, .list _ => False
  | 0, .tuple _ => False
  | n + 1, .list ds => ds.length ≤ 40000 ∧ ∀ d ∈ ds, fits n d
  | n + 1, .tuple ds => ds.length ≤ 40000 ∧ ∀ d ∈ ds, fits n d
  | _, .dict _ => False
  | _, _ => True
theorem fits_up : ∀ {n m : Nat} {d : PyData}, n ≤ m → fits n d → fits m d
  | 0, 0, _, _, h => h
  | 0, m + 1, d, _, h => by
    cases d with
    | list ds => exact h.elim
    | tuple ds => exact h.elim
    | dict _ => exact h.elim
    | _ => trivial
  | n + 1, 0, _, e, _ => by omega
  | n + 1, m + 1, d, e, h => by
    cases d with
    | list ds => exact ⟨h.1, fun z hz => fits_up (by omega) (h.2 z hz)⟩
    | tuple ds => exact ⟨h.1, fun z hz => fits_up (by omega) (h.2 z hz)⟩
    | dict _ => exact h.elim
    | _ => trivial
/-- two readings of the same data: True -/
def spSame (K : PySem.W.Frag) (n : Nat) : Sp := fun vs H Q _ => ∃ (x y : V) (d : PyData), vs = [x, y] ∧ Dp K H x d ∧ Dp K H y d ∧ fits n d ∧ ∀ H', Ex H H' → Q (.bl true) H'
end U

set_option Elab.async false
set_option linter.all false
set_option maxRecDepth 100000
set_option maxHeartbeats 2000000
namespace U
open PySem L2
open Evl (Ex)
/-! ### what evaluates to data -/
section
variable {K : PySem.W.Frag} {L : List Addr} {σ : L2.St} {H H' : Hp} {te tb : TE} {ta tr : TA} {v : V} {d : PyData} {ds : List PyData} {l p : Addr} {o : HO}
def EvD (K : PySem.W.Frag) (L : List Addr) (te : TE) (σ : L2.St) (H : Hp) (d : PyData) : Prop := ∀ H1, Ex H H1 → ∀ Q : VK, (∀ v H2, Ex H1 H2 → Dp K (W L H2) v d → Q v H2) → te σ H1 Q
def EvDs (K : PySem.W.Frag) (L : List Addr) (ta : TA) (σ : L2.St) (H : Hp) (ds : List PyData) : Prop := ∀ H1, Ex H H1 → ∀ Q : List V → Hp → Prop, (∀ vs H2, Ex H1 H2 → DpAll K (W L H2) vs ds → Q vs H2) → ta σ H1 Q
theorem EvD.mono (e : Ex H H') (h : EvD K L te σ H d) : EvD K L te σ H' d := fun H1 a Q q => h H1 (e.trans a) Q q
theorem EvDs.mono (e : Ex H H') (h : EvDs K L ta σ H ds) : EvDs K L ta σ H' ds := fun H1 a Q q => h H1 (e.trans a) Q q
theorem evd_of (h : Evl.Ev te σ H v) (hd : Dp K (W L H) v d) : EvD K L te σ H d := fun H1 e Q q => h H1 e _ fun H2 e2 => q v H2 e2 (hd.up (w_ex (e.trans e2)))
theorem evd_var {i : Nat} (h : σ[i]? = some (some v)) (hd : Dp K (W L H) v d) : EvD K L (tVar i) σ H d := evd_of (Evl.ev_var h) hd
theorem evd_int {i : Int} : EvD K L (tC (.int i)) σ H (.int i) := evd_of Evl.ev_c (.int i)
theorem evd_bl {b : Bool} : EvD K L (tC (.bl b)) σ H (.bool b) := evd_of Evl.ev_c (.bl b)
theorem evd_non : EvD K L (tC .non) σ H .none := evd_of Evl.ev_c .non
theorem evd_str {x : Str} : EvD K L (tC (.str x)) σ H (.str x) := evd_of Evl.ev_c (.str x)
theorem evd_evI {i : Int} (h : Evl.Ev te σ H (.int i)) : EvD K L te σ H (.int i) := evd_of h (.int i)
theorem evd_evB {b : Bool} (h : Evl.Ev te σ H (.bl b)) : EvD K L te σ H (.bool b) := evd_of h (.bl b)
theorem evds_nil : EvDs K L tNil σ H [] := fun H1 _ _ q => q [] H1 (Ex.refl H1) .nil
theorem evds_cons (h : EvD K L te σ H d) (hr : EvDs K L tr σ H ds) : EvDs K L (tCons te tr) σ H (d :: ds) := fun H1 e Q q =>
  h H1 e _ fun v H2 e2 hv => hr H2 (e.trans e2) _ fun vs H3 e3 hvs => q (v :: vs) H3 (e2.trans e3) (.cons (hv.up (w_ex e3)) hvs)
theorem evd_tup (hL : Hid L H) (h : EvDs K L ta σ H ds) (hz : ds.length ≤ 100000) : EvD K L (tTup ta) σ H (.tuple ds) := fun H1 e Q q =>
  h H1 e _ fun vs H2 e2 hv => ⟨Evl.sz_of (by rw [dpa_len hv]; exact hz), fun p hp => q (.ref p) _ (e2.trans (Ex.new hp)) (.tup (SqT.of (w_new (hid_ex (e.trans e2) hL) hp)) (hv.up (w_ex (Ex.new hp))))⟩
theorem evd_lst (hL : Hid L H) (h : EvDs K L ta σ H ds) (hz : ds.length ≤ 100000) : EvD K L (tLst ta) σ H (.list ds) := fun H1 e Q q =>
  h H1 e _ fun vs H2 e2 hv => ⟨Evl.sz_of (by rw [dpa_len hv]; exact hz), fun p hp => q (.ref p) _ (e2.trans (Ex.new hp)) (.lst (SqL.of (w_new (hid_ex (e.trans e2) hL) hp)) (hv.up (w_ex (Ex.new hp))))⟩
theorem w_fresh (hp : H p = none) : Ex (W L H) (W (p :: L) (upd H p o)) := fun a u h => by
  obtain ⟨h1, n⟩ := w_in h
  have ne : a ≠ p := ne_of_none h1 hp
  exact w_of (fun m => (List.mem_cons.mp m).elim ne n) (by rw [upd_ne ne]; exact h1)
theorem w_cons : Ex (W (p :: L) H) (W L H) := w_sub2 fun a m => List.mem_cons_of_mem _ m
/-! ### a list that grows -/
/-- at l a list of the data ds, which do not hang on l -/
def Gr (K : PySem.W.Frag) (L : List Addr) (H : Hp) (l : Addr) (ds : List PyData) : Prop := l ∉ L ∧ ∃ xs, H l = some (.lst xs) ∧ DpAll K (W (l :: L) H) xs ds
theorem Gr.dp (h : Gr K L H l ds) : Dp K (W L H) (.ref l) (.list ds) := by
  obtain ⟨n, xs, h1, h2⟩ := h
  exact .lst (SqL.of (w_of n h1)) (h2.up w_cons)
theorem Gr.up (h : Gr K L H l ds) (e : Ex H H') : Gr K L H' l ds := by
  obtain ⟨n, xs, h1, h2⟩ := h
  exact ⟨n, xs, e _ _ h1, h2.up (w_ex e)⟩
theorem Gr.ne (h : Gr K L H l ds) : H l ≠ none := by
  obtain ⟨n, xs, h1, h2⟩ := h
  rw [h1]
  simp
theorem gr_new {xs : List V} (hL : Hid L H) (hp : H p = none) (h : DpAll K (W L H) xs ds) : Gr K L (upd H p (.lst xs)) p ds := ⟨hid_not hL hp, xs, upd_same, h.up (w_fresh hp)⟩
/-- a heap that differs at l alone, where the list has one more -/
theorem gr_app {xs : List V} (n : l ∉ L) (h1 : H l = some (.lst xs)) (h2 : DpAll K (W (l :: L) H) xs ds) (hv : Dp K (W (l :: L) H) v d) : Gr K L (upd H l (.lst (xs ++ [v]))) l (ds ++ [d]) := by
  refine ⟨n, xs ++ [v], upd_same, ?_⟩
  rw [w_upd_in (List.mem_cons_self ..)]
  exact dpa_app h2 (.cons hv .nil)
/-! ### statements -/
variable {D : Ends} {tz tu : TS} {i : Nat}
theorem d_asg (h : EvD K L te σ H d) (k : ∀ v H1, Ex H H1 → Dp K (W L H1) v d → D.nx (σ.set i (some v)) H1) : tAsg te (gName i) D σ H := h H (Ex.refl H) _ fun v H1 e hv => k v H1 e hv
theorem qd_asg (h : EvD K L te σ H d) (k : ∀ v H1, Ex H H1 → Dp K (W L H1) v d → tz D (σ.set i (some v)) H1) : tSeq (tAsg te (gName i)) tz D σ H := d_asg (D := { D with nx := tz D }) h k
theorem d_ret (h : EvD K L te σ H d) (k : ∀ v H1, Ex H H1 → Dp K (W L H1) v d → D.rt v H1) : tRet te D σ H := h H (Ex.refl H) _ fun v H1 e hv => k v H1 e hv
theorem qd_lst (hL : Hid L H) (h : EvDs K L ta σ H ds) (hz : ds.length ≤ 100000) (k : ∀ p H1, H p = none → Ex H H1 → Gr K L H1 p ds → tz D (σ.set i (some (.ref p))) H1) : tSeq (tAsg (tLst ta) (gName i)) tz D σ H :=
  h H (Ex.refl H) _ fun vs H1 e hv => ⟨Evl.sz_of (by rw [dpa_len hv]; exact hz), fun p hp => k p _ (Evl.fresh_back e hp) (e.trans (Ex.new hp)) (gr_new (hid_ex e hL) hp hv)⟩
theorem d_app (hg : Gr K L H l ds) (ho : Evl.Ev tb σ H (.ref l)) (h : EvD K (l :: L) te σ H d) (hz : ds.length < 100000) (k : ∀ o H1, Ex H H1 → Gr K L (upd H1 l o) l (ds ++ [d]) → D.nx σ (upd H1 l o)) :
    tDrop (tBM K "list" rAppend tb (tCons te tNil)) D σ H := ho H (Ex.refl H) _ fun H1 e1 => by
  obtain ⟨n, xs, h1, h2⟩ := hg
  refine ⟨Or.inl ⟨rfl, xs, SqL.of (e1 l _ h1)⟩, h H1 e1 _ fun v H2 e2 hv => ⟨l, xs, v, rfl, rfl, e2 l _ (e1 l _ h1), Evl.sz_lt (by rw [dpa_len h2]; exact hz), k _ H2 (e1.trans e2) ?_⟩⟩
  exact gr_app n (e2 l _ (e1 l _ h1)) (h2.up (w_ex (e1.trans e2))) hv
theorem qd_app (hg : Gr K L H l ds) (ho : Evl.Ev tb σ H (.ref l)) (h : EvD K (l :: L) te σ H d) (hz : ds.length < 100000) (k : ∀ o H1, Ex H H1 → Gr K L (upd H1 l o) l (ds ++ [d]) → tz D σ (upd H1 l o)) :
    tSeq (tDrop (tBM K "list" rAppend tb (tCons te tNil))) tz D σ H := d_app (D := { D with nx := tz D }) hg ho h hz k
/-- xs + ys, the left a list that stands, the right a new one -/
theorem evd_cat {es : List PyData} (hL : Hid L H) (hg : Gr K L H l ds) (ho : Evl.Ev te σ H (.ref l)) (h : EvDs K L ta σ H es) (hz : ds.length + es.length ≤ 100000) : EvD K L (tOp rCat te (tLst ta)) σ H (.list (ds ++ es)) := fun H1 e1 Q q =>
  ho H1 e1 _ fun H2 e2 => h H2 (e1.trans e2) _ fun vs H3 e3 hv => by
    have eA := (e1.trans e2).trans e3
    obtain ⟨n, xs, h1, h2⟩ := hg
    have l1 := dpa_len h2
    have l2 := dpa_len hv
    refine ⟨Evl.sz_of (by omega), fun p hp => ⟨l, p, xs, vs, rfl, rfl, ?_, upd_same, Evl.sz_of (by omega), fun r hr => ?_⟩⟩
    · exact (eA.trans (Ex.new hp)) l _ h1
    · refine q (.ref r) _ ((e2.trans e3).trans ((Ex.new hp).trans (Ex.new hr))) (.lst (SqL.of (w_new (hid_upd (hid_ex eA hL)) hr)) ?_)
      have z : Ex (W L H3) (W L (upd (upd H3 p (.lst vs)) r (.lst (xs ++ vs)))) := w_ex ((Ex.new hp).trans (Ex.new hr))
      exact dpa_app (((h2.up w_cons).up (w_ex eA)).up z) (hv.up z)
/-- xs.extend(ys), ys a new list -/
theorem d_ext {es : List PyData} (hg : Gr K L H l ds) (hL : Hid L H) (ho : Evl.Ev tb σ H (.ref l)) (h : EvDs K (l :: L) ta σ H es) (hz : ds.length + es.length ≤ 100000) (k : ∀ o H1, Ex H H1 → Gr K L (upd H1 l o) l (ds ++ es) → D.nx σ (upd H1 l o)) :
    tDrop (tBM K "list" rExtend tb (tCons (tLst ta) tNil)) D σ H := ho H (Ex.refl H) _ fun H1 e1 => by
  obtain ⟨n, xs, h1, h2⟩ := hg
  refine ⟨Or.inl ⟨rfl, xs, SqL.of (e1 l _ h1)⟩, h H1 e1 _ fun vs H2 e2 hv => ?_⟩
  have l1 := dpa_len h2
  have l2 := dpa_len hv
  refine ⟨Evl.sz_of (by omega), fun p hp => ?_⟩
  have e3 : Ex H2 (upd H2 p (.lst vs)) := Ex.new hp
  have eA := (e1.trans e2).trans e3
  refine ⟨l, p, xs, vs, rfl, rfl, eA l _ h1, upd_same, Evl.sz_of (by omega), k _ _ eA ⟨n, xs ++ vs, upd_same, ?_⟩⟩
  rw [w_upd_in (List.mem_cons_self ..)]
  exact dpa_app (h2.up (w_ex eA)) (hv.up (w_ex e3))
theorem qd_ext {es : List PyData} (hg : Gr K L H l ds) (hL : Hid L H) (ho : Evl.Ev tb σ H (.ref l)) (h : EvDs K (l :: L) ta σ H es) (hz : ds.length + es.length ≤ 100000) (k : ∀ o H1, Ex H H1 → Gr K L (upd H1 l o) l (ds ++ es) → tz D σ (upd H1 l o)) :
    tSeq (tDrop (tBM K "list" rExtend tb (tCons (tLst ta) tNil))) tz D σ H := d_ext (D := { D with nx := tz D }) hg hL ho h hz k
end
end U

set_option Elab.async false
set_option linter.all false
set_option maxRecDepth 100000
set_option maxHeartbeats 4000000
namespace UX
open PySem PySem.W PySem.Calls PyProof.Rows PySem.HandSPX
section
variable {M : Model} {A : Around} {E : Value → Shared → Prop} {h : Heap} {g : Array GenState} {d : Drawn} {t : Nat} {os : OsState}
variable {nm q : Str} {C N : Addr} {bs bm bmB : List Value} {hd : Bool} {sn : List Str} {sub : List Value} {ab : Bool} {col : Option Bool} {dd : Option Addr} {k0 k1 k2 k3 k5 : Option Value} {B nid iid : String}
/-- keywords are no fault of a call of such a __new__ -/
theorem kw_check (F : ExcBaseFacts B nid iid bmB) (hT : ∀ X : String, bm.contains (.type X) = bmB.contains (.type X)) {kw : List (Str × Value)} {Q : Unit → Shared → Prop}
    (hC : h.get? C = some (excClassObj nm q C N bs bm hd sn sub ab col dd k0 k1 k2 k3 k5 nid)) (hq : Q () ⟨h, g, d, t, os⟩) : wpAny M A (checkBuiltinCall nid ⟨[.ref C], kw⟩) Q E ⟨h, g, d, t, os⟩ := by
  have inB : (Value.ref C :: bm).contains (.type B) = true := (List.contains_cons ..).trans (by rw [hT, F.hasB]; exact Bool.or_true _)
  have star := F.noStar
  simp only [checkBuiltinCall, F.newKind, F.newSplit, F.newRow]
  repeat (first | refine wpAny_loadPart_at hC ?_ | (refine wpAny_isSubtype_exc hC ?_; rw [inB]) | refine wpAny_staticBase_exc hC ?_ | refine wpAny_madeBy_exc hC ?_ | (simp only [bne_self_eq_false, Bool.false_eq_true, if_false]) | wp_step)
  exact hq
end
section
variable {prog : Program} {w : World} {A : Around} {E : Value → Shared → Prop} {R : Result → Shared → Prop} {h : Heap} {g : Array GenState} {d : Drawn} {t : Nat} {os : OsState}
variable {nm q : Str} {C N : Addr} {bs bm bmB : List Value} {hd : Bool} {sn : List Str} {sub : List Value} {ab : Bool} {col : Option Bool} {dd : Option Addr} {k0 k1 k2 k3 k5 : Option Value} {B nid iid : String}
/-- the heap behind the making of an exception without arguments -/
abbrev mkd (h : Heap) (C : Addr) : Heap := (h.push (kdv_tup [])).push (excO C h.objs.size)
theorem kw_new (F : ExcBaseFacts B nid iid bmB) (hT : ∀ X : String, bm.contains (.type X) = bmB.contains (.type X)) {kw : List (Str × Value)} (hC : h.get? C = some (excClassObj nm q C N bs bm hd sn sub ab col dd k0 k1 k2 k3 k5 nid))
    (hq : R (.ok (.ret (.ref (h.objs.size + 1)))) ⟨mkd h C, g, d, t, os⟩) : codeAny (model prog w) A (.builtin nid ⟨[.ref C], kw⟩) R ⟨h, g, d, t, os⟩ := by
  have ends := F.ends
  have inB : (Value.ref C :: bm).contains (.type B) = true := (List.contains_cons ..).trans (by rw [hT, F.hasB]; exact Bool.or_true _)
  have noA : (Value.ref C :: bm).contains (.type "AttributeError") = false := (List.contains_cons ..).trans (by rw [hT, F.noAttr]; rfl)
  have noN : (Value.ref C :: bm).contains (.type "NameError") = false := (List.contains_cons ..).trans (by rw [hT, F.noName]; rfl)
  have none0 : ([] : List Value).length ≤ sizeLine := Nat.zero_le _
  refine codeAny_builtinAt F.entry ?_
  unfold Builtin.«BaseException.__new__»
  refine PySem.wpAt_bind ?_
  show PySem.wpAt _ _ _ (stack >>= _) _ _ _
  refine PySem.wpAt_bind (PySem.wpAt_stack fun p below => PySem.wpAt_of_wpAny ?_)
  wp_walk
  refine PySem.wpAt_of_wpAny ?_
  rw [F.owner]
  repeat (first | with_reducible refine wpAny_madeHere_exc F.canon hC ?_ | with_reducible refine wpAny_loadPart_at hC ?_ | (with_reducible refine wpAny_isSubtype_exc hC ?_; first | rw [inB] | rw [noA] | rw [noN]) | wp_step)
  show R _ _
  rw [Heap.size_push]
  exact hq
theorem kw_type (F : ExcBaseFacts B nid iid bmB) (hT : ∀ X : String, bm.contains (.type X) = bmB.contains (.type X)) {kw : List (Str × Value)} {fI : Addr} {Q : Fin → Shared → Prop} (hC : h.get? C = some (excClassObj nm q C N bs bm hd sn sub ab col dd k0 k1 k2 k3 k5 nid))
    (hi : Looks (model prog w) h (typeLookup (.ref C) "__init__") (some (.ref fI))) (hb : ∀ self, Looks (model prog w) h (bindSpecial (.ref fI) self) (.ref fI, [self]))
    (hq : codeAny (model prog w) A (.call (.ref fI) ⟨[.ref (h.objs.size + 1)], kw⟩) (fun r s' => match r with | .ok (.ret v) => v = .none ∧ Q (.done (.ret (.ref (h.objs.size + 1)))) s' | .ok _ => False | .error e => E e s') ⟨mkd h C, g, d, t, os⟩) :
    wpAny (model prog w) A (Builtin.«type.__call__» ⟨[.ref C], kw⟩) Q E ⟨h, g, d, t, os⟩ := by
  repeat (first | with_reducible refine wpAny_loadPart_at hC ?_ | with_reducible refine wpAny_madeBy_exc hC ?_ | wp_step)
  refine codeAny_call_builtin_code (Code.quiet_builtin _ F.quiet) (kw_check F hT hC ?_)
  refine kw_new F hT hC ?_
  show wpAny _ _ _ _ _ _
  have kp : ∀ b o, h.get? b = some o → (mkd h C).get? b = some o := fun b o e => Heap.get?_push_of_some _ (Heap.get?_push_of_some _ e)
  have hC1 := kp _ _ hC
  have get1 : (mkd h C).get? (h.objs.size + 1) = some (excO C h.objs.size) := by heap_get
  have self1 : (Value.ref C :: bm).contains (.ref C) = true := by simp
  have i1 := hi.keeps kp
  have b1 := (hb (.ref (h.objs.size + 1))).keeps kp
  unfold isInstance
  repeat (first | with_reducible refine wpAny_loadPart_at get1 ?_ | (with_reducible refine wpAny_isSubtype_exc hC1 ?_; rw [self1]) | wp_step)
  show wpAny _ _ (typeLookup (.ref C) _) _ _ _
  refine i1.at ?_
  refine wpAny_holding (wpAny_bind (b1.at ?_))
  refine wpAny_bind (wpAny_call (codeAny_mono hq fun r s' z => ?_))
  cases r with
  | error e => exact z
  | ok fl =>
    cases fl with
    | ret v =>
      obtain ⟨rfl, z⟩ := z
      first
        | exact wpAny_pure (wpAny_pure z)
        | (wp_walk; exact z)
    | next => exact z.elim
    | brk => exact z.elim
    | cont => exact z.elim
theorem kw_call (F : ExcBaseFacts B nid iid bmB) (hT : ∀ X : String, bm.contains (.type X) = bmB.contains (.type X)) {kw : List (Str × Value)} {fI : Addr} (hC : h.get? C = some (excClassObj nm q C N bs bm hd sn sub ab col dd k0 k1 k2 k3 k5 nid))
    (hi : Looks (model prog w) h (typeLookup (.ref C) "__init__") (some (.ref fI))) (hb : ∀ self, Looks (model prog w) h (bindSpecial (.ref fI) self) (.ref fI, [self]))
    (hq : codeAny (model prog w) (A.under (.builtin "type.__call__" ⟨[.ref C], kw⟩)) (.call (.ref fI) ⟨[.ref (h.objs.size + 1)], kw⟩) (InitBack (h.objs.size + 1) R) ⟨mkd h C, g, d, t, os⟩) :
    codeAny (model prog w) A (.call (.ref C) ⟨[], kw⟩) R ⟨h, g, d, t, os⟩ := by
  have f1 := tc_lookup
  have f2 := tc_bind (.ref C)
  have tyC : (⟨h, g, d, t, os⟩ : Shared).TypeIs (.ref C) "type" := ⟨_, hC, rfl⟩
  refine codeAny_of_tree ?_
  show wpAny _ _ (callAny (.ref C) _) _ _ _
  repeat (any_goals (first | assumption | with_reducible refine wpAny_loadPart_at hC ?_ | wp_step))
  refine ⟨rfl, ?_⟩
  refine codeAny_call_builtin_at (Code.quiet_builtin _ (by decide +kernel)) entry_typeCall (wpAny_check_type_call_sub hC (kw_type F hT hC hi hb ?_))
  refine codeAny_mono hq fun r s' z => ?_
  cases r with
  | error e => exact z
  | ok fl => cases fl <;> exact z
end
end UX

set_option Elab.async false
set_option linter.all false
set_option maxRecDepth 100000
set_option maxHeartbeats 4000000
namespace U
open PySem L2 PyProof.Rows
open Evl (Ex)
/-! ### errors of the text as values -/
/-- what a class of errors with its own __init__(self, f) says -/
structure ErrC (P : Program) (w : World) (K : PySem.W.Frag) (mg : Str → Option Value) (base : Heap) (x : Str) (C : Addr) (f : Str) : Prop where
  T : OexC K C
  gC : mg x = some (.ref C)
  xf : XfC K C
  no : PySem.W.findIn K (.ref C) f = some none
  init : ∃ (fI : Addr) (fd : FuncData), PySem.W.findIn K (.ref C) "__init__" = some (some (.ref fI)) ∧ PySem.W.typeIn K (.ref fI) = some (.type "function") ∧
    FnOk P w K mg base CX0 1 fI fd ["self", f] (fun vs H Q _ => ∃ (a : Addr) (v : V), vs = [.ref a, v] ∧ H a = some (exo a C none) ∧ ∀ dx, H dx = none → dx ≠ a → Q .non (upd (upd H dx (exd dx [(f, v)])) a (exo a C (some dx)))) ∧
    Binds K fd ["self", f] [] ∧ (∀ (s : Shared) (u v : Value), BindsTo s fd ⟨[u], [(f, v)]⟩ [("self", u), (f, v)])
/-- at a an error of the class at C whose attribute f is v -/
def ErrAt (H : Hp) (a C : Addr) (f : Str) (v : V) : Prop := ∃ d : Addr, H a = some (exo a C (some d)) ∧ H d = some (exd d [(f, v)])
theorem ErrAt.up {H H' : Hp} {a C : Addr} {f : Str} {v : V} (h : ErrAt H a C f v) (e : Ex H H') : ErrAt H' a C f v := by
  obtain ⟨d, h1, h2⟩ := h
  exact ⟨d, e _ _ h1, e _ _ h2⟩
/-- at a an error of the class at C -/
def ErrOf (H : Hp) (a C : Addr) : Prop := (∃ (d : Addr) (fs : List (Str × V)), H a = some (exo a C (some d)) ∧ H d = some (exd d fs)) ∨ H a = some (ExO (.ref C) a)
theorem ErrOf.up {H H' : Hp} {a C : Addr} (h : ErrOf H a C) (e : Ex H H') : ErrOf H' a C := by
  rcases h with ⟨d, fs, h1, h2⟩ | h1
  · exact .inl ⟨d, fs, e _ _ h1, e _ _ h2⟩
  · exact .inr (e _ _ h1)
theorem ErrAt.of {H : Hp} {a C : Addr} {f : Str} {v : V} (h : ErrAt H a C f v) : ErrOf H a C := by
  obtain ⟨d, h1, h2⟩ := h
  exact .inl ⟨d, _, h1, h2⟩
theorem err_laid {H : Hp} {a dx C : Addr} {f : Str} {v : V} (ha : H a = none) (hd : H dx = none) (n : dx ≠ a) :
    Ex H (upd (upd (upd H a (exo a C none)) dx (exd dx [(f, v)])) a (exo a C (some dx))) ∧ ErrAt (upd (upd (upd H a (exo a C none)) dx (exd dx [(f, v)])) a (exo a C (some dx))) a C f v := by
  refine ⟨fun b o e => ?_, dx, upd_same, ?_⟩
  · have n1 : b ≠ a := ne_of_none e ha
    have n2 : b ≠ dx := ne_of_none e hd
    rw [upd_ne n1, upd_ne n2, upd_ne n1]
    exact e
  · rw [upd_ne n, upd_same]
section
variable {X : Cx} {x f : Str} {C : Addr} {e : Expr} {te : TE} {p pos kpos apos : Pos}
/-- X(e): a new error -/
def tErr (C : Addr) (f : Str) (te : TE) : TE := fun σ H Q => te σ H fun v H1 => ∀ a H2, H1 a = none → Ex H1 H2 → ErrAt H2 a C f v → Q (.ref a) H2
theorem err_size {us : List Value} (h : us.length ≤ 1) : us.length ≤ sizeLine := by
  rw [sizeLine_eq]
  omega
theorem pe_err (R : ErrC X.prog X.w X.K X.mg X.base x C f) (hr : Room 2 X.A) (hg : Gl X x) (he : PE X e te) (hdb : (x == ("__debug__" : Str)) = false := by decide)
    (hs : starEach [e] X.env = (false, eval e X.env) :: starEach [] X.env := by rfl) : PE X (.Call (.Name x p) [e] [] pos) (tErr C f te) := by
  refine ⟨fun pins s σ H Q I h => ?_⟩
  obtain ⟨fI, fd, iC, tI, F1, hb, _⟩ := R.init
  obtain ⟨nm, q, N, bs, bm, sn, sub, ab, col, dd, k0, k1, k2, k3, k5, hC, hbm⟩ := R.T.cls
  refine wpAny_Call_Name_kw (ld_glob I hg R.gC ?_ hdb)
  refine PySem.W.callWith_K (h₀ := X.base) I.ok.mod.kin R.T.kC ?_ hs (by rfl)
  rw [hs]
  show wpAny _ _ (spliced ((false, eval e X.env) :: backTo pos (starEach [] X.env))) _ _ s
  refine Calls.spliced_cons (thn (he.run pins s σ H _ I h) fun u s1 ⟨v, H1, I1, r1, q1⟩ => Calls.spliced_nil ⟨I1.kIn, ?_⟩)
  show wpAny _ _ (call (.ref C) [u]) _ _ _
  obtain ⟨hp, g, dr, tk, os⟩ := s1
  have hsz : hp.objs.size ≤ hp.objs.size + 1 := Nat.le_succ _
  have hn : H1 (hp.objs.size + 1) = none := I1.hok.fresh hsz
  have kk : ∀ b o, hp.get? b = some o → ((hp.push (PySem.W.kdv_tup [u])).push (PySem.HandSPX.excO C hp.objs.size)).get? b = some o := fun b o z => Heap.get?_push_of_some _ (Heap.get?_push_of_some _ z)
  have hget : ((hp.push (PySem.W.kdv_tup [u])).push (PySem.HandSPX.excO C hp.objs.size)).get? (hp.objs.size + 1) = some (PySem.HandSPX.excO C hp.objs.size) := by heap_get
  have I2 : Inv X pins σ (upd H1 (hp.objs.size + 1) (exo (hp.objs.size + 1) C none)) ⟨(hp.push (PySem.W.kdv_tup [u])).push (PySem.HandSPX.excO C hp.objs.size), g, dr, tk, os⟩ :=
    I1.laid (t' := tk) (a := hp.objs.size + 1) (o := exo (hp.objs.size + 1) C none) (h' := (hp.push (PySem.W.kdv_tup [u])).push (PySem.HandSPX.excO C hp.objs.size)) kk hsz (exo_ok hget)
  have r2 : Vals [V.ref (hp.objs.size + 1), v] [Value.ref (hp.objs.size + 1), u] := .cons rfl (.cons r1 .nil)
  have bt := hb _ [Value.ref (hp.objs.size + 1), u] I2.kIn rfl
  rw [List.append_nil] at bt
  refine wpAny_call (PySem.HandSPX.call_own PySem.F.excBase_ValueError (fun Y => PySem.HandSPX.refsVE_contains Y bm hbm) (I1.kIn _ _ hC) (PySem.W.looks_findIn I1.kIn iC) (fun self => PySem.W.bind_fn I1.kIn self tI) (err_size (Nat.le_refl 1))
    (codeAny_mono (F1.run _ X.stack _ _ ⟨[Value.ref (hp.objs.size + 1), u], []⟩ [Value.ref (hp.objs.size + 1), u] _ (fun y H2 => y = .non ∧ Q (.ref (hp.objs.size + 1)) H2) (fun _ _ _ => False) (hr.make C [u] []) (I2.env0.make C [u] []) bt r2
      ⟨_, v, rfl, upd_same, fun dx hdx nx => ⟨rfl, ?_⟩⟩) fun r s' hq' => ?_))
  · have hd1 : H1 dx = none := by
      rw [upd_ne nx] at hdx
      exact hdx
    obtain ⟨z1, z2⟩ := err_laid (C := C) (f := f) (v := v) hn hd1 nx
    exact q1 _ _ hn z1 z2
  · cases r with
    | error er => exact False.elim hq'
    | ok fl =>
      cases fl with
      | ret u' =>
        obtain ⟨y, H', I3, ry, ey, q3⟩ := I2.after hq'
        subst ey
        exact ⟨ry, ⟨V.ref (hp.objs.size + 1), H', I3, rfl, q3⟩⟩
      | next => exact False.elim hq'
      | brk => exact False.elim hq'
      | cont => exact False.elim hq'
/-- of a list with one item -/
def only1 (R : V → Hp → Prop) : List V → Hp → Prop
  | [v], H => R v H
  | _, _ => False
theorem only1_is {R : V → Hp → Prop} : ∀ {vs : List V} {H : Hp}, only1 R vs H → ∃ v, vs = [v] ∧ R v H
  | [v], _, h => ⟨v, rfl, h⟩
  | [], _, h => h.elim
  | _ :: _ :: _, _, h => h.elim
/-- X(f=e) -/
theorem pe_errK (R : ErrC X.prog X.w X.K X.mg X.base x C f) (hr : Room 2 X.A) (hg : Gl X x) (he : PE X e te) (hdb : (x == ("__debug__" : Str)) = false := by decide) : PE X (.Call (.Name x p) [] [⟨some f, e, kpos⟩] pos) (tErr C f te) := by
  refine ⟨fun pins s σ H Q I h => ?_⟩
  obtain ⟨fI, fd, iC, tI, F1, _, hb⟩ := R.init
  obtain ⟨nm, q, N, bs, bm, sn, sub, ab, col, dd, k0, k1, k2, k3, k5, hC, hbm⟩ := R.T.cls
  refine wpAny_Call_Name_kw (ld_glob I hg R.gC ?_ hdb)
  have hk : PK X [⟨some f, e, kpos⟩] (tCons te tNil) := pk_cons he pk_nil
  refine PySem.W.callWith_KW0 (h₀ := X.base) I.ok.mod.kin R.T.kC (by rfl) (thn (hk.run pos pins s σ H (only1 fun v H1 => ∀ a H2, H1 a = none → Ex H1 H2 → ErrAt H2 a C f v → Q (.ref a) H2) I h) fun us s1 ⟨vs, H1, I1, r1, q0⟩ => ⟨I1.kIn, ?_⟩)
  obtain ⟨v, ev, q1⟩ := only1_is q0
  subst ev
  obtain ⟨u, eu, r9⟩ := Vals.one r1
  subst eu
  show wpAny _ _ (call (.ref C) [] [(f, u)]) _ _ _
  obtain ⟨hp, g, dr, tk, os⟩ := s1
  have hsz : hp.objs.size ≤ hp.objs.size + 1 := Nat.le_succ _
  have hn : H1 (hp.objs.size + 1) = none := I1.hok.fresh hsz
  have kk : ∀ b o, hp.get? b = some o → (UX.mkd hp C).get? b = some o := fun b o z => Heap.get?_push_of_some _ (Heap.get?_push_of_some _ z)
  have hget : (UX.mkd hp C).get? (hp.objs.size + 1) = some (PySem.HandSPX.excO C hp.objs.size) := by heap_get
  have I2 : Inv X pins σ (upd H1 (hp.objs.size + 1) (exo (hp.objs.size + 1) C none)) ⟨UX.mkd hp C, g, dr, tk, os⟩ :=
    I1.laid (t' := tk) (a := hp.objs.size + 1) (o := exo (hp.objs.size + 1) C none) (h' := UX.mkd hp C) kk hsz (exo_ok hget)
  have r2 : Vals [V.ref (hp.objs.size + 1), v] [Value.ref (hp.objs.size + 1), u] := .cons rfl (.cons r9 .nil)
  have bt := hb ⟨UX.mkd hp C, g, dr, tk, os⟩ (Value.ref (hp.objs.size + 1)) u
  refine wpAny_call (UX.kw_call PySem.F.excBase_ValueError (fun Y => PySem.HandSPX.refsVE_contains Y bm hbm) (I1.kIn _ _ hC) (PySem.W.looks_findIn I1.kIn iC) (fun self => PySem.W.bind_fn I1.kIn self tI)
    (codeAny_mono (F1.run _ X.stack _ _ ⟨[Value.ref (hp.objs.size + 1)], [(f, u)]⟩ [Value.ref (hp.objs.size + 1), u] _ (fun y H2 => y = .non ∧ Q (.ref (hp.objs.size + 1)) H2) (fun _ _ _ => False) (hr.make C [] [(f, u)]) (I2.env0.make C [] [(f, u)]) bt r2
      ⟨_, v, rfl, upd_same, fun dx hdx nx => ⟨rfl, ?_⟩⟩) fun r s' hq' => ?_))
  · have hd1 : H1 dx = none := by
      rw [upd_ne nx] at hdx
      exact hdx
    obtain ⟨z1, z2⟩ := err_laid (C := C) (f := f) (v := v) hn hd1 nx
    exact q1 _ _ hn z1 z2
  · cases r with
    | error er => exact False.elim hq'
    | ok fl =>
      cases fl with
      | ret u' =>
        obtain ⟨y, H', I3, ry, ey, q3⟩ := I2.after hq'
        subst ey
        exact ⟨ry, ⟨V.ref (hp.objs.size + 1), H', I3, rfl, q3⟩⟩
      | next => exact False.elim hq'
      | brk => exact False.elim hq'
      | cont => exact False.elim hq'
/-- e.f, e an error that stands -/
def tErrF (K : PySem.W.Frag) (f : Str) (te : TE) : TE := fun σ H Q => te σ H fun x H1 => ∃ (a C : Addr) (v : V), x = .ref a ∧ XfC K C ∧ PySem.W.findIn K (.ref C) f = some none ∧ ErrAt H1 a C f v ∧ Q v H1
theorem pe_errF (he : PE X e te) (hb : attributeBase e f X.env (eval e X.env) = eval e X.env := by rfl) : PE X (.Attribute e f pos) (tErrF X.K f te) := by
  refine ⟨fun pins s σ H Q I h => ?_⟩
  refine attr_of hb (thn (he.run pins s σ H _ I h) fun u s1 hh => ?_)
  obtain ⟨x, H1, I1, rx, a, C, v, ex, R, hno, ⟨d, ea, ed⟩, q⟩ := hh
  subst ex
  obtain rfl : u = Value.ref a := rx
  obtain ⟨t1, ho⟩ := exo_at I1.hok ea
  obtain ⟨mA, hns, rel⟩ := exd_at I1.hok ed
  obtain ⟨od, hd, hl⟩ := lookIn_ns hns
  have l1 : [(f, v)].lookup f = some v := by simp [List.lookup]
  obtain ⟨y, hy, ry⟩ := RelO.some_of (v := v) (o := mA f) (by rw [← l1]; exact rel f)
  have J : PySem.W.InstAt s1.heap a { cls := .ref C, dict := some d, data := .fields #[.ref t1, .none, .none, .none, .bool false, .none] } C (some od) := ⟨ho, rfl, rfl, hd⟩
  exact HandSPX.exc_get I1.kIn J R.ga R.gg R.exC (PySem.W.findObj_own R.hdC hno rfl (by rw [hl, hy])) (handed_of ry) ⟨v, H1, I1.tok _, ry, q⟩
/-- X(): an error of a class without own __init__ -/
theorem pe_err0 {bmB : List Value} {B nid iid : String} (F : ExcBaseFacts B nid iid bmB) (q : PySem.W.excIn X.K C bmB nid = true) (gC : X.mg x = some (.ref C)) (kC : PySem.W.keepIn X.K (.ref C) = true) (hg : Gl X x) (hdb : (x == ("__debug__" : Str)) = false := by decide) :
    PE X (.Call (.Name x p) [] [] pos) (fun _ H Q => ∀ a, H a = none → Q (.ref a) (upd H a (ExO (.ref C) a))) := by
  refine ⟨fun pins s σ H Q I h => ?_⟩
  refine wpAny_Call_Name_kw (ld_glob I hg gC ?_ hdb)
  refine PySem.W.callWith_K0 I.kIn kC ?_
  show wpAny _ _ (call (.ref C) []) _ _ _
  obtain ⟨bm, N, nm, qn, bs, hdct, sn, sub, ab, col, dd, k0, k1, k2, k3, k5, mN, hC, hN, hni, T⟩ := exc_obj I.kIn q
  refine wpAny_call_exc_subT F T hC hN hni (fun h' a hm => ?_) (Nat.zero_le _)
  have hn : H a = none := I.hok.gone hm.new
  obtain ⟨t, ht, _, _⟩ := hm.there
  exact ⟨.ref a, upd H a (ExO (.ref C) a), I.laidN hm.keeps hm.new hn (exO_ok ht ⟨rfl, rfl⟩ rfl rfl rfl (show 4 < 6 by decide)), rfl, h a hn⟩
/-- what the class D says, so that isinstance asks its instances rightly -/
structure IsiC (K : PySem.W.Frag) (D : Addr) : Prop where
  cl : (PySem.W.clsIn K D).isSome = true
  hg : PySem.W.findIn K (.ref D) "__getattribute__" = some (some (.builtin "BaseException.__getattribute__"))
  hk : PySem.W.findIn K (.ref D) "__getattr__" = some none
  hs : PySem.W.subIn K (.ref D) (.type "BaseException") = some true
  ha : PySem.W.findIn K (.ref D) "__class__" = some (some (.builtin "object.__class__"))
  hn : PySem.W.specialIn K (.builtin "object.__class__") "__get__" = some (some (.builtin "getset_descriptor.__get__"))
  ht : PySem.W.takesIn K (.builtin "object.__class__") = some true
  hm : PySem.W.mroIn K D (.type "object") = some true
/-- isinstance(e, c), e an error that stands -/
def rIsErr (K : PySem.W.Frag) : List V → Hp → VK → Prop := fun xs H Q => ∃ (a D : Addr) (c : V) (cv : Value) (b : Bool), xs = [.ref a, c] ∧ ErrOf H a D ∧ IsiC K D ∧ ClsV c cv ∧ PySem.W.kitOne K (.ref D) cv = some b ∧ Q (.bl b) H
theorem call_isErr : CallR X (.builtin "isinstance") (rIsErr X.K) := by
  intro pins s σ H xs us Q I r h
  obtain ⟨a, D, c, cv, b, rfl, he, Z, hc, e, q⟩ := h
  obtain ⟨u1, u2, rfl, r1, r2⟩ := vals2 r
  have e2 := hc.eq r2
  subst e2
  obtain rfl : u1 = Value.ref a := r1
  have J : ∃ (ox : Obj) (od : Option Obj), PySem.W.InstAt s.heap a ox D od := by
    rcases he with ⟨d, fs, ea, ed⟩ | ea
    · obtain ⟨t1, ho⟩ := exo_at I.hok ea
      obtain ⟨mA, hns, rel⟩ := exd_at I.hok ed
      obtain ⟨od, hd, hl⟩ := lookIn_ns hns
      exact ⟨_, some od, ho, rfl, rfl, hd⟩
    · obtain ⟨⟨oe, vs, h1, h2, h3, _⟩, _, _⟩ := (show ObjOk X.prog X.w H s.heap a (.ext _) from I.hok a _ ea)
      refine ⟨oe, none, h1, h2.1, ?_, ?_⟩
      · unfold PySem.W.notCls
        rw [h3]
      · rw [h2.2]
        trivial
  obtain ⟨ox, od, J⟩ := J
  exact PySem.W.kia_one (PySem.W.kitx_exc Z.cl Z.hg Z.hk Z.hs Z.ha Z.hn Z.ht Z.hm) I.kIn J e (fun z => nomatch z) fun tk => ⟨.bl b, H, I.tok tk, rfl, q⟩
end
end U

set_option Elab.async false
set_option linter.all false
set_option maxRecDepth 100000
set_option maxHeartbeats 4000000
namespace U
open PySem L2
open Evl (Ex)
def top (i : Nat) : Stmt := PySem.Challenge.pw_toldenough_k01_errors_made.main.body.getD i (.Pass ⟨0, 0, 0, 0⟩)
abbrev s_source : Stmt := top 24
abbrev sc_source_N : List Str := ["_law_script", "_law_at", "_law_cell"]
theorem sc_source : FnScope sc_source_N ["_law_script", "_law_at"] (defScope s_source) := ⟨rfl, rfl, rfl, by decide +kernel, rfl, by decide +kernel, by decide +kernel⟩
abbrev s_draw : Stmt := top 25
abbrev sc_draw_N : List Str := ["_law_draws", "_law_many", "_law_digit", "_law_seed"]
theorem sc_draw : FnScope sc_draw_N ["_law_draws", "_law_many"] (defScope s_draw) := ⟨rfl, rfl, rfl, by decide +kernel, rfl, by decide +kernel, by decide +kernel⟩
abbrev s_pick : Stmt := top 26
abbrev sc_pick_N : List Str := ["_law_draws", "_law_things"]
theorem sc_pick : FnScope sc_pick_N ["_law_draws", "_law_things"] (defScope s_pick) := ⟨rfl, rfl, rfl, by decide +kernel, rfl, by decide +kernel, by decide +kernel⟩
abbrev s_same : Stmt := top 27
abbrev sc_same_N : List Str := ["_law_found", "_law_due", "_law_left", "_law_right"]
theorem sc_same : FnScope sc_same_N ["_law_found", "_law_due"] (defScope s_same) := ⟨rfl, rfl, rfl, by decide +kernel, rfl, by decide +kernel, by decide +kernel⟩
structure TxB (mg : Str → Option Value) : Prop where
  m_len : mg "len" = none
  m_int : mg "int" = none
  m_isinstance : mg "isinstance" = none
  m_list : mg "list" = none
  m_tuple : mg "tuple" = none
  m_bool : mg "bool" = none
  m_all : mg "all" = none
  m_zip : mg "zip" = none
section
variable {P : Program} {w : World} {K : PySem.W.Frag} {mg : Str → Option Value} {base : Heap}
theorem ok_source {f : Addr} {fd : FuncData} (F : Fun K "_law_source" "_law_source" s_source f fd) (T : TxB mg) : FnOk P w K mg base CX0 1 f fd ["_law_script", "_law_at"] (spSource K) := by
  refine F.ok sc_source (fun vs H Q E h => ?_) (fun cdv A outer s H vs Q E hr h => ?_)
  · obtain ⟨_, _, _, rfl, _⟩ := h
    rfl
  · obtain ⟨sa, ns, i, rfl, hS, hl, hi, k⟩ := h
    refine ⟨_, (pss_cons (ps_set (i := 2) sc_source.nd rfl (by first | exact Or.inl rfl | exact Or.inr rfl) (pe_ifExp (pt_cmpR op_lt (pv 1) (pe_callB call_len_seq (by rfl) T.m_len (by decide +kernel) (pa_cons (pv 0) pa_nil)) (nomark _)) (pe_ix ix_list (pv 0) (pv 1) (fun _ _ => rfl)) (pe_op op_add (pe_op op_mul pe_int (pv 1)) pe_int)))
    (pss_one (ps_ret (pe_lst (pa_cons (pe_ifExp (pt_cmpR op_ge (pv 2) (pe_op op_pow pe_int pe_int) (nomark _)) (pv 2) pe_int) (pa_cons (pe_op op_add (pe_op op_mod (pe_callTy call_int1 (by rfl) T.m_int (by decide +kernel) (pa_cons (pv 2) pa_nil)) pe_int) (pe_op op_mul pe_int (pv 1))) (pa_cons pe_int pa_nil))))))), ?_⟩
    have hlen : (ns.map V.int).length = ns.length := List.length_map ..
    have fin : ∀ (c : Int), ∀ l : Addr, H l = none → Q (.ref l) (upd H l (.lst [.int (if c ≥ 10 ^ 18 then c else 0), .int (c % 2147483647 + 131 * (i : Int)), .int 0])) := fun c l hn => by
      refine k l _ hn ⟨_, _, _, upd_same, ?_, ?_, ?_, by decide, by decide⟩
      · by_cases hc : c ≥ 10 ^ 18
        · rw [if_pos hc]
          omega
        · rw [if_neg hc]
          decide
      · omega
      · omega
    refine ⟨_, rfl, _, rfl, sa, _, rfl, .inl hS, _, _, rfl, rfl, _, rfl, ?_⟩
    refine ite2 (fun hc => ?_) (fun hc => ?_)
    · have hc' : i < ns.length := by
        have q := of_decide_eq_true hc
        rw [hlen] at q
        omega
      refine ⟨_, rfl, _, rfl, sa, _, _, .int ns[i], rfl, rfl, hS, atI_nat (by rw [List.getElem?_map, List.getElem?_eq_getElem hc']; rfl), ?_⟩
      have g := fin (ns[i])
      generalize ns[i] = c at g ⊢
      refine ⟨_, rfl, _, _, rfl, rfl, ⟨by decide, by decide, by decide⟩, _, _, rfl, rfl, _, rfl, ?_⟩
      refine ite2 (fun hc => ?_) (fun hc => ?_)
      · have hc' : c ≥ 10 ^ 18 := of_decide_eq_true hc
        rw [if_pos hc'] at g
        refine ⟨_, rfl, _, rfl, .inl ⟨_, rfl, _, _, rfl, rfl, (by show (0 : Int) < _; decide), _, rfl, _, _, rfl, rfl, .inl ⟨by decide, by decide⟩, _, _, rfl, rfl, by show 3 ≤ sizeLine; decide, fun l hn => ?_⟩⟩
        exact g l hn
      · have hc' : ¬ c ≥ 10 ^ 18 := fun q => hc (decide_eq_true q)
        rw [if_neg hc'] at g
        refine ⟨_, rfl, .inl ⟨_, rfl, _, _, rfl, rfl, (by show (0 : Int) < _; decide), _, rfl, _, _, rfl, rfl, .inl ⟨by decide, by decide⟩, _, _, rfl, rfl, by show 3 ≤ sizeLine; decide, fun l hn => ?_⟩⟩
        exact g l hn
    · have g := fin (11 * (i : Int) + 3)
      refine ⟨_, rfl, _, _, rfl, rfl, .inl ⟨by decide, by decide⟩, _, _, rfl, rfl, ?_⟩
      refine ⟨_, rfl, _, _, rfl, rfl, ⟨by decide, by decide, by decide⟩, _, _, rfl, rfl, _, rfl, ?_⟩
      refine ite2 (fun hc => ?_) (fun hc => ?_)
      · have hc' : 11 * (i : Int) + 3 ≥ 10 ^ 18 := of_decide_eq_true hc
        rw [if_pos hc'] at g
        refine ⟨_, rfl, _, rfl, .inl ⟨_, rfl, _, _, rfl, rfl, (by show (0 : Int) < _; decide), _, rfl, _, _, rfl, rfl, .inl ⟨by decide, by decide⟩, _, _, rfl, rfl, by show 3 ≤ sizeLine; decide, fun l hn => ?_⟩⟩
        exact g l hn
      · have hc' : ¬ 11 * (i : Int) + 3 ≥ 10 ^ 18 := fun q => hc (decide_eq_true q)
        rw [if_neg hc'] at g
        refine ⟨_, rfl, .inl ⟨_, rfl, _, _, rfl, rfl, (by show (0 : Int) < _; decide), _, rfl, _, _, rfl, rfl, .inl ⟨by decide, by decide⟩, _, _, rfl, rfl, by show 3 ≤ sizeLine; decide, fun l hn => ?_⟩⟩
        exact g l hn
theorem ok_draw {f : Addr} {fd : FuncData} (F : Fun K "_law_draw" "_law_draw" s_draw f fd) (T : TxB mg) : FnOk P w K mg base CX0 1 f fd ["_law_draws", "_law_many"] spDraw := by
  refine F.ok sc_draw (fun vs H Q E h => ?_) (fun cdv A outer s H vs Q E hr h => ?_)
  · obtain ⟨_, _, _, rfl, _⟩ := h
    rfl
  · obtain ⟨l, many, n, rfl, ⟨x, y, z, hl, x0, y0, y1, z0, z1⟩, hn, m0, m1, k⟩ := h
    refine ⟨_, (pss_cons (ps_if (pt_cmpR op_gt (pe_ix ix_list (pv 0) pe_int (fun _ _ => rfl)) pe_int (nomark _)) (pss_cons (ps_set (i := 2) sc_draw.nd rfl (by first | exact Or.inl rfl | exact Or.inr rfl) (pe_op op_mod (pe_callTy call_int1 (by rfl) T.m_int (by decide +kernel) (pa_cons (pe_ix ix_list (pv 0) pe_int (fun _ _ => rfl)) pa_nil)) (pv 1)))
      (pss_cons (ps_asg (pe_op op_fdivN (pe_ix ix_list (pv 0) pe_int (fun _ _ => rfl)) (pv 1)) (pg_sub (pv 0) pe_int set_list))
      (pss_one (ps_ret (pv 2))))) pss_nil)
    (pss_cons (ps_asg (pe_op op_add (pe_ix ix_list (pv 0) pe_int (fun _ _ => rfl)) pe_int) (pg_sub (pv 0) pe_int set_list))
    (pss_cons (ps_set (i := 3) sc_draw.nd rfl (by first | exact Or.inl rfl | exact Or.inr rfl) (pe_op op_mod (pe_op op_pow (pe_callTy call_int1 (by rfl) T.m_int (by decide +kernel) (pa_cons (pe_op op_add (pe_op op_add (pe_ix ix_list (pv 0) pe_int (fun _ _ => rfl)) (pe_op op_mul pe_int (pe_ix ix_list (pv 0) pe_int (fun _ _ => rfl)))) pe_int) pa_nil)) pe_int) pe_int))
    (pss_one (ps_ret (pe_op op_mod (pe_op op_mod (pe_op op_pow (pe_callTy call_int1 (by rfl) T.m_int (by decide +kernel) (pa_cons (pe_op op_add (pe_op op_mul (pv 3) pe_int) (pe_op op_mul pe_int (pe_ix ix_list (pv 0) pe_int (fun _ _ => rfl)))) pa_nil)) pe_int) pe_int) (pv 1))))))), ?_⟩
    have i0 : atI [V.int x, V.int y, V.int z] 0 = some (.int x) := rfl
    have i1 : atI [V.int x, V.int y, V.int z] 1 = some (.int y) := rfl
    have i2 : atI [V.int x, V.int y, V.int z] 2 = some (.int z) := rfl
    refine ⟨_, rfl, l, _, _, _, rfl, rfl, SqL.of hl, i0, _, _, rfl, rfl, _, rfl, ?_⟩
    refine ite2 (fun hc => ?_) (fun hc => ?_)
    · refine ⟨_, rfl, l, _, _, _, rfl, rfl, SqL.of hl, i0, .inl ⟨_, rfl, _, rfl, _, _, rfl, rfl, m0, ?_⟩⟩
      refine ⟨_, rfl, l, _, _, _, rfl, rfl, SqL.of hl, i0, _, rfl, _, _, rfl, rfl, ⟨by omega, by omega⟩, _, rfl, l, _, _, 0, rfl, rfl, hl, rfl, ?_⟩
      refine ⟨_, rfl, ?_⟩
      exact k (x % many) _ (Int.emod_nonneg _ (by omega)) (Int.emod_lt_of_pos _ m0) ⟨_, _, _, upd_same, Int.fdiv_nonneg x0 (by omega), y0, y1, z0, by omega⟩
    · have hl2 : (upd H l (.lst [V.int x, V.int y, V.int (z + 1)])) l = some (.lst [V.int x, V.int y, V.int (z + 1)]) := upd_same
      have j1 : atI [V.int x, V.int y, V.int (z + 1)] 1 = some (.int y) := rfl
      have j2 : atI [V.int x, V.int y, V.int (z + 1)] 2 = some (.int (z + 1)) := rfl
      refine ⟨_, rfl, l, _, _, _, rfl, rfl, SqL.of hl, i2, _, _, rfl, rfl, _, rfl, l, _, _, 2, rfl, rfl, hl, rfl, ?_⟩
      refine ⟨_, rfl, l, _, _, _, rfl, rfl, SqL.of hl2, j1, _, rfl, l, _, _, _, rfl, rfl, SqL.of hl2, j2, _, _, rfl, rfl, .inl ⟨by decide, by decide⟩, _, _, rfl, rfl, _, _, rfl, rfl, .inl ⟨_, rfl, _, _, rfl, rfl, ⟨by decide, by decide, ?_⟩, _, _, rfl, rfl, (by show (0 : Int) < _; decide), ?_⟩⟩
      · show (y + 7919 * (z + 1) + 104729).natAbs < 18446744073709551616
        omega
      have e1 : 0 ≤ (y + 7919 * (z + 1) + 104729) ^ (5 : Int).toNat % 2147483629 := Int.emod_nonneg _ (by decide)
      have e2 : (y + 7919 * (z + 1) + 104729) ^ (5 : Int).toNat % 2147483629 < 2147483629 := Int.emod_lt_of_pos _ (by decide)
      have hb : ∀ c : Int, 0 ≤ c → c < 2147483629 → (c * 48271 + 40503 * (z + 1)).natAbs < 18446744073709551616 := fun c _ _ => by omega
      refine ⟨_, rfl, _, _, rfl, rfl, .inr ⟨by decide, by decide⟩, _, rfl, l, _, _, _, rfl, rfl, SqL.of hl2, j2, _, _, rfl, rfl, .inl ⟨by decide, by decide⟩, _, _, rfl, rfl, .inl ⟨_, rfl, _, _, rfl, rfl, ⟨by decide, by decide, ?_⟩, _, _, rfl, rfl, (by show (0 : Int) < _; decide), _, rfl, _, _, rfl, rfl, m0, ?_⟩⟩
      · exact hb _ e1 e2
      exact k _ _ (Int.emod_nonneg _ (by omega)) (Int.emod_lt_of_pos _ m0) ⟨_, _, _, upd_same, x0, y0, y1, by omega, by omega⟩
theorem ok_pick {f : Addr} {fd : FuncData} (F : Fun K "_law_pick" "_law_pick" s_pick f fd) (T : TxB mg) (D_draw : DefAt P w K mg base "_law_draw" 1 ["_law_draws", "_law_many"] spDraw) : FnOk P w K mg base CX0 2 f fd ["_law_draws", "_law_things"] (spPick K) := by
  refine F.ok sc_pick (fun vs H Q E h => ?_) (fun cdv A outer s H vs Q E hr h => ?_)
  · obtain ⟨_, _, _, _, _, rfl, _⟩ := h
    rfl
  · obtain ⟨l, t, ds, n, L, rfl, hd, hn, hL, hp, h0, h1, k⟩ := h
    refine ⟨_, (pss_one (ps_ret (pe_ix ix_list (pv 1) (pe_callD D_draw (by first | exact hr | exact hr.mono (by decide) | exact hr.mono (by omega)) (by rfl) (pa_cons (pv 0) (pa_cons (pe_callB call_len_seq (by rfl) T.m_len (by decide +kernel) (pa_cons (pv 1) pa_nil)) pa_nil))) (fun _ _ => rfl)))), ?_⟩
    cases hp with
    | @lst _ xs _ hs ha =>
      have hlen := dpa_len ha
      refine ⟨_, rfl, _, rfl, _, rfl, t, xs, rfl, .inl (Evl.ex_l w_sub hs), ?_⟩
      refine ⟨l, _, n, rfl, hd, hn, by omega, by omega, fun r o r0 r1 hd' => ?_⟩
      have hr' : r.toNat < xs.length := by omega
      obtain ⟨d, hd1, hd2⟩ := dpa_get ha (List.getElem?_eq_getElem hr')
      have er : ((r.toNat : Nat) : Int) = r := by omega
      refine ⟨t, xs, r, xs[r.toNat], rfl, rfl, Evl.ex_l (w_sub (L := L)) (by rw [w_upd_in hL]; exact hs), ?_, ?_⟩
      · have q := atI_nat (List.getElem?_eq_getElem hr')
        rw [er] at q
        exact q
      · exact k _ d o (List.mem_of_getElem? hd1) (by rw [w_upd_in hL]; exact hd2) hd'
def spPrev (K : PySem.W.Frag) : Nat → Sp
  | 0 => fun _ _ _ _ => False
  | n + 1 => spSame K n
theorem same_body {f : Addr} {fd : FuncData} (F : Fun K "_law_same" "_law_same" s_same f fd) (T : TxB mg) (n : Nat) (D_same : DefAt P w K mg base "_law_same" n ["_law_found", "_law_due"] (spPrev K n)) : FnOk P w K mg base CX0 (n + 1) f fd ["_law_found", "_law_due"] (spSame K n) := by
  refine F.ok sc_same (fun vs H Q E h => ?_) (fun cdv A outer s H vs Q E hr h => ?_)
  · obtain ⟨_, _, _, rfl, _⟩ := h
    rfl
  · obtain ⟨x, y, d, rfl, hx, hy, hf, k⟩ := h
    refine ⟨_, (pss_cons (ps_if (pt_val (pe_callB call_isiT (by rfl) T.m_isinstance (by decide +kernel) (pa_cons (pv 1) (pa_cons (pe_tup (pa_cons (pe_bltn (v := .ty "list") (by rfl) T.m_list (by decide +kernel) rfl) (pa_cons (pe_bltn (v := .ty "tuple") (by rfl) T.m_tuple (by decide +kernel) rfl) pa_nil))) pa_nil)))) (pss_cons (ps_if (PW.pt (pw_or (pt_cmpR op_ne (pe_callB call_isi (by rfl) T.m_isinstance (by decide +kernel) (pa_cons (pv 0) (pa_cons (pe_bltn (v := .ty "list") (by rfl) T.m_list (by decide +kernel) rfl) pa_nil))) (pe_callB call_isi (by rfl) T.m_isinstance (by decide +kernel) (pa_cons (pv 1) (pa_cons (pe_bltn (v := .ty "list") (by rfl) T.m_list (by decide +kernel) rfl) pa_nil))) (nomark _)) (pw_or1 (pt_cmpR op_ne (pe_callB call_isi (by rfl) T.m_isinstance (by decide +kernel) (pa_cons (pv 0) (pa_cons (pe_bltn (v := .ty "tuple") (by rfl) T.m_tuple (by decide +kernel) rfl) pa_nil))) (pe_callB call_isi (by rfl) T.m_isinstance (by decide +kernel) (pa_cons (pv 1) (pa_cons (pe_bltn (v := .ty "tuple") (by rfl) T.m_tuple (by decide +kernel) rfl) pa_nil))) (nomark _))))) (pss_one (ps_ret pe_bl)) pss_nil)
      (pss_one (ps_ret (pe_and (pe_cmpR op_eq (pe_callB call_len_seq (by rfl) T.m_len (by decide +kernel) (pa_cons (pv 0) pa_nil)) (pe_callB call_len_seq (by rfl) T.m_len (by decide +kernel) (pa_cons (pv 1) pa_nil)) (nomark _)) (pe_one (pe_callB (cr_all rfl) (by rfl) T.m_all (by decide +kernel) (pa_cons (pe_lc (own := [("_law_left", 2), ("_law_right", 3)]) (g := gTup K 2 (gCons (gName 2) (gCons (gName 3) (gNil)))) (tt := tYes) (by rfl) sc_same.nd (RZ.pi_zipA (by rfl) T.m_zip (pa_cons (pv 0) (pa_cons (pv 1) pa_nil))) (blkOk_by (N := sc_same_N) (sc := defScope s_same) (by decide +kernel)) (fun _ _ _ _ _ => (pg_tup (by rfl) (pgs_cons (pg_name (i := 2) sc_same.nd rfl (by first | exact Or.inl rfl | exact Or.inr rfl)) (pgs_cons (pg_name (i := 3) sc_same.nd rfl (by first | exact Or.inl rfl | exact Or.inr rfl)) pgs_nil)))) (fun _ _ _ _ _ => pts_nil) (fun _ _ _ _ _ => (pe_callD D_same (by first | exact hr | exact hr.mono (by decide) | exact hr.mono (by omega)) (by rfl) (pa_cons (pv 2) (pa_cons (pv 3) pa_nil))))) pa_nil))))))) pss_nil)
    (pss_cons (ps_if (pt_val (pe_callB call_isiT (by rfl) T.m_isinstance (by decide +kernel) (pa_cons (pv 1) (pa_cons (pe_tup (pa_cons (pe_bltn (v := .ty "bool") (by rfl) T.m_bool (by decide +kernel) rfl) (pa_cons (pe_bltn (v := .ty "int") (by rfl) T.m_int (by decide +kernel) rfl) pa_nil))) pa_nil)))) (pss_one (ps_ret (pe_and (pe_callB call_isi (by rfl) T.m_isinstance (by decide +kernel) (pa_cons (pv 0) (pa_cons (pe_bltn (v := .ty "int") (by rfl) T.m_int (by decide +kernel) rfl) pa_nil))) (pe_and (pe_cmpR op_eq (pe_callB call_isi (by rfl) T.m_isinstance (by decide +kernel) (pa_cons (pv 0) (pa_cons (pe_bltn (v := .ty "bool") (by rfl) T.m_bool (by decide +kernel) rfl) pa_nil))) (pe_callB call_isi (by rfl) T.m_isinstance (by decide +kernel) (pa_cons (pv 1) (pa_cons (pe_bltn (v := .ty "bool") (by rfl) T.m_bool (by decide +kernel) rfl) pa_nil))) (nomark _)) (pe_one (pe_cmpR op_eq (pv 0) (pv 1) (nomark _))))))) pss_nil)
    (pss_one (ps_ret (pe_and (pe_not (pe_callB call_isiT (by rfl) T.m_isinstance (by decide +kernel) (pa_cons (pv 0) (pa_cons (pe_tup (pa_cons (pe_bltn (v := .ty "bool") (by rfl) T.m_bool (by decide +kernel) rfl) (pa_cons (pe_bltn (v := .ty "int") (by rfl) T.m_int (by decide +kernel) rfl) (pa_cons (pe_bltn (v := .ty "list") (by rfl) T.m_list (by decide +kernel) rfl) (pa_cons (pe_bltn (v := .ty "tuple") (by rfl) T.m_tuple (by decide +kernel) rfl) pa_nil))))) pa_nil)))) (pe_one (pe_cmpR op_eq (pv 0) (pv 1) (nomark _)))))))), ?_⟩
    have v0 : Evl.Ev (tVar 0) (start sc_same_N [x, y]) H x := Evl.ev_var rfl
    have v1 : Evl.Ev (tVar 1) (start sc_same_N [x, y]) H y := Evl.ev_var rfl
    -- two lists, two tuples
    have seqs : ∀ (a b : Addr) (xs ys : List V) (ds : List PyData) (m : Nat), n = m + 1 → x = .ref a → y = .ref b → (SqL K H a xs ∧ SqL K H b ys) ∨ (SqT K H a xs ∧ SqT K H b ys) → DpAll K H xs ds → DpAll K H ys ds → (∀ d ∈ ds, fits m d) → xs.length ≤ 40000 →
        ∀ H1, Ex H H1 → Evl.Ev (tAndV (tOp rEq (tCB (fun xs H Q => ∃ p ys, xs = [V.ref p] ∧ (SqL K H p ys ∨ SqT K H p ys) ∧ Q (.int ys.length) H) (tCons (tVar 0) tNil)) (tCB (fun xs H Q => ∃ p ys, xs = [V.ref p] ∧ (SqL K H p ys ∨ SqT K H p ys) ∧ Q (.int ys.length) H) (tCons (tVar 1) tNil)))
          (tCB (rAll K) (tCons (tLc (RZ.iZipA K (tCons (tVar 0) (tCons (tVar 1) tNil))) (gTup K 2 (gCons (gName 2) (gCons (gName 3) gNil))) tYes (tCallD (spPrev K n) (tCons (tVar 2) (tCons (tVar 3) tNil))) [2, 3]) tNil))) (start sc_same_N [x, y]) H1 (.bl true) := by
      rintro a b xs ys ds m rfl rfl rfl hs h1 h2 hd hz H1 e1
      have hl : xs.length = ys.length := (dpa_len h1).trans (dpa_len h2).symm
      have hs1 : SqL K H1 a xs ∨ SqT K H1 a xs := hs.imp (fun q => Evl.ex_l e1 q.1) (fun q => Evl.ex_t e1 q.1)
      have hs2 : SqL K H1 b ys ∨ SqT K H1 b ys := hs.imp (fun q => Evl.ex_l e1 q.2) (fun q => Evl.ex_t e1 q.2)
      refine Evl.ev_is (Evl.ev_andV (a := true) (b := true) (Evl.ev_is (Evl.ev_op (ev_lenS (v0.mono e1) hs1) (ev_lenS (v1.mono e1) hs2) (Evl.rv_eq rfl)) ?_) fun _ => ?_) rfl
      · rw [hl]
        exact congrArg V.bl (decide_eq_true rfl)
      · have z := el_zip (K := K) (v := fun _ => V.bl true) (te := tCallD (spPrev K (m + 1)) (tCons (tVar 2) (tCons (tVar 3) tNil))) (i1 := 2) (i2 := 3) (vs := [2, 3]) (σ := start sc_same_N [V.ref a, V.ref b]) (H := H1) (ta := tCons (tVar 0) (tCons (tVar 1) tNil)) (a := a) (b := b) (xs := xs) (ys := ys)
          (Evl.ea_cons (v0.mono e1) (Evl.ea_cons (v1.mono e1) Evl.ea_nil)) (hs.imp (fun q => ⟨Evl.ex_l e1 q.1, Evl.ex_l e1 q.2⟩) (fun q => ⟨Evl.ex_t e1 q.1, Evl.ex_t e1 q.2⟩)) hl hz (fun _ _ => rfl) (fun i u v H2 e2 hu hv => ?_)
        · have em : (List.range xs.length).map (fun _ => V.bl true) = ((List.range xs.length).map fun _ => true).map V.bl := by
            rw [List.map_map]
            rfl
          rw [em] at z
          exact Evl.ev_is (ev_all z) (congrArg V.bl (by simp))
        · obtain ⟨d, hd1, hd2⟩ := dpa_get h1 hu
          obtain ⟨d', hd3, hd4⟩ := dpa_get h2 hv
          rw [hd1] at hd3
          cases hd3
          exact ev_callD (Evl.ea_cons (Evl.ev_var rfl) (Evl.ea_cons (Evl.ev_var rfl) Evl.ea_nil)) fun H3 e3 Q q => ⟨u, v, d, rfl, hd2.up ((e1.trans e2).trans e3), hd4.up ((e1.trans e2).trans e3), hd d (List.mem_of_getElem? hd1), q⟩
    cases d with
    | none =>
      have exy : x = y := by
        cases hx
        cases hy
        rfl
      refine Evl.q_when (b := false) (Evl.et_B (ev_isi2 v1 hy isi_NoneType_list_tuple)) (fun z => by cases z) (fun _ H1 e1 => ?_)
      refine Evl.q_when (b := false) (Evl.et_B (ev_isi2 (v1.mono e1) (hy.up e1) isi_NoneType_bool_int)) (fun z => by cases z) (fun _ H2 e2 => ?_)
      refine Evl.s_ret (v := .bl true) (Evl.ev_is (Evl.ev_andV (Evl.ev_notV (ev_isi4 (v0.mono (e1.trans e2)) (hx.up (e1.trans e2)) (b := false) isi_NoneType_bool_int_list_tuple)) (fun _ => Evl.ev_is (Evl.ev_op (v0.mono (e1.trans e2)) (v1.mono (e1.trans e2)) (Evl.rv_eq (by cases hx; cases hy; rfl))) (w := .bl true) (by rw [exy]; exact congrArg V.bl (decide_eq_true rfl)))) rfl) (fun H3 e3 => k H3 ((e1.trans e2).trans e3))
    | str z =>
      have exy : x = y := by
        cases hx
        cases hy
        rfl
      refine Evl.q_when (b := false) (Evl.et_B (ev_isi2 v1 hy isi_str_list_tuple)) (fun z => by cases z) (fun _ H1 e1 => ?_)
      refine Evl.q_when (b := false) (Evl.et_B (ev_isi2 (v1.mono e1) (hy.up e1) isi_str_bool_int)) (fun z => by cases z) (fun _ H2 e2 => ?_)
      refine Evl.s_ret (v := .bl true) (Evl.ev_is (Evl.ev_andV (Evl.ev_notV (ev_isi4 (v0.mono (e1.trans e2)) (hx.up (e1.trans e2)) (b := false) isi_str_bool_int_list_tuple)) (fun _ => Evl.ev_is (Evl.ev_op (v0.mono (e1.trans e2)) (v1.mono (e1.trans e2)) (Evl.rv_eq (by cases hx; cases hy; rfl))) (w := .bl true) (by rw [exy]; exact congrArg V.bl (decide_eq_true rfl)))) rfl) (fun H3 e3 => k H3 ((e1.trans e2).trans e3))
    | bool z =>
      have exy : x = y := by
        cases hx
        cases hy
        rfl
      refine Evl.q_when (b := false) (Evl.et_B (ev_isi2 v1 hy isi_bool_list_tuple)) (fun z => by cases z) (fun _ H1 e1 => ?_)
      refine Evl.q_when (b := true) (Evl.et_B (ev_isi2 (v1.mono e1) (hy.up e1) isi_bool_bool_int)) (fun _ H2 e2 => ?_) (fun z => by cases z)
      refine Evl.s_ret (v := .bl true) (Evl.ev_is (Evl.ev_andV (ev_isi (v0.mono (e1.trans e2)) (hx.up (e1.trans e2)) (b := true) isi_bool_int) (fun _ => Evl.ev_andV (a := true) (Evl.ev_is (ev_eqB (ev_isi (v0.mono (e1.trans e2)) (hx.up (e1.trans e2)) (b := true) isi_bool_bool) (ev_isi (v1.mono (e1.trans e2)) (hy.up (e1.trans e2)) (b := true) isi_bool_bool)) (by decide))
        fun _ => Evl.ev_is (Evl.ev_op (v0.mono (e1.trans e2)) (v1.mono (e1.trans e2)) (Evl.rv_eq (by cases hx; cases hy; rfl))) (w := .bl true) (by rw [exy]; exact congrArg V.bl (decide_eq_true rfl)))) rfl) (fun H3 e3 => k H3 ((e1.trans e2).trans e3))
    | int z =>
      have exy : x = y := by
        cases hx
        cases hy
        rfl
      refine Evl.q_when (b := false) (Evl.et_B (ev_isi2 v1 hy isi_int_list_tuple)) (fun z => by cases z) (fun _ H1 e1 => ?_)
      refine Evl.q_when (b := true) (Evl.et_B (ev_isi2 (v1.mono e1) (hy.up e1) isi_int_bool_int)) (fun _ H2 e2 => ?_) (fun z => by cases z)
      refine Evl.s_ret (v := .bl true) (Evl.ev_is (Evl.ev_andV (ev_isi (v0.mono (e1.trans e2)) (hx.up (e1.trans e2)) (b := true) isi_int_int) (fun _ => Evl.ev_andV (a := true) (Evl.ev_is (ev_eqB (ev_isi (v0.mono (e1.trans e2)) (hx.up (e1.trans e2)) (b := false) isi_int_bool) (ev_isi (v1.mono (e1.trans e2)) (hy.up (e1.trans e2)) (b := false) isi_int_bool)) (by decide))
        fun _ => Evl.ev_is (Evl.ev_op (v0.mono (e1.trans e2)) (v1.mono (e1.trans e2)) (Evl.rv_eq (by cases hx; cases hy; rfl))) (w := .bl true) (by rw [exy]; exact congrArg V.bl (decide_eq_true rfl)))) rfl) (fun H3 e3 => k H3 ((e1.trans e2).trans e3))
    | list ds =>
      cases n with
      | zero => exact hf.elim
      | succ m =>
        have hx' := hx
        have hy' := hy
        cases hx with
        | @lst a xs _ hs ha =>
          cases hy with
          | @lst b ys _ hs2 ha2 =>
            refine Evl.q_when (b := true) (Evl.et_B (ev_isi2 v1 hy' isi_list_list_tuple)) (fun _ H1 e1 => ?_) (fun z => by cases z)
            refine Evl.q_when (b := false) (Evl.et_is (Evl.et_or (Evl.et_test (ev_neB (ev_isi (v0.mono e1) (hx'.up e1) (b := true) isi_list_list) (ev_isi (v1.mono e1) (hy'.up e1) (b := true) isi_list_list))) fun _ => Evl.et_test (ev_neB (ev_isi (v0.mono e1) (hx'.up e1) (b := false) isi_list_tuple) (ev_isi (v1.mono e1) (hy'.up e1) (b := false) isi_list_tuple))) (by decide)) (fun z => by cases z) (fun _ H2 e2 => ?_)
            exact Evl.s_ret (v := .bl true) (seqs a b xs ys ds m rfl rfl rfl (.inl ⟨hs, hs2⟩) ha ha2 hf.2 (by rw [dpa_len ha]; exact hf.1) _ (e1.trans e2)) (fun H3 e3 => k H3 ((e1.trans e2).trans e3))
    | tuple ds =>
      cases n with
      | zero => exact hf.elim
      | succ m =>
        have hx' := hx
        have hy' := hy
        cases hx with
        | @tup a xs _ hs ha =>
          cases hy with
          | @tup b ys _ hs2 ha2 =>
            refine Evl.q_when (b := true) (Evl.et_B (ev_isi2 v1 hy' isi_tuple_list_tuple)) (fun _ H1 e1 => ?_) (fun z => by cases z)
            refine Evl.q_when (b := false) (Evl.et_is (Evl.et_or (Evl.et_test (ev_neB (ev_isi (v0.mono e1) (hx'.up e1) (b := false) isi_tuple_list) (ev_isi (v1.mono e1) (hy'.up e1) (b := false) isi_tuple_list))) fun _ => Evl.et_test (ev_neB (ev_isi (v0.mono e1) (hx'.up e1) (b := true) isi_tuple_tuple) (ev_isi (v1.mono e1) (hy'.up e1) (b := true) isi_tuple_tuple))) (by decide)) (fun z => by cases z) (fun _ H2 e2 => ?_)
            exact Evl.s_ret (v := .bl true) (seqs a b xs ys ds m rfl rfl rfl (.inr ⟨hs, hs2⟩) ha ha2 hf.2 (by rw [dpa_len ha]; exact hf.1) _ (e1.trans e2)) (fun H3 e3 => k H3 ((e1.trans e2).trans e3))
    | dict _ => cases hx
end
end U

set_option Elab.async false
set_option linter.all false
set_option maxRecDepth 100000
set_option maxHeartbeats 8000000
namespace U
open PySem L2
open Evl (Ex)
abbrev veL : List Value := [.type "ValueError", .type "Exception", .type "BaseException", .type "object"]
structure Errs (P : Program) (w : World) (K : PySem.W.Frag) (mg : Str → Option Value) (base : Heap) (Tc : Addr) (cl : Nat → Addr) : Prop where
  kit : ∀ i j, i < 21 → j < 21 → PySem.W.kitOne K (.ref (cl i)) (.ref (cl j)) = some (decide (j = i))
  kitT : ∀ j, j < 21 → PySem.W.kitOne K (.ref Tc) (.ref (cl j)) = some false
  kT1 : ∀ i, i < 21 → PySem.W.kitOne K (.ref (cl i)) (.ref Tc) = some true
  kV : ∀ i, i < 21 → PySem.W.kitOne K (.ref (cl i)) (.type "ValueError") = some true
  kVT : PySem.W.kitOne K (.ref Tc) (.type "ValueError") = some true
  isi : ∀ i, i < 21 → IsiC K (cl i)
  isiT : IsiC K Tc
  gT : mg "ToldError" = some (.ref Tc)
  xT : PySem.W.excIn K Tc veL "ValueError.__new__" = true
  kT : PySem.W.keepIn K (.ref Tc) = true
  e0 : ErrC P w K mg base "BadPlaces" (cl 0) "places"
  e1 : ErrC P w K mg base "BadExample" (cl 1) "index"
  e2 : ErrC P w K mg base "BadIndex" (cl 2) "index"
  g3 : mg "UnlikePlaces" = some (.ref (cl 3))
  x3 : PySem.W.excIn K (cl 3) veL "ValueError.__new__" = true
  k3 : PySem.W.keepIn K (.ref (cl 3)) = true
  e4 : ErrC P w K mg base "BadMost" (cl 4) "most"
  e5 : ErrC P w K mg base "BadPoint" (cl 5) "point"
  e6 : ErrC P w K mg base "BadLies" (cl 6) "lies"
  g7 : mg "Unfit" = some (.ref (cl 7))
  x7 : PySem.W.excIn K (cl 7) veL "ValueError.__new__" = true
  k7 : PySem.W.keepIn K (.ref (cl 7)) = true
  e8 : ErrC P w K mg base "BadStep" (cl 8) "step"
  e9 : ErrC P w K mg base "NoLabeling" (cl 9) "labels"
  e10 : ErrC P w K mg base "BadPrices" (cl 10) "prices"
  e11 : ErrC P w K mg base "BadLabel" (cl 11) "label"
  e12 : ErrC P w K mg base "BadName" (cl 12) "name"
  e13 : ErrC P w K mg base "Held" (cl 13) "name"
  e14 : ErrC P w K mg base "NotHeld" (cl 14) "name"
  e15 : ErrC P w K mg base "Watched" (cl 15) "name"
  e16 : ErrC P w K mg base "NotWatched" (cl 16) "name"
  g17 : mg "NoDeed" = some (.ref (cl 17))
  x17 : PySem.W.excIn K (cl 17) veL "ValueError.__new__" = true
  k17 : PySem.W.keepIn K (.ref (cl 17)) = true
  e18 : ErrC P w K mg base "BadDeed" (cl 18) "index"
  e19 : ErrC P w K mg base "BadText" (cl 19) "index"
  e20 : ErrC P w K mg base "BadLine" (cl 20) "line"

inductive ErrAll (H : Hp) : List V → List Addr → Prop where
  | nil : ErrAll H [] []
  | cons {a C : Addr} {vs : List V} {Cs : List Addr} : ErrOf H a C → ErrAll H vs Cs → ErrAll H (.ref a :: vs) (C :: Cs)
theorem ErrAll.up {H H' : Hp} (e : Ex H H') : ∀ {vs : List V} {Cs : List Addr}, ErrAll H vs Cs → ErrAll H' vs Cs
  | _, _, .nil => .nil
  | _, _, .cons h t => .cons (h.up e) (ErrAll.up e t)
theorem ErrAll.app {H : Hp} : ∀ {vs ws : List V} {Cs Ds : List Addr}, ErrAll H vs Cs → ErrAll H ws Ds → ErrAll H (vs ++ ws) (Cs ++ Ds)
  | _, _, _, _, .nil, h => h
  | _, _, _, _, .cons h t, h2 => .cons h (ErrAll.app t h2)
theorem ErrAll.len {H : Hp} : ∀ {vs : List V} {Cs : List Addr}, ErrAll H vs Cs → vs.length = Cs.length
  | _, _, .nil => rfl
  | _, _, .cons _ t => congrArg Nat.succ t.len
theorem ErrAll.get {H : Hp} : ∀ {vs : List V} {Cs : List Addr} {i : Nat} {v : V}, ErrAll H vs Cs → vs[i]? = some v → ∃ a C, v = .ref a ∧ Cs[i]? = some C ∧ ErrOf H a C
  | _, _, _, _, .nil, e => by simp at e
  | _, _, 0, _, .cons r _, e => by simp at e; subst e; exact ⟨_, _, rfl, rfl, r⟩
  | _, _, i + 1, _, .cons _ t, e => by
    obtain ⟨a, C, h1, h2, h3⟩ := ErrAll.get (i := i) t (by simpa using e)
    exact ⟨a, C, h1, by simpa using h2, h3⟩
section
variable {K : PySem.W.Frag} {σ : L2.St} {H : Hp} {te : TE} {ta : TA} {v : V} {a C : Addr} {f : Str}
theorem ev_isErr {D : V} {cv : Value} {b : Bool} (h : Evl.Ev te σ H (.ref a)) (he : ErrOf H a C) (Z : IsiC K C) (hk : ClsV D cv ∧ PySem.W.kitOne K (.ref C) cv = some b) : Evl.Ev (tCB (rIsErr K) (tCons te (tCons (tC D) tNil))) σ H (.bl b) := fun H1 e1 Q q =>
  h H1 e1 _ fun H2 e2 => ⟨a, C, D, cv, b, rfl, he.up (e1.trans e2), Z, hk.1, hk.2, q H2 e2⟩
theorem ev_errF (h : Evl.Ev te σ H v) (hx : XfC K C) (hn : PySem.W.findIn K (.ref C) f = some none) : Evl.Ev (tErrF K f (tErr C f te)) σ H v := fun H1 e1 Q q =>
  h H1 e1 _ fun H2 e2 => fun a H3 ha e3 hE => ⟨a, C, v, rfl, hx, hn, hE, q H3 (e2.trans e3)⟩
def EvEs (ta : TA) (σ : L2.St) (H : Hp) (Cs : List Addr) : Prop := ∀ H1, Ex H H1 → ∀ Q : List V → Hp → Prop, (∀ vs H2, Ex H1 H2 → ErrAll H2 vs Cs → Q vs H2) → ta σ H1 Q
theorem eves_nil : EvEs tNil σ H [] := fun H1 _ Q q => q [] H1 (Ex.refl H1) .nil
theorem eves_err {Cs : List Addr} (h : Evl.Ev te σ H v) (hr : EvEs ta σ H Cs) : EvEs (tCons (tErr C f te) ta) σ H (C :: Cs) := fun H1 e Q q =>
  h H1 e _ fun H2 e2 => fun a H3 ha e3 hE => hr H3 ((e.trans e2).trans e3) _ fun vs H4 e4 hv => q (.ref a :: vs) H4 ((e2.trans e3).trans e4) (.cons (hE.of.up e4) hv)
theorem eves_err0 {Cs : List Addr} (hr : EvEs ta σ H Cs) : EvEs (tCons (fun _ H Q => ∀ a, H a = none → Q (.ref a) (upd H a (ExO (.ref C) a))) ta) σ H (C :: Cs) := fun H1 e Q q => fun a ha =>
  hr _ (e.trans (Ex.new ha)) _ fun vs H2 e2 hv => q (.ref a :: vs) H2 ((Ex.new ha).trans e2) (.cons (ErrOf.up (.inr upd_same) e2) hv)
end
def spKinds (K : PySem.W.Frag) (cl : Nat → Addr) : Sp := fun vs H Q _ => ∃ (a C : Addr) (bs : Nat → Bool), vs = [.ref a] ∧ ErrOf H a C ∧ IsiC K C ∧ (∀ i, i < 21 → PySem.W.kitOne K (.ref C) (.ref (cl i)) = some (bs i)) ∧
  ∀ v H', Ex H H' → Dp K H' v (.list ((List.range 21).map fun i => .bool (bs i))) → Q v H'
/-- the places among all errors of those that hold something -/
def placesE : List Nat := [0, 1, 2, 4, 5, 6, 8, 9, 10, 11, 12, 13, 14, 15, 16, 18, 19, 20]
def spAll (K : PySem.W.Frag) : Sp := fun vs H Q _ => ∃ (x y : V) (a b : PyData), vs = [x, y] ∧ Dp K H x a ∧ Dp K H y b ∧ ∀ v H', Ex H H' → Dp K H' v (.list (placesE.map fun (i : Nat) => .tuple [.int (i : Int), a, b])) → Q v H'
def spMade (cl : Nat → Addr) : Sp := fun vs H Q _ => ∃ (x : V), vs = [x] ∧ ∀ l xs H', Ex H H' → H' l = some (.lst xs) → ErrAll H' xs ((List.range 21).map cl) → Q (.ref l) H'
abbrev s_kinds : Stmt := top 28
abbrev sc_kinds_N : List Str := ["_law_e", "_law_found"]
theorem sc_kinds : FnScope sc_kinds_N ["_law_e"] (defScope s_kinds) := ⟨rfl, rfl, rfl, by decide +kernel, rfl, by decide +kernel, by decide +kernel⟩
abbrev s_all : Stmt := top 29
abbrev sc_all_N : List Str := ["_law_a", "_law_b", "_law_found"]
theorem sc_all : FnScope sc_all_N ["_law_a", "_law_b"] (defScope s_all) := ⟨rfl, rfl, rfl, by decide +kernel, rfl, by decide +kernel, by decide +kernel⟩
abbrev s_made : Stmt := top 30
abbrev sc_made_N : List Str := ["_law_a", "_law_found"]
theorem sc_made : FnScope sc_made_N ["_law_a"] (defScope s_made) := ⟨rfl, rfl, rfl, by decide +kernel, rfl, by decide +kernel, by decide +kernel⟩
section
variable {P : Program} {w : World} {K : PySem.W.Frag} {mg : Str → Option Value} {base : Heap} {Tc : Addr} {cl : Nat → Addr}
theorem ok_kinds {f : Addr} {fd : FuncData} (F : Fun K "_law_kinds" "_law_kinds" s_kinds f fd) (T : TxB mg) (R : Errs P w K mg base Tc cl) : FnOk P w K mg base CX0 1 f fd ["_law_e"] (spKinds K cl) := by
  refine F.ok sc_kinds (fun vs H Q E h => ?_) (fun cdv A outer s H vs Q E hr h => ?_)
  · obtain ⟨_, _, _, rfl, _⟩ := h
    rfl
  · obtain ⟨a, C, bs, rfl, he, Z, hk, k⟩ := h
    refine ⟨_, (pss_cons (ps_set (i := 1) sc_kinds.nd rfl (by first | exact Or.inl rfl | exact Or.inr rfl) (pe_lst (pa_cons (pe_callB call_isErr (by rfl) T.m_isinstance (by decide +kernel) (pa_cons (pv 0) (pa_cons (pe_glob (v := .ref (cl 0)) (by rfl) R.e0.gC rfl) pa_nil))) (pa_cons (pe_callB call_isErr (by rfl) T.m_isinstance (by decide +kernel) (pa_cons (pv 0) (pa_cons (pe_glob (v := .ref (cl 1)) (by rfl) R.e1.gC rfl) pa_nil))) (pa_cons (pe_callB call_isErr (by rfl) T.m_isinstance (by decide +kernel) (pa_cons (pv 0) (pa_cons (pe_glob (v := .ref (cl 2)) (by rfl) R.e2.gC rfl) pa_nil))) (pa_cons (pe_callB call_isErr (by rfl) T.m_isinstance (by decide +kernel) (pa_cons (pv 0) (pa_cons (pe_glob (v := .ref (cl 3)) (by rfl) R.g3 rfl) pa_nil))) pa_nil))))))
    (pss_cons (ps_expr (pe_bm PySem.F.plainAttrs_list PySem.F.slot_list_extend PySem.F.type_list_extend mt_extend (pv 1) (pa_cons (pe_lst (pa_cons (pe_callB call_isErr (by rfl) T.m_isinstance (by decide +kernel) (pa_cons (pv 0) (pa_cons (pe_glob (v := .ref (cl 4)) (by rfl) R.e4.gC rfl) pa_nil))) (pa_cons (pe_callB call_isErr (by rfl) T.m_isinstance (by decide +kernel) (pa_cons (pv 0) (pa_cons (pe_glob (v := .ref (cl 5)) (by rfl) R.e5.gC rfl) pa_nil))) (pa_cons (pe_callB call_isErr (by rfl) T.m_isinstance (by decide +kernel) (pa_cons (pv 0) (pa_cons (pe_glob (v := .ref (cl 6)) (by rfl) R.e6.gC rfl) pa_nil))) (pa_cons (pe_callB call_isErr (by rfl) T.m_isinstance (by decide +kernel) (pa_cons (pv 0) (pa_cons (pe_glob (v := .ref (cl 7)) (by rfl) R.g7 rfl) pa_nil))) pa_nil))))) pa_nil)))
    (pss_cons (ps_expr (pe_bm PySem.F.plainAttrs_list PySem.F.slot_list_extend PySem.F.type_list_extend mt_extend (pv 1) (pa_cons (pe_lst (pa_cons (pe_callB call_isErr (by rfl) T.m_isinstance (by decide +kernel) (pa_cons (pv 0) (pa_cons (pe_glob (v := .ref (cl 8)) (by rfl) R.e8.gC rfl) pa_nil))) (pa_cons (pe_callB call_isErr (by rfl) T.m_isinstance (by decide +kernel) (pa_cons (pv 0) (pa_cons (pe_glob (v := .ref (cl 9)) (by rfl) R.e9.gC rfl) pa_nil))) (pa_cons (pe_callB call_isErr (by rfl) T.m_isinstance (by decide +kernel) (pa_cons (pv 0) (pa_cons (pe_glob (v := .ref (cl 10)) (by rfl) R.e10.gC rfl) pa_nil))) (pa_cons (pe_callB call_isErr (by rfl) T.m_isinstance (by decide +kernel) (pa_cons (pv 0) (pa_cons (pe_glob (v := .ref (cl 11)) (by rfl) R.e11.gC rfl) pa_nil))) pa_nil))))) pa_nil)))
    (pss_cons (ps_expr (pe_bm PySem.F.plainAttrs_list PySem.F.slot_list_extend PySem.F.type_list_extend mt_extend (pv 1) (pa_cons (pe_lst (pa_cons (pe_callB call_isErr (by rfl) T.m_isinstance (by decide +kernel) (pa_cons (pv 0) (pa_cons (pe_glob (v := .ref (cl 12)) (by rfl) R.e12.gC rfl) pa_nil))) (pa_cons (pe_callB call_isErr (by rfl) T.m_isinstance (by decide +kernel) (pa_cons (pv 0) (pa_cons (pe_glob (v := .ref (cl 13)) (by rfl) R.e13.gC rfl) pa_nil))) (pa_cons (pe_callB call_isErr (by rfl) T.m_isinstance (by decide +kernel) (pa_cons (pv 0) (pa_cons (pe_glob (v := .ref (cl 14)) (by rfl) R.e14.gC rfl) pa_nil))) (pa_cons (pe_callB call_isErr (by rfl) T.m_isinstance (by decide +kernel) (pa_cons (pv 0) (pa_cons (pe_glob (v := .ref (cl 15)) (by rfl) R.e15.gC rfl) pa_nil))) pa_nil))))) pa_nil)))
    (pss_cons (ps_expr (pe_bm PySem.F.plainAttrs_list PySem.F.slot_list_extend PySem.F.type_list_extend mt_extend (pv 1) (pa_cons (pe_lst (pa_cons (pe_callB call_isErr (by rfl) T.m_isinstance (by decide +kernel) (pa_cons (pv 0) (pa_cons (pe_glob (v := .ref (cl 16)) (by rfl) R.e16.gC rfl) pa_nil))) (pa_cons (pe_callB call_isErr (by rfl) T.m_isinstance (by decide +kernel) (pa_cons (pv 0) (pa_cons (pe_glob (v := .ref (cl 17)) (by rfl) R.g17 rfl) pa_nil))) (pa_cons (pe_callB call_isErr (by rfl) T.m_isinstance (by decide +kernel) (pa_cons (pv 0) (pa_cons (pe_glob (v := .ref (cl 18)) (by rfl) R.e18.gC rfl) pa_nil))) (pa_cons (pe_callB call_isErr (by rfl) T.m_isinstance (by decide +kernel) (pa_cons (pv 0) (pa_cons (pe_glob (v := .ref (cl 19)) (by rfl) R.e19.gC rfl) pa_nil))) pa_nil))))) pa_nil)))
    (pss_one (ps_ret (pe_op op_cat (pv 1) (pe_lst (pa_cons (pe_callB call_isErr (by rfl) T.m_isinstance (by decide +kernel) (pa_cons (pv 0) (pa_cons (pe_glob (v := .ref (cl 20)) (by rfl) R.e20.gC rfl) pa_nil))) pa_nil)))))))))), ?_⟩
    have R0 : ∀ i, i < 21 → ClsV (.ref (cl i)) (.ref (cl i)) ∧ PySem.W.kitOne K (.ref C) (.ref (cl i)) = some (bs i) := fun i hi => ⟨.own _, hk i hi⟩
    have hL : Hid [] H := hid_nil
    have v0 : Evl.Ev (tVar 0) (start sc_kinds_N [V.ref a]) H (.ref a) := Evl.ev_var rfl
    refine qd_lst (K := K) hL (evds_cons (evd_evB (ev_isErr (K := K) (v0.mono (Ex.refl H)) (he.up (Ex.refl H)) Z (R0 0 (by decide)))) (evds_cons (evd_evB (ev_isErr (K := K) (v0.mono (Ex.refl H)) (he.up (Ex.refl H)) Z (R0 1 (by decide)))) (evds_cons (evd_evB (ev_isErr (K := K) (v0.mono (Ex.refl H)) (he.up (Ex.refl H)) Z (R0 2 (by decide)))) (evds_cons (evd_evB (ev_isErr (K := K) (v0.mono (Ex.refl H)) (he.up (Ex.refl H)) Z (R0 3 (by decide)))) evds_nil)))) (Nat.le_of_ble_eq_true rfl) fun l H1 hl e1 g1 => ?_
    have v0 : Evl.Ev (tVar 0) ((start sc_kinds_N [V.ref a]).set 1 (some (.ref l))) H (.ref a) := Evl.ev_var rfl
    have vl : ∀ H', Evl.Ev (tVar 1) ((start sc_kinds_N [V.ref a]).set 1 (some (.ref l))) H' (.ref l) := fun _ => Evl.ev_var rfl
    refine qd_ext (K := K) g1 hid_nil (vl _) (evds_cons (evd_evB (ev_isErr (K := K) (v0.mono e1) (he.up e1) Z (R0 4 (by decide)))) (evds_cons (evd_evB (ev_isErr (K := K) (v0.mono e1) (he.up e1) Z (R0 5 (by decide)))) (evds_cons (evd_evB (ev_isErr (K := K) (v0.mono e1) (he.up e1) Z (R0 6 (by decide)))) (evds_cons (evd_evB (ev_isErr (K := K) (v0.mono e1) (he.up e1) Z (R0 7 (by decide)))) evds_nil)))) (Nat.le_of_ble_eq_true rfl) fun o2 H2 e2 g2 => ?_
    have f2 : Ex H (upd H2 l o2) := Evl.Ex.mut (e1.trans e2) hl
    refine qd_ext (K := K) g2 hid_nil (vl _) (evds_cons (evd_evB (ev_isErr (K := K) (v0.mono f2) (he.up f2) Z (R0 8 (by decide)))) (evds_cons (evd_evB (ev_isErr (K := K) (v0.mono f2) (he.up f2) Z (R0 9 (by decide)))) (evds_cons (evd_evB (ev_isErr (K := K) (v0.mono f2) (he.up f2) Z (R0 10 (by decide)))) (evds_cons (evd_evB (ev_isErr (K := K) (v0.mono f2) (he.up f2) Z (R0 11 (by decide)))) evds_nil)))) (Nat.le_of_ble_eq_true rfl) fun o3 H3 e3 g3 => ?_
    have f3 : Ex H (upd H3 l o3) := Evl.Ex.mut (f2.trans e3) hl
    refine qd_ext (K := K) g3 hid_nil (vl _) (evds_cons (evd_evB (ev_isErr (K := K) (v0.mono f3) (he.up f3) Z (R0 12 (by decide)))) (evds_cons (evd_evB (ev_isErr (K := K) (v0.mono f3) (he.up f3) Z (R0 13 (by decide)))) (evds_cons (evd_evB (ev_isErr (K := K) (v0.mono f3) (he.up f3) Z (R0 14 (by decide)))) (evds_cons (evd_evB (ev_isErr (K := K) (v0.mono f3) (he.up f3) Z (R0 15 (by decide)))) evds_nil)))) (Nat.le_of_ble_eq_true rfl) fun o4 H4 e4 g4 => ?_
    have f4 : Ex H (upd H4 l o4) := Evl.Ex.mut (f3.trans e4) hl
    refine qd_ext (K := K) g4 hid_nil (vl _) (evds_cons (evd_evB (ev_isErr (K := K) (v0.mono f4) (he.up f4) Z (R0 16 (by decide)))) (evds_cons (evd_evB (ev_isErr (K := K) (v0.mono f4) (he.up f4) Z (R0 17 (by decide)))) (evds_cons (evd_evB (ev_isErr (K := K) (v0.mono f4) (he.up f4) Z (R0 18 (by decide)))) (evds_cons (evd_evB (ev_isErr (K := K) (v0.mono f4) (he.up f4) Z (R0 19 (by decide)))) evds_nil)))) (Nat.le_of_ble_eq_true rfl) fun o5 H5 e5 g5 => ?_
    have f5 : Ex H (upd H5 l o5) := Evl.Ex.mut (f4.trans e5) hl
    refine d_ret (K := K) (evd_cat hid_nil g5 (vl _) (evds_cons (evd_evB (ev_isErr (K := K) (v0.mono f5) (he.up f5) Z (R0 20 (by decide)))) evds_nil) (Nat.le_of_ble_eq_true rfl)) fun v H6 e6 hv => k v H6 (f5.trans e6) ?_
    rw [w_nil] at hv
    exact hv
theorem ex_w1 {H H' : Hp} {l : Addr} (e : Ex H H') (hl : H l = none) : Ex H (W [l] H') := fun a o h => w_of (by simpa using ne_of_none h hl) (e a o h)
theorem hid1 {H : Hp} {l : Addr} (h : H l ≠ none) : Hid [l] H := fun a m => by
  have e : a = l := by simpa using m
  rw [e]
  exact h
theorem ok_all {f : Addr} {fd : FuncData} (F : Fun K "_law_all" "_law_all" s_all f fd) (R : Errs P w K mg base Tc cl) : FnOk P w K mg base CX0 3 f fd ["_law_a", "_law_b"] (spAll K) := by
  refine F.ok sc_all (fun vs H Q E h => ?_) (fun cdv A outer s H vs Q E hr2 h => ?_)
  · obtain ⟨_, _, _, _, rfl, _⟩ := h
    rfl
  · obtain ⟨x, y, a, b, rfl, da, db, k⟩ := h
    refine ⟨_, (pss_cons (ps_set (i := 2) sc_all.nd rfl (by first | exact Or.inl rfl | exact Or.inr rfl) (pe_lst (pa_cons (pe_tup (pa_cons pe_int (pa_cons (pe_errF (pe_err R.e0 hr2 (by rfl) (pv 0))) (pa_cons (pe_errF (pe_errK R.e0 hr2 (by rfl) (pv 1))) pa_nil)))) (pa_cons (pe_tup (pa_cons pe_int (pa_cons (pe_errF (pe_err R.e1 hr2 (by rfl) (pv 0))) (pa_cons (pe_errF (pe_errK R.e1 hr2 (by rfl) (pv 1))) pa_nil)))) pa_nil))))
    (pss_cons (ps_expr (pe_bm PySem.F.plainAttrs_list PySem.F.slot_list_append PySem.F.type_list_append mt_append (pv 2) (pa_cons (pe_tup (pa_cons pe_int (pa_cons (pe_errF (pe_err R.e2 hr2 (by rfl) (pv 0))) (pa_cons (pe_errF (pe_errK R.e2 hr2 (by rfl) (pv 1))) pa_nil)))) pa_nil)))
    (pss_cons (ps_expr (pe_bm PySem.F.plainAttrs_list PySem.F.slot_list_append PySem.F.type_list_append mt_append (pv 2) (pa_cons (pe_tup (pa_cons pe_int (pa_cons (pe_errF (pe_err R.e4 hr2 (by rfl) (pv 0))) (pa_cons (pe_errF (pe_errK R.e4 hr2 (by rfl) (pv 1))) pa_nil)))) pa_nil)))
    (pss_cons (ps_expr (pe_bm PySem.F.plainAttrs_list PySem.F.slot_list_append PySem.F.type_list_append mt_append (pv 2) (pa_cons (pe_tup (pa_cons pe_int (pa_cons (pe_errF (pe_err R.e5 hr2 (by rfl) (pv 0))) (pa_cons (pe_errF (pe_errK R.e5 hr2 (by rfl) (pv 1))) pa_nil)))) pa_nil)))
    (pss_cons (ps_expr (pe_bm PySem.F.plainAttrs_list PySem.F.slot_list_append PySem.F.type_list_append mt_append (pv 2) (pa_cons (pe_tup (pa_cons pe_int (pa_cons (pe_errF (pe_err R.e6 hr2 (by rfl) (pv 0))) (pa_cons (pe_errF (pe_errK R.e6 hr2 (by rfl) (pv 1))) pa_nil)))) pa_nil)))
    (pss_cons (ps_expr (pe_bm PySem.F.plainAttrs_list PySem.F.slot_list_append PySem.F.type_list_append mt_append (pv 2) (pa_cons (pe_tup (pa_cons pe_int (pa_cons (pe_errF (pe_err R.e8 hr2 (by rfl) (pv 0))) (pa_cons (pe_errF (pe_errK R.e8 hr2 (by rfl) (pv 1))) pa_nil)))) pa_nil)))
    (pss_cons (ps_expr (pe_bm PySem.F.plainAttrs_list PySem.F.slot_list_append PySem.F.type_list_append mt_append (pv 2) (pa_cons (pe_tup (pa_cons pe_int (pa_cons (pe_errF (pe_err R.e9 hr2 (by rfl) (pv 0))) (pa_cons (pe_errF (pe_errK R.e9 hr2 (by rfl) (pv 1))) pa_nil)))) pa_nil)))
    (pss_cons (ps_expr (pe_bm PySem.F.plainAttrs_list PySem.F.slot_list_append PySem.F.type_list_append mt_append (pv 2) (pa_cons (pe_tup (pa_cons pe_int (pa_cons (pe_errF (pe_err R.e10 hr2 (by rfl) (pv 0))) (pa_cons (pe_errF (pe_errK R.e10 hr2 (by rfl) (pv 1))) pa_nil)))) pa_nil)))
    (pss_cons (ps_expr (pe_bm PySem.F.plainAttrs_list PySem.F.slot_list_append PySem.F.type_list_append mt_append (pv 2) (pa_cons (pe_tup (pa_cons pe_int (pa_cons (pe_errF (pe_err R.e11 hr2 (by rfl) (pv 0))) (pa_cons (pe_errF (pe_errK R.e11 hr2 (by rfl) (pv 1))) pa_nil)))) pa_nil)))
    (pss_cons (ps_expr (pe_bm PySem.F.plainAttrs_list PySem.F.slot_list_append PySem.F.type_list_append mt_append (pv 2) (pa_cons (pe_tup (pa_cons pe_int (pa_cons (pe_errF (pe_err R.e12 hr2 (by rfl) (pv 0))) (pa_cons (pe_errF (pe_errK R.e12 hr2 (by rfl) (pv 1))) pa_nil)))) pa_nil)))
    (pss_cons (ps_expr (pe_bm PySem.F.plainAttrs_list PySem.F.slot_list_append PySem.F.type_list_append mt_append (pv 2) (pa_cons (pe_tup (pa_cons pe_int (pa_cons (pe_errF (pe_err R.e13 hr2 (by rfl) (pv 0))) (pa_cons (pe_errF (pe_errK R.e13 hr2 (by rfl) (pv 1))) pa_nil)))) pa_nil)))
    (pss_cons (ps_expr (pe_bm PySem.F.plainAttrs_list PySem.F.slot_list_append PySem.F.type_list_append mt_append (pv 2) (pa_cons (pe_tup (pa_cons pe_int (pa_cons (pe_errF (pe_err R.e14 hr2 (by rfl) (pv 0))) (pa_cons (pe_errF (pe_errK R.e14 hr2 (by rfl) (pv 1))) pa_nil)))) pa_nil)))
    (pss_cons (ps_expr (pe_bm PySem.F.plainAttrs_list PySem.F.slot_list_append PySem.F.type_list_append mt_append (pv 2) (pa_cons (pe_tup (pa_cons pe_int (pa_cons (pe_errF (pe_err R.e15 hr2 (by rfl) (pv 0))) (pa_cons (pe_errF (pe_errK R.e15 hr2 (by rfl) (pv 1))) pa_nil)))) pa_nil)))
    (pss_cons (ps_expr (pe_bm PySem.F.plainAttrs_list PySem.F.slot_list_append PySem.F.type_list_append mt_append (pv 2) (pa_cons (pe_tup (pa_cons pe_int (pa_cons (pe_errF (pe_err R.e16 hr2 (by rfl) (pv 0))) (pa_cons (pe_errF (pe_errK R.e16 hr2 (by rfl) (pv 1))) pa_nil)))) pa_nil)))
    (pss_cons (ps_expr (pe_bm PySem.F.plainAttrs_list PySem.F.slot_list_append PySem.F.type_list_append mt_append (pv 2) (pa_cons (pe_tup (pa_cons pe_int (pa_cons (pe_errF (pe_err R.e18 hr2 (by rfl) (pv 0))) (pa_cons (pe_errF (pe_errK R.e18 hr2 (by rfl) (pv 1))) pa_nil)))) pa_nil)))
    (pss_cons (ps_expr (pe_bm PySem.F.plainAttrs_list PySem.F.slot_list_append PySem.F.type_list_append mt_append (pv 2) (pa_cons (pe_tup (pa_cons pe_int (pa_cons (pe_errF (pe_err R.e19 hr2 (by rfl) (pv 0))) (pa_cons (pe_errF (pe_errK R.e19 hr2 (by rfl) (pv 1))) pa_nil)))) pa_nil)))
    (pss_one (ps_ret (pe_op op_cat (pv 2) (pe_lst (pa_cons (pe_tup (pa_cons pe_int (pa_cons (pe_errF (pe_err R.e20 hr2 (by rfl) (pv 0))) (pa_cons (pe_errF (pe_errK R.e20 hr2 (by rfl) (pv 1))) pa_nil)))) pa_nil))))))))))))))))))))), ?_⟩
    have v0 : Evl.Ev (tVar 0) (start sc_all_N [x, y]) H x := Evl.ev_var rfl
    have v1 : Evl.Ev (tVar 1) (start sc_all_N [x, y]) H y := Evl.ev_var rfl
    have w0 : Ex H (W [] H) := by
      rw [w_nil]
      exact Ex.refl H
    refine qd_lst (K := K) hid_nil (evds_cons (evd_tup hid_nil (evds_cons evd_int (evds_cons (evd_of (ev_errF (v0.mono (Ex.refl H)) R.e0.xf R.e0.no) (da.up w0)) (evds_cons (evd_of (ev_errF (v1.mono (Ex.refl H)) R.e0.xf R.e0.no) (db.up w0)) evds_nil))) (Nat.le_of_ble_eq_true rfl)) (evds_cons (evd_tup hid_nil (evds_cons evd_int (evds_cons (evd_of (ev_errF (v0.mono (Ex.refl H)) R.e1.xf R.e1.no) (da.up w0)) (evds_cons (evd_of (ev_errF (v1.mono (Ex.refl H)) R.e1.xf R.e1.no) (db.up w0)) evds_nil))) (Nat.le_of_ble_eq_true rfl)) evds_nil)) (Nat.le_of_ble_eq_true rfl) fun l H0 hl f0 g0 => ?_
    have v0 : Evl.Ev (tVar 0) ((start sc_all_N [x, y]).set 2 (some (.ref l))) H x := Evl.ev_var rfl
    have v1 : Evl.Ev (tVar 1) ((start sc_all_N [x, y]).set 2 (some (.ref l))) H y := Evl.ev_var rfl
    have vl : ∀ H', Evl.Ev (tVar 2) ((start sc_all_N [x, y]).set 2 (some (.ref l))) H' (.ref l) := fun _ => Evl.ev_var rfl
    refine qd_app (K := K) g0 (vl _) (evd_tup (hid1 g0.ne) (evds_cons evd_int (evds_cons (evd_of (ev_errF (v0.mono f0) R.e2.xf R.e2.no) (da.up (ex_w1 f0 hl))) (evds_cons (evd_of (ev_errF (v1.mono f0) R.e2.xf R.e2.no) (db.up (ex_w1 f0 hl))) evds_nil))) (Nat.le_of_ble_eq_true rfl)) (Nat.lt_of_lt_of_le (m := 3) (Nat.le_of_ble_eq_true rfl) (by decide)) fun o1 H1 e1 g1 => ?_
    have f1 : Ex H (upd H1 l o1) := Evl.Ex.mut (f0.trans e1) hl
    refine qd_app (K := K) g1 (vl _) (evd_tup (hid1 g1.ne) (evds_cons evd_int (evds_cons (evd_of (ev_errF (v0.mono f1) R.e4.xf R.e4.no) (da.up (ex_w1 f1 hl))) (evds_cons (evd_of (ev_errF (v1.mono f1) R.e4.xf R.e4.no) (db.up (ex_w1 f1 hl))) evds_nil))) (Nat.le_of_ble_eq_true rfl)) (Nat.lt_of_lt_of_le (m := 4) (Nat.le_of_ble_eq_true rfl) (by decide)) fun o2 H2 e2 g2 => ?_
    have f2 : Ex H (upd H2 l o2) := Evl.Ex.mut (f1.trans e2) hl
    refine qd_app (K := K) g2 (vl _) (evd_tup (hid1 g2.ne) (evds_cons evd_int (evds_cons (evd_of (ev_errF (v0.mono f2) R.e5.xf R.e5.no) (da.up (ex_w1 f2 hl))) (evds_cons (evd_of (ev_errF (v1.mono f2) R.e5.xf R.e5.no) (db.up (ex_w1 f2 hl))) evds_nil))) (Nat.le_of_ble_eq_true rfl)) (Nat.lt_of_lt_of_le (m := 5) (Nat.le_of_ble_eq_true rfl) (by decide)) fun o3 H3 e3 g3 => ?_
    have f3 : Ex H (upd H3 l o3) := Evl.Ex.mut (f2.trans e3) hl
    refine qd_app (K := K) g3 (vl _) (evd_tup (hid1 g3.ne) (evds_cons evd_int (evds_cons (evd_of (ev_errF (v0.mono f3) R.e6.xf R.e6.no) (da.up (ex_w1 f3 hl))) (evds_cons (evd_of (ev_errF (v1.mono f3) R.e6.xf R.e6.no) (db.up (ex_w1 f3 hl))) evds_nil))) (Nat.le_of_ble_eq_true rfl)) (Nat.lt_of_lt_of_le (m := 6) (Nat.le_of_ble_eq_true rfl) (by decide)) fun o4 H4 e4 g4 => ?_
    have f4 : Ex H (upd H4 l o4) := Evl.Ex.mut (f3.trans e4) hl
    refine qd_app (K := K) g4 (vl _) (evd_tup (hid1 g4.ne) (evds_cons evd_int (evds_cons (evd_of (ev_errF (v0.mono f4) R.e8.xf R.e8.no) (da.up (ex_w1 f4 hl))) (evds_cons (evd_of (ev_errF (v1.mono f4) R.e8.xf R.e8.no) (db.up (ex_w1 f4 hl))) evds_nil))) (Nat.le_of_ble_eq_true rfl)) (Nat.lt_of_lt_of_le (m := 7) (Nat.le_of_ble_eq_true rfl) (by decide)) fun o5 H5 e5 g5 => ?_
    have f5 : Ex H (upd H5 l o5) := Evl.Ex.mut (f4.trans e5) hl
    refine qd_app (K := K) g5 (vl _) (evd_tup (hid1 g5.ne) (evds_cons evd_int (evds_cons (evd_of (ev_errF (v0.mono f5) R.e9.xf R.e9.no) (da.up (ex_w1 f5 hl))) (evds_cons (evd_of (ev_errF (v1.mono f5) R.e9.xf R.e9.no) (db.up (ex_w1 f5 hl))) evds_nil))) (Nat.le_of_ble_eq_true rfl)) (Nat.lt_of_lt_of_le (m := 8) (Nat.le_of_ble_eq_true rfl) (by decide)) fun o6 H6 e6 g6 => ?_
    have f6 : Ex H (upd H6 l o6) := Evl.Ex.mut (f5.trans e6) hl
    refine qd_app (K := K) g6 (vl _) (evd_tup (hid1 g6.ne) (evds_cons evd_int (evds_cons (evd_of (ev_errF (v0.mono f6) R.e10.xf R.e10.no) (da.up (ex_w1 f6 hl))) (evds_cons (evd_of (ev_errF (v1.mono f6) R.e10.xf R.e10.no) (db.up (ex_w1 f6 hl))) evds_nil))) (Nat.le_of_ble_eq_true rfl)) (Nat.lt_of_lt_of_le (m := 9) (Nat.le_of_ble_eq_true rfl) (by decide)) fun o7 H7 e7 g7 => ?_
    have f7 : Ex H (upd H7 l o7) := Evl.Ex.mut (f6.trans e7) hl
    refine qd_app (K := K) g7 (vl _) (evd_tup (hid1 g7.ne) (evds_cons evd_int (evds_cons (evd_of (ev_errF (v0.mono f7) R.e11.xf R.e11.no) (da.up (ex_w1 f7 hl))) (evds_cons (evd_of (ev_errF (v1.mono f7) R.e11.xf R.e11.no) (db.up (ex_w1 f7 hl))) evds_nil))) (Nat.le_of_ble_eq_true rfl)) (Nat.lt_of_lt_of_le (m := 10) (Nat.le_of_ble_eq_true rfl) (by decide)) fun o8 H8 e8 g8 => ?_
    have f8 : Ex H (upd H8 l o8) := Evl.Ex.mut (f7.trans e8) hl
    refine qd_app (K := K) g8 (vl _) (evd_tup (hid1 g8.ne) (evds_cons evd_int (evds_cons (evd_of (ev_errF (v0.mono f8) R.e12.xf R.e12.no) (da.up (ex_w1 f8 hl))) (evds_cons (evd_of (ev_errF (v1.mono f8) R.e12.xf R.e12.no) (db.up (ex_w1 f8 hl))) evds_nil))) (Nat.le_of_ble_eq_true rfl)) (Nat.lt_of_lt_of_le (m := 11) (Nat.le_of_ble_eq_true rfl) (by decide)) fun o9 H9 e9 g9 => ?_
    have f9 : Ex H (upd H9 l o9) := Evl.Ex.mut (f8.trans e9) hl
    refine qd_app (K := K) g9 (vl _) (evd_tup (hid1 g9.ne) (evds_cons evd_int (evds_cons (evd_of (ev_errF (v0.mono f9) R.e13.xf R.e13.no) (da.up (ex_w1 f9 hl))) (evds_cons (evd_of (ev_errF (v1.mono f9) R.e13.xf R.e13.no) (db.up (ex_w1 f9 hl))) evds_nil))) (Nat.le_of_ble_eq_true rfl)) (Nat.lt_of_lt_of_le (m := 12) (Nat.le_of_ble_eq_true rfl) (by decide)) fun o10 H10 e10 g10 => ?_
    have f10 : Ex H (upd H10 l o10) := Evl.Ex.mut (f9.trans e10) hl
    refine qd_app (K := K) g10 (vl _) (evd_tup (hid1 g10.ne) (evds_cons evd_int (evds_cons (evd_of (ev_errF (v0.mono f10) R.e14.xf R.e14.no) (da.up (ex_w1 f10 hl))) (evds_cons (evd_of (ev_errF (v1.mono f10) R.e14.xf R.e14.no) (db.up (ex_w1 f10 hl))) evds_nil))) (Nat.le_of_ble_eq_true rfl)) (Nat.lt_of_lt_of_le (m := 13) (Nat.le_of_ble_eq_true rfl) (by decide)) fun o11 H11 e11 g11 => ?_
    have f11 : Ex H (upd H11 l o11) := Evl.Ex.mut (f10.trans e11) hl
    refine qd_app (K := K) g11 (vl _) (evd_tup (hid1 g11.ne) (evds_cons evd_int (evds_cons (evd_of (ev_errF (v0.mono f11) R.e15.xf R.e15.no) (da.up (ex_w1 f11 hl))) (evds_cons (evd_of (ev_errF (v1.mono f11) R.e15.xf R.e15.no) (db.up (ex_w1 f11 hl))) evds_nil))) (Nat.le_of_ble_eq_true rfl)) (Nat.lt_of_lt_of_le (m := 14) (Nat.le_of_ble_eq_true rfl) (by decide)) fun o12 H12 e12 g12 => ?_
    have f12 : Ex H (upd H12 l o12) := Evl.Ex.mut (f11.trans e12) hl
    refine qd_app (K := K) g12 (vl _) (evd_tup (hid1 g12.ne) (evds_cons evd_int (evds_cons (evd_of (ev_errF (v0.mono f12) R.e16.xf R.e16.no) (da.up (ex_w1 f12 hl))) (evds_cons (evd_of (ev_errF (v1.mono f12) R.e16.xf R.e16.no) (db.up (ex_w1 f12 hl))) evds_nil))) (Nat.le_of_ble_eq_true rfl)) (Nat.lt_of_lt_of_le (m := 15) (Nat.le_of_ble_eq_true rfl) (by decide)) fun o13 H13 e13 g13 => ?_
    have f13 : Ex H (upd H13 l o13) := Evl.Ex.mut (f12.trans e13) hl
    refine qd_app (K := K) g13 (vl _) (evd_tup (hid1 g13.ne) (evds_cons evd_int (evds_cons (evd_of (ev_errF (v0.mono f13) R.e18.xf R.e18.no) (da.up (ex_w1 f13 hl))) (evds_cons (evd_of (ev_errF (v1.mono f13) R.e18.xf R.e18.no) (db.up (ex_w1 f13 hl))) evds_nil))) (Nat.le_of_ble_eq_true rfl)) (Nat.lt_of_lt_of_le (m := 16) (Nat.le_of_ble_eq_true rfl) (by decide)) fun o14 H14 e14 g14 => ?_
    have f14 : Ex H (upd H14 l o14) := Evl.Ex.mut (f13.trans e14) hl
    refine qd_app (K := K) g14 (vl _) (evd_tup (hid1 g14.ne) (evds_cons evd_int (evds_cons (evd_of (ev_errF (v0.mono f14) R.e19.xf R.e19.no) (da.up (ex_w1 f14 hl))) (evds_cons (evd_of (ev_errF (v1.mono f14) R.e19.xf R.e19.no) (db.up (ex_w1 f14 hl))) evds_nil))) (Nat.le_of_ble_eq_true rfl)) (Nat.lt_of_lt_of_le (m := 17) (Nat.le_of_ble_eq_true rfl) (by decide)) fun o15 H15 e15 g15 => ?_
    have f15 : Ex H (upd H15 l o15) := Evl.Ex.mut (f14.trans e15) hl
    refine d_ret (K := K) (evd_cat hid_nil g15 (vl _) (evds_cons (evd_tup hid_nil (evds_cons evd_int (evds_cons (evd_of (ev_errF (v0.mono f15) R.e20.xf R.e20.no) (da.up (by rw [w_nil]; exact f15))) (evds_cons (evd_of (ev_errF (v1.mono f15) R.e20.xf R.e20.no) (db.up (by rw [w_nil]; exact f15))) evds_nil))) (Nat.le_of_ble_eq_true rfl)) evds_nil) (Nat.le_of_ble_eq_true rfl)) fun v H9 e9 hv => k v H9 (f15.trans e9) ?_
    rw [w_nil] at hv
    exact hv
theorem errof_w {H : Hp} {l a C : Addr} {xs : List V} (hl : H l = some (.lst xs)) (h : ErrOf H a C) : ErrOf (W [l] H) a C := by
  have nl : ∀ {b : Addr} {φ : Heap → Prop}, H b = some (.ext φ) → b ∉ [l] := fun {b φ} e m => by
    have q : b = l := by simpa using m
    rw [q, hl] at e
    cases e
  rcases h with ⟨d, fs, h1, h2⟩ | h1
  · exact .inl ⟨d, fs, w_of (nl h1) h1, w_of (nl h2) h2⟩
  · exact .inr (w_of (nl h1) h1)
theorem errall_w {H : Hp} {l : Addr} {xs : List V} (hl : H l = some (.lst xs)) : ∀ {vs : List V} {Cs : List Addr}, ErrAll H vs Cs → ErrAll (W [l] H) vs Cs
  | _, _, .nil => .nil
  | _, _, .cons h t => .cons (errof_w hl h) (errall_w hl t)
/-- at l a list of errors of these classes -/
def GrE (H : Hp) (l : Addr) (Cs : List Addr) : Prop := ∃ xs, H l = some (.lst xs) ∧ ErrAll H xs Cs
section
variable {σ : L2.St} {H : Hp} {tb : TE} {ta : TA} {Cs Ds : List Addr} {l : Addr} {D : Ends} {tz : TS} {i : Nat}
theorem qe_lst (h : EvEs ta σ H Cs) (hz : Cs.length ≤ 100000) (k : ∀ p H1, H p = none → Ex H H1 → GrE H1 p Cs → tz D (σ.set i (some (.ref p))) H1) : tSeq (tAsg (tLst ta) (gName i)) tz D σ H :=
  h H (Ex.refl H) _ fun vs H1 e hv => ⟨Evl.sz_of (by rw [hv.len]; exact hz), fun p hp => k p _ (Evl.fresh_back e hp) (e.trans (Ex.new hp)) ⟨vs, upd_same, hv.up (Ex.new hp)⟩⟩
theorem qe_ext (hg : GrE H l Cs) (ho : Evl.Ev tb σ H (.ref l)) (h : EvEs ta σ H Ds) (hz : Cs.length + Ds.length ≤ 100000) (k : ∀ o H1, Ex H H1 → GrE (upd H1 l o) l (Cs ++ Ds) → tz D σ (upd H1 l o)) :
    tSeq (tDrop (tBM K "list" rExtend tb (tCons (tLst ta) tNil))) tz D σ H := ho H (Ex.refl H) _ fun H1 e1 => by
  obtain ⟨xs, h1, h2⟩ := hg
  refine ⟨Or.inl ⟨rfl, xs, SqL.of (e1 l _ h1)⟩, h H1 e1 _ fun vs H2 e2 hv => ?_⟩
  have l1 := h2.len
  have l2 := hv.len
  refine ⟨Evl.sz_of (by omega), fun p hp => ?_⟩
  have e3 : Ex H2 (upd H2 p (.lst vs)) := Ex.new hp
  have eA := (e1.trans e2).trans e3
  refine ⟨l, p, xs, vs, rfl, rfl, eA l _ h1, upd_same, Evl.sz_of (by omega), k _ _ eA ⟨xs ++ vs, upd_same, ?_⟩⟩
  have z := errall_w (eA l _ h1) (ErrAll.app (h2.up eA) (hv.up e3))
  rw [← w_upd_in (o := .lst (xs ++ vs)) (List.mem_cons_self ..)] at z
  exact z.up w_sub
theorem de_cat (hg : GrE H l Cs) (ho : Evl.Ev tb σ H (.ref l)) (h : EvEs ta σ H Ds) (hz : Cs.length + Ds.length ≤ 100000) (k : ∀ p H1, Ex H H1 → GrE H1 p (Cs ++ Ds) → D.rt (.ref p) H1) : tRet (tOp rCat tb (tLst ta)) D σ H :=
  ho H (Ex.refl H) _ fun H1 e1 => h H1 e1 _ fun vs H2 e2 hv => by
    obtain ⟨xs, h1, h2⟩ := hg
    have l1 := h2.len
    have l2 := hv.len
    refine ⟨Evl.sz_of (by omega), fun p hp => ?_⟩
    have e3 : Ex H2 (upd H2 p (.lst vs)) := Ex.new hp
    have eA := (e1.trans e2).trans e3
    refine ⟨l, p, xs, vs, rfl, rfl, eA l _ h1, upd_same, Evl.sz_of (by omega), fun t ht => ?_⟩
    have e4 : Ex (upd H2 p (.lst vs)) (upd (upd H2 p (.lst vs)) t (.lst (xs ++ vs))) := Ex.new ht
    exact k t _ (eA.trans e4) ⟨xs ++ vs, upd_same, ErrAll.app (h2.up (eA.trans e4)) (hv.up (e3.trans e4))⟩
end
theorem ok_made {f : Addr} {fd : FuncData} (F : Fun K "_law_made" "_law_made" s_made f fd) (R : Errs P w K mg base Tc cl) : FnOk P w K mg base CX0 3 f fd ["_law_a"] (spMade cl) := by
  refine F.ok sc_made (fun vs H Q E h => ?_) (fun cdv A outer s H vs Q E hr2 h => ?_)
  · obtain ⟨_, rfl, _⟩ := h
    rfl
  · obtain ⟨x, rfl, k⟩ := h
    refine ⟨_, (pss_cons (ps_set (i := 1) sc_made.nd rfl (by first | exact Or.inl rfl | exact Or.inr rfl) (pe_lst (pa_cons (pe_err R.e0 hr2 (by rfl) (pv 0)) (pa_cons (pe_err R.e1 hr2 (by rfl) (pv 0)) (pa_cons (pe_err R.e2 hr2 (by rfl) (pv 0)) (pa_cons (pe_err0 PySem.F.excBase_ValueError R.x3 R.g3 R.k3 (by rfl)) (pa_cons (pe_err R.e4 hr2 (by rfl) (pv 0)) (pa_cons (pe_err R.e5 hr2 (by rfl) (pv 0)) (pa_cons (pe_err R.e6 hr2 (by rfl) (pv 0)) (pa_cons (pe_err0 PySem.F.excBase_ValueError R.x7 R.g7 R.k7 (by rfl)) pa_nil))))))))))
    (pss_cons (ps_expr (pe_bm PySem.F.plainAttrs_list PySem.F.slot_list_extend PySem.F.type_list_extend mt_extend (pv 1) (pa_cons (pe_lst (pa_cons (pe_err R.e8 hr2 (by rfl) (pv 0)) (pa_cons (pe_err R.e9 hr2 (by rfl) (pv 0)) (pa_cons (pe_err R.e10 hr2 (by rfl) (pv 0)) (pa_cons (pe_err R.e11 hr2 (by rfl) (pv 0)) (pa_cons (pe_err R.e12 hr2 (by rfl) (pv 0)) (pa_cons (pe_err R.e13 hr2 (by rfl) (pv 0)) (pa_cons (pe_err R.e14 hr2 (by rfl) (pv 0)) (pa_cons (pe_err R.e15 hr2 (by rfl) (pv 0)) pa_nil))))))))) pa_nil)))
    (pss_one (ps_ret (pe_op op_cat (pv 1) (pe_lst (pa_cons (pe_err R.e16 hr2 (by rfl) (pv 0)) (pa_cons (pe_err0 PySem.F.excBase_ValueError R.x17 R.g17 R.k17 (by rfl)) (pa_cons (pe_err R.e18 hr2 (by rfl) (pv 0)) (pa_cons (pe_err R.e19 hr2 (by rfl) (pv 0)) (pa_cons (pe_err R.e20 hr2 (by rfl) (pv 0)) pa_nil))))))))))), ?_⟩
    have v0 : Evl.Ev (tVar 0) (start sc_made_N [x]) H x := Evl.ev_var rfl
    refine qe_lst (eves_err (v0.mono (Ex.refl H)) (eves_err (v0.mono (Ex.refl H)) (eves_err (v0.mono (Ex.refl H)) (eves_err0 (eves_err (v0.mono (Ex.refl H)) (eves_err (v0.mono (Ex.refl H)) (eves_err (v0.mono (Ex.refl H)) (eves_err0 eves_nil)))))))) (Nat.le_of_ble_eq_true rfl) fun l H1 hl e1 g1 => ?_
    have v0 : Evl.Ev (tVar 0) ((start sc_made_N [x]).set 1 (some (.ref l))) H x := Evl.ev_var rfl
    have vl : ∀ H', Evl.Ev (tVar 1) ((start sc_made_N [x]).set 1 (some (.ref l))) H' (.ref l) := fun _ => Evl.ev_var rfl
    refine qe_ext g1 (vl _) (eves_err (v0.mono e1) (eves_err (v0.mono e1) (eves_err (v0.mono e1) (eves_err (v0.mono e1) (eves_err (v0.mono e1) (eves_err (v0.mono e1) (eves_err (v0.mono e1) (eves_err (v0.mono e1) eves_nil)))))))) (Nat.le_of_ble_eq_true rfl) fun o2 H2 e2 g2 => ?_
    have f2 : Ex H (upd H2 l o2) := Evl.Ex.mut (e1.trans e2) hl
    refine de_cat g2 (vl _) (eves_err (v0.mono f2) (eves_err0 (eves_err (v0.mono f2) (eves_err (v0.mono f2) (eves_err (v0.mono f2) eves_nil))))) (Nat.le_of_ble_eq_true rfl) fun p H3 e3 g3 => ?_
    obtain ⟨xs, z1, z2⟩ := g3
    exact k p xs H3 (f2.trans e3) z1 z2
end
end U

set_option Elab.async false
set_option linter.all false
set_option maxRecDepth 100000
set_option maxHeartbeats 8000000
namespace U
open PySem L2
open Evl (Ex)
abbrev s_law : Stmt := top 31
abbrev sc_law_N : List Str := ["_law_script", "_law_turn", "_law_draws", "_law_odd", "_law_a", "_law_b", "_law_at", "_law_first", "_law_second", "_law_e", "_law_plain", "_law_k"]
theorem sc_law : FnScope sc_law_N ["_law_script"] (defScope s_law) := ⟨rfl, rfl, rfl, by decide +kernel, rfl, by decide +kernel, by decide +kernel⟩
section
variable {K : PySem.W.Frag} {L : List Addr} {σ : L2.St} {H : Hp} {t1 t2 te : TE} {d : PyData}
theorem ev_same {n : Nat} (h1 : EvD K L t1 σ H d) (h2 : EvD K L t2 σ H d) (hf : fits n d) : Evl.Ev (tCallD (spSame K n) (tCons t1 (tCons t2 tNil))) σ H (.bl true) := fun H1 e Q q =>
  h1 H1 e _ fun v H2 e2 hv => h2 H2 (e.trans e2) _ fun w H3 e3 hw => ⟨v, w, d, rfl, (hv.up (w_ex e3)).up w_sub, hw.up w_sub, hf, fun H4 e4 => q H4 ((e2.trans e3).trans e4)⟩
theorem eqv_self (h : SeqAt.shaped d = true) : PyData.eqv d d = true := PySem.SeqAt.eqv_refl d (SeqAt.canLay_of_shaped h)
theorem ev_eqSelf (h1 : EvD K L t1 σ H d) (h2 : EvD K L t2 σ H d) (hs : SeqAt.shaped d = true) : Evl.Ev (tOp (rEqD K) t1 t2) σ H (.bl true) := fun H1 e Q q =>
  h1 H1 e _ fun v H2 e2 hv => h2 H2 (e.trans e2) _ fun w H3 e3 hw => ⟨d, d, (hv.up (w_ex e3)).up w_sub, hw.up w_sub, hs, hs, by rw [eqv_self hs]; exact q H3 (e2.trans e3)⟩
theorem ev_neSelf (h1 : EvD K L t1 σ H d) (h2 : EvD K L t2 σ H d) (hs : SeqAt.shaped d = true) : Evl.Ev (tOp (rNeD K) t1 t2) σ H (.bl false) := fun H1 e Q q =>
  h1 H1 e _ fun v H2 e2 hv => h2 H2 (e.trans e2) _ fun w H3 e3 hw => ⟨d, d, (hv.up (w_ex e3)).up w_sub, hw.up w_sub, hs, hs, by rw [eqv_self hs]; exact q H3 (e2.trans e3)⟩
/-- a list of truth values is data wherever it stands -/
theorem dpa_bools {H : Hp} : ∀ bs : List Bool, DpAll K H (bs.map V.bl) (bs.map PyData.bool)
  | [] => .nil
  | b :: bs => .cons (.bl b) (dpa_bools bs)
theorem evd_bools {bs : List Bool} (hL : Hid L H) (h : Evl.EvL te σ H (bs.map V.bl)) : EvD K L te σ H (.list (bs.map .bool)) := fun H1 e Q q =>
  h H1 e _ fun p H2 hp e2 h2 => q (.ref p) H2 e2 (.lst (SqL.of (w_of (hid_not (hid_ex e hL) hp) h2)) (dpa_bools bs))
theorem el_rng {ta : TA} {j : Nat} {vs : List Nat} {n : Nat} {v : Nat → V} (h : Evl.EvA ta σ H [.int (n : Int)]) (hn : n ≤ 40000) (hw : ∀ x, wipe ((wipe σ vs).set j (some x)) vs = wipe σ vs)
    (he : ∀ (i : Nat) H1, Ex H H1 → i < n → Evl.Ev te ((wipe σ vs).set j (some (.int (i : Int)))) H1 (v i)) : Evl.EvL (tLc (iRng1 ta) (gName j) tYes te vs) σ H ((List.range n).map v) := fun H0 e0 Q q => h H0 e0 _ fun H1 e1 => by
  refine ⟨(n : Int), rfl, by omega, by omega, fun Dl hD => ?_⟩
  rw [Int.toNat_natCast]
  refine lc_range (lo := 0) (n := n) (Cm H1 v Dl) (cm_0 hD) (fun i H' hi p => ?_) (fun H2 p => q Dl H2 (Evl.fresh_back e1 p.1) (e1.trans p.2.1) p.2.2)
  have z0 : (0 : Int) + (i : Int) = (i : Int) := Int.zero_add _
  rw [z0]
  exact ⟨hw _, yes_lc (A := fun H3 => te ((wipe σ vs).set j (some (.int (i : Int)))) H3 fun y H4 => ∃ acc, H4 Dl = some (.lst acc) ∧ acc.length < sizeLine ∧ Cm H1 v Dl (i + 1) (upd H4 Dl (.lst (acc ++ [y])))) (B := fun H3 => Cm H1 v Dl (i + 1) H3) (cm_turn p (by omega) _ (Ex.refl _) (he i _ (e0.trans e1) hi))⟩
theorem evd_rep21 (hL : Hid L H) : EvD K L (tOp rRep (tLst (tCons (tC (.bl false)) tNil)) (tC (.int 21))) σ H (.list ((List.range 21).map fun _ => .bool false)) := fun H1 e Q q =>
  ⟨by show 1 ≤ sizeLine; decide, fun p hp => ⟨p, 21, [.bl false], rfl, rfl, upd_same, by decide, by decide, by show 1 * 21 ≤ sizeLine; decide, fun r hr =>
    q (.ref r) _ ((Ex.new hp).trans (Ex.new hr)) (.lst (SqL.of (w_new (hid_upd (hid_ex e hL)) hr)) (dpa_bools (List.replicate 21 false)))⟩⟩
end
theorem shp : ∀ i, i < 21 → SeqAt.shaped (.list ((List.range 21).map fun j => .bool (decide (j = i)))) = true := by decide +kernel
def odd : List PyData := [.none, .int 0, .int (-7), .bool true, .bool false, .str "", .str "abc", .tuple [], .tuple [.int 1, .tuple [.int 2, .str "x"]], .int (10 ^ (30 : Int).toNat), .tuple [.str "put", .str "a", .tuple [.int 0], .bool true], .tuple [.none, .bool true]]
theorem odd_fits : ∀ d ∈ odd, fits 4 d := by
  simp [odd, fits]
structure TxA (mg : Str → Option Value) : Prop extends TxB mg where
  m_range : mg "range" = none
  m_enumerate : mg "enumerate" = none
  m_ValueError : mg "ValueError" = none
def spLaw (K : PySem.W.Frag) : Sp := fun vs H Q _ => ∃ (a : Addr) (ns : List Int), vs = [.ref a] ∧ SqL K H a (ns.map V.int) ∧ ns.length ≤ 63 ∧ ∀ H', Q (.bl true) H'
theorem evd_rngB {K : PySem.W.Frag} {L : List Addr} {σ : L2.St} {H : Hp} {te : TE} {ta : TA} {j : Nat} {vs : List Nat} {n : Nat} (b : Nat → Bool) (hL : Hid L H) (h : Evl.EvA ta σ H [.int (n : Int)]) (hn : n ≤ 40000) (hw : ∀ x, wipe ((wipe σ vs).set j (some x)) vs = wipe σ vs)
    (he : ∀ (i : Nat) H1, Ex H H1 → i < n → Evl.Ev te ((wipe σ vs).set j (some (.int (i : Int)))) H1 (.bl (b i))) : EvD K L (tLc (iRng1 ta) (gName j) tYes te vs) σ H (.list ((List.range n).map fun m => .bool (b m))) := by
  have z := el_rng (v := fun m => V.bl (b m)) h hn hw he
  have em : (List.range n).map (fun m => V.bl (b m)) = ((List.range n).map b).map V.bl := by
    rw [List.map_map]
    rfl
  have em2 : (List.range n).map (fun m => PyData.bool (b m)) = ((List.range n).map b).map PyData.bool := by
    rw [List.map_map]
    rfl
  rw [em] at z
  rw [em2]
  exact evd_bools hL z
theorem dec_nat {m j : Nat} : V.bl (decide (V.int (m : Int) = V.int (j : Int))) = V.bl (decide (m = j)) := congrArg V.bl (decide_eq_decide.mpr ⟨fun h => by injection h; omega, fun h => by rw [h]⟩)
section
variable {P : Program} {w : World} {K : PySem.W.Frag} {mg : Str → Option Value} {base : Heap} {Tc : Addr} {cl : Nat → Addr}
theorem ok_law {f : Addr} {fd : FuncData} (F : Fun K "law" "law" s_law f fd) (T : TxA mg) (R : Errs P w K mg base Tc cl) (D_source : DefAt P w K mg base "_law_source" 1 ["_law_script", "_law_at"] (spSource K)) (D_pick : DefAt P w K mg base "_law_pick" 2 ["_law_draws", "_law_things"] (spPick K))
    (D_same : DefAt P w K mg base "_law_same" 6 ["_law_found", "_law_due"] (spSame K 5)) (D_all : DefAt P w K mg base "_law_all" 3 ["_law_a", "_law_b"] (spAll K)) (D_made : DefAt P w K mg base "_law_made" 3 ["_law_a"] (spMade cl)) (D_kinds : DefAt P w K mg base "_law_kinds" 1 ["_law_e"] (spKinds K cl)) :
    FnOk P w K mg base CX0 7 f fd ["_law_script"] (spLaw K) := by
  refine F.ok sc_law (fun vs H Q E h => ?_) (fun cdv A outer s H vs Q E hr h => ?_)
  · obtain ⟨_, _, rfl, _⟩ := h
    rfl
  · obtain ⟨a, ns, rfl, hS, hlen, k⟩ := h
    refine ⟨_, (pss_cons (ps_for PassesOwn.never rfl (pi_range1 (by rfl) T.m_range (pa_cons pe_int pa_nil)) (pg_name (i := 1) sc_law.nd rfl (by first | exact Or.inl rfl | exact Or.inr rfl))
      (pss_cons (ps_set (i := 2) sc_law.nd rfl (by first | exact Or.inl rfl | exact Or.inr rfl) (pe_callD D_source (by first | exact hr | exact hr.mono (by decide) | exact hr.mono (by omega)) (by rfl) (pa_cons (pv 0) (pa_cons (pv 1) pa_nil))))
      (pss_cons (ps_set (i := 3) sc_law.nd rfl (by first | exact Or.inl rfl | exact Or.inr rfl) (pe_lst (pa_cons pe_non (pa_cons pe_int (pa_cons (pe_un un_neg pe_int) (pa_cons pe_bl (pa_cons pe_bl (pa_cons pe_str (pa_cons pe_str (pa_cons (pe_tup pa_nil) (pa_cons (pe_tup (pa_cons pe_int (pa_cons (pe_tup (pa_cons pe_int (pa_cons pe_str pa_nil))) pa_nil))) (pa_cons (pe_op op_pow pe_int pe_int) (pa_cons (pe_tup (pa_cons pe_str (pa_cons pe_str (pa_cons (pe_tup (pa_cons pe_int pa_nil)) (pa_cons pe_bl pa_nil))))) (pa_cons (pe_tup (pa_cons pe_non (pa_cons pe_bl pa_nil))) pa_nil))))))))))))))
      (pss_cons (ps_par (i := 4) (j := 5) (by rfl) sc_law.nd rfl rfl (by decide) rfl rfl (pa_cons (pe_callD D_pick (by first | exact hr | exact hr.mono (by decide) | exact hr.mono (by omega)) (by rfl) (pa_cons (pv 2) (pa_cons (pv 3) pa_nil))) (pa_cons (pe_callD D_pick (by first | exact hr | exact hr.mono (by decide) | exact hr.mono (by omega)) (by rfl) (pa_cons (pv 2) (pa_cons (pv 3) pa_nil))) pa_nil)) (by rfl))
      (pss_cons (ps_for PassesOwn.never rfl (pi_list (pe_callD D_all (by first | exact hr | exact hr.mono (by decide) | exact hr.mono (by omega)) (by rfl) (pa_cons (pv 4) (pa_cons (pv 5) pa_nil)))) (pg_tup (by rfl) (pgs_cons (pg_name (i := 6) sc_law.nd rfl (by first | exact Or.inl rfl | exact Or.inr rfl)) (pgs_cons (pg_name (i := 7) sc_law.nd rfl (by first | exact Or.inl rfl | exact Or.inr rfl)) (pgs_cons (pg_name (i := 8) sc_law.nd rfl (by first | exact Or.inl rfl | exact Or.inr rfl)) pgs_nil))))
        (pss_one (ps_if (pt_not (pt_val (pe_callD D_same (by first | exact hr | exact hr.mono (by decide) | exact hr.mono (by omega)) (by rfl) (pa_cons (pe_lst (pa_cons (pv 7) (pa_cons (pv 8) pa_nil))) (pa_cons (pe_lst (pa_cons (pv 4) (pa_cons (pv 5) pa_nil))) pa_nil))))) (pss_one (ps_ret pe_bl)) pss_nil)))
      (pss_one (ps_for PassesOwn.never rfl (pi_enum (by rfl) T.m_enumerate (pa_cons (pe_callD D_made (by first | exact hr | exact hr.mono (by decide) | exact hr.mono (by omega)) (by rfl) (pa_cons (pv 4) pa_nil)) pa_nil)) (pg_tup (by rfl) (pgs_cons (pg_name (i := 6) sc_law.nd rfl (by first | exact Or.inl rfl | exact Or.inr rfl)) (pgs_cons (pg_name (i := 9) sc_law.nd rfl (by first | exact Or.inl rfl | exact Or.inr rfl)) pgs_nil)))
        (pss_cons (ps_if (PW.pt (pw_or (pt_cmpR (op_neD hr.units) (pe_callD D_kinds (by first | exact hr | exact hr.mono (by decide) | exact hr.mono (by omega)) (by rfl) (pa_cons (pv 9) pa_nil)) (pe_lc (own := [("_law_k", 11)]) (g := gName 11) (tt := tYes) (by rfl) sc_law.nd (pi_range1 (by rfl) T.m_range (pa_cons pe_int pa_nil)) (blkOk_by (N := sc_law_N) (sc := defScope s_law) (by decide +kernel)) (fun _ _ _ _ _ => (pg_name (i := 11) sc_law.nd rfl (by first | exact Or.inl rfl | exact Or.inr rfl))) (fun _ _ _ _ _ => pts_nil) (fun _ _ _ _ _ => (pe_cmpR op_eq (pv 11) (pv 6) (nomark _)))) (nomark _)) (pw_or1 (pt_not (pt_val (pe_callB call_isErr (by rfl) T.m_isinstance (by decide +kernel) (pa_cons (pv 9) (pa_cons (pe_glob (v := .ref Tc) (by rfl) R.gT rfl) pa_nil)))))))) (pss_one (ps_ret pe_bl)) pss_nil)
        (pss_one (ps_if (pt_not (pt_val (pe_callB call_isErr (by rfl) T.m_isinstance (by decide +kernel) (pa_cons (pv 9) (pa_cons (pe_bltn (v := .ty "ValueError") (by rfl) T.m_ValueError (by decide +kernel) rfl) pa_nil))))) (pss_one (ps_ret pe_bl)) pss_nil))))))))))
    (pss_cons (ps_set (i := 10) sc_law.nd rfl (by first | exact Or.inl rfl | exact Or.inr rfl) (pe_err0 PySem.F.excBase_ValueError R.xT R.gT R.kT (by rfl)))
    (pss_one (ps_ret (pe_and (pe_callB call_isErr (by rfl) T.m_isinstance (by decide +kernel) (pa_cons (pv 10) (pa_cons (pe_bltn (v := .ty "ValueError") (by rfl) T.m_ValueError (by decide +kernel) rfl) pa_nil))) (pe_one (pe_cmpR (op_eqD hr.units) (pe_callD D_kinds (by first | exact hr | exact hr.mono (by decide) | exact hr.mono (by omega)) (by rfl) (pa_cons (pv 10) pa_nil)) (pe_op op_rep (pe_lst (pa_cons pe_bl pa_nil)) pe_int) (nomark _)))))))), ?_⟩
    refine Evl.q_forR1 (n := 3) (Evl.ea_cons Evl.ev_c Evl.ea_nil) (by decide) (fun _ σ' H' => Ex H H' ∧ ∃ o1 o2 o3 o4 o5 o6 o7 o8 o9 o10 o11, σ' = [some (.ref a), o1, o2, o3, o4, o5, o6, o7, o8, o9, o10, o11]) (fun H1 e => ⟨e, _, _, _, _, _, _, _, _, _, _, _, rfl⟩) ?_ ?_
    · rintro i σ' H1 hi ⟨e1, o1, o2, o3, o4, o5, o6, o7, o8, o9, o10, o11, rfl⟩
      -- the draws
      refine ⟨_, rfl, _, rfl, a, ns, i, rfl, Evl.ex_l e1 hS, hlen, by omega, fun l o hl hd => ?_⟩
      have hl0 : H l = none := Evl.fresh_back e1 hl
      have hid : Hid [l] (upd H1 l o) := hid1 hd.ne
      have e2 : Ex H (upd H1 l o) := e1.trans (Ex.new hl)
      refine qd_asg (K := K) (L := [l]) (d := .list odd) (evd_lst hid (evds_cons evd_non (evds_cons evd_int (evds_cons (evd_evI (Evl.ev_un Evl.ev_c Evl.ru_neg)) (evds_cons evd_bl (evds_cons evd_bl (evds_cons evd_str (evds_cons evd_str (evds_cons (evd_tup hid evds_nil (by decide))
        (evds_cons (evd_tup hid (evds_cons evd_int (evds_cons (evd_tup hid (evds_cons evd_int (evds_cons evd_str evds_nil)) (by decide)) evds_nil)) (by decide)) (evds_cons (evd_evI (Evl.ev_op Evl.ev_c Evl.ev_c (Evl.rv_I ⟨by decide, by decide, by decide⟩)))
        (evds_cons (evd_tup hid (evds_cons evd_str (evds_cons evd_str (evds_cons (evd_tup hid (evds_cons evd_int evds_nil) (by decide)) (evds_cons evd_bl evds_nil)))) (by decide)) (evds_cons (evd_tup hid (evds_cons evd_non (evds_cons evd_bl evds_nil)) (by decide)) evds_nil)))))))))))) (by decide)) fun t H2 e3 ht => ?_
      have ht' := ht
      cases ht with
      | @lst tt txs _ hts hta =>
        -- two of them
        refine ⟨_, rfl, _, rfl, l, tt, odd, 0, [l], rfl, hd.ex e3, by decide, by simp, ht', by decide, by decide, fun va da o2 ma ha hd2 => ?_⟩
        refine ⟨_, rfl, _, rfl, l, tt, odd, 1, [l], rfl, hd2, by decide, by simp, (by rw [w_upd_in (by simp)]; exact ht'), by decide, by decide, fun vb db o3 mb hb hd3 => ?_⟩
        refine ⟨va, vb, rfl, ?_⟩
        have e4 : Ex H (upd (upd H2 l o2) l o3) := Evl.Ex.mut (Evl.Ex.mut (e2.trans e3) hl0) hl0
        have hb4 : Dp K (upd (upd H2 l o2) l o3) vb db := hb.up w_sub
        have ha4 : Dp K (upd (upd H2 l o2) l o3) va da := by
          have z : Dp K (W [l] (upd (upd H2 l o2) l o3)) va da := by
            rw [w_upd_in (by simp)]
            exact ha
          exact z.up w_sub
        generalize upd (upd H2 l o2) l o3 = H4 at e4 ha4 hb4 ⊢
        -- each error by place and by name
        refine ⟨_, rfl, _, rfl, va, vb, da, db, rfl, ha4, hb4, fun v5 H5 e5 hv => ?_⟩
        cases hv with
        | @lst p xs _ hps hpa =>
          refine ⟨p, rfl, ⟨_, hps⟩, for_list (K := K) (a := p) (xs := xs) (fun _ σ' H' => Ex H5 H' ∧ ∃ o6 o7 o8 o9 o10 o11, σ' = [some (.ref a), some (.int (i : Int)), some (.ref l), some (.ref tt), some va, some vb, o6, o7, o8, o9, o10, o11]) ⟨Ex.refl _, _, _, _, _, _, _, rfl⟩ (fun _ _ _ _ q => Evl.ex_l q.1 hps) ?_ ?_⟩
          · rintro j x σ' H6 hx ⟨e6, o6, o7, o8, o9, o10, o11, rfl⟩
            obtain ⟨d, hd4, hd5⟩ := dpa_get hpa hx
            rw [List.getElem?_map] at hd4
            cases hj : placesE[j]? with
            | none =>
              rw [hj] at hd4
              cases hd4
            | some jj =>
              rw [hj] at hd4
              cases hd4
              cases hd5 with
              | @tup tp ys _ hy1 hy2 =>
                cases hy2 with
                | @cons y0 _ _ _ q0 hy3 =>
                  cases hy3 with
                  | @cons y1 _ _ _ q1 hy4 =>
                    cases hy4 with
                    | @cons y2 _ _ _ q2 hy5 =>
                      cases hy5
                      refine ⟨tp, [y0, y1, y2], rfl, Evl.ex_t e6 hy1, rfl, y0, [y1, y2], rfl, y1, [y2], rfl, y2, [], rfl, rfl, ?_⟩
                      have w0 : Ex H5 (W [] H6) := by
                        rw [w_nil]
                        exact e6
                      refine Evl.s_when (b := false) (Evl.et_is (Evl.et_not (Evl.et_B (ev_same (K := K) (L := []) (d := .list [da, db]) (evd_lst hid_nil (evds_cons (evd_var rfl (q1.up w0)) (evds_cons (evd_var rfl (q2.up w0)) evds_nil)) (Nat.le_of_ble_eq_true rfl))
                        (evd_lst hid_nil (evds_cons (evd_var rfl ((ha4.up e5).up w0)) (evds_cons (evd_var rfl ((hb4.up e5).up w0)) evds_nil)) (Nat.le_of_ble_eq_true rfl)) ⟨Nat.le_of_ble_eq_true rfl, fun d hd => ?_⟩))) rfl) (fun z => by cases z) (fun _ H7 e7 => ⟨e6.trans e7, _, _, _, _, _, _, rfl⟩)
                      rcases List.mem_cons.mp hd with rfl | hd
                      · exact odd_fits _ ma
                      · rw [List.mem_singleton.mp hd]
                        exact odd_fits _ mb
          · rintro σ' H6 ⟨e6, o6, o7, o8, o9, o10, o11, rfl⟩
            -- all errors, in order
            refine ⟨_, rfl, va, rfl, fun q es H7 e7 hq hE => ⟨q, es, rfl, SqL.of hq, for_it walk_enum (fun _ σ' H' => Ex H7 H' ∧ ∃ o6 o7 o8 o9 o10 o11, σ' = [some (.ref a), some (.int (i : Int)), some (.ref l), some (.ref tt), some va, some vb, o6, o7, o8, o9, o10, o11]) ⟨Ex.refl _, _, _, _, _, _, _, rfl⟩ (fun _ _ _ _ q1 => SqL.of (q1.1 _ _ hq)) ?_ ?_⟩⟩
            · rintro j x σ' H8 H9 hj ⟨e8, o6, o7, o8, o9, o10, o11, rfl⟩ ⟨T1, u, v, rfl, hT, rfl, hu, hv⟩
              cases hu
              have hj21 : j < 21 := by
                have z := hE.len
                simp at z
                omega
              obtain ⟨ea, C, rfl, hC, hEa⟩ := hE.get hv
              have hC' : C = cl j := by
                rw [List.getElem?_map, List.getElem?_range hj21] at hC
                exact (Option.some.inj hC).symm
              subst hC'
              refine ⟨T1, [.int (j : Int), .ref ea], rfl, SqT.of upd_same, rfl, _, _, rfl, _, _, rfl, rfl, ?_⟩
              have e9 : Ex H7 (upd H8 T1 (.tup [.int (j : Int), .ref ea])) := e8.trans (Ex.new hT)
              generalize upd H8 T1 (.tup [.int (j : Int), .ref ea]) = H9 at e9 ⊢
              have hE9 := hEa.up e9
              refine Evl.q_when (b := false) (Evl.et_is (Evl.et_or (Evl.et_test (ev_neSelf (K := K) (L := []) (d := .list ((List.range 21).map fun m => .bool (decide (m = j))))
                (fun H1 e1 Q1 q1 => ⟨_, rfl, ea, cl j, fun m => decide (m = j), rfl, hE9.up e1, R.isi j hj21, fun m hm => R.kit j m hj21 hm, fun v H2 e2 hv => q1 v H2 e2 (by rw [w_nil]; exact hv)⟩)
                (evd_rngB (fun m => decide (m = j)) hid_nil (Evl.ea_cons (x := .int ((21 : Nat) : Int)) Evl.ev_c Evl.ea_nil) (by decide) (fun _ => rfl) (fun m H1 e1 hm => Evl.ev_is (Evl.ev_op (Evl.ev_var rfl) (Evl.ev_var rfl) (Evl.rv_eq rfl)) dec_nat)) (shp j hj21)))
                (fun _ => Evl.et_not (Evl.et_B (ev_isErr (K := K) (Evl.ev_var rfl) hE9 (R.isi j hj21) ⟨.own _, R.kT1 j hj21⟩)))) rfl) (fun z => by cases z) (fun _ Ha ea1 => ?_)
              exact Evl.s_when (b := false) (Evl.et_is (Evl.et_not (Evl.et_B (ev_isErr (K := K) (Evl.ev_var rfl) (hE9.up ea1) (R.isi j hj21) ⟨.ty _, R.kV j hj21⟩))) rfl) (fun z => by cases z) (fun _ Hb eb1 => ⟨(e9.trans ea1).trans eb1, _, _, _, _, _, _, rfl⟩)
            · rintro σ' H8 ⟨e8, o6, o7, o8, o9, o10, o11, rfl⟩
              exact ⟨((((e4.trans e5).trans e6).trans e7).trans e8), _, _, _, _, _, _, _, _, _, _, _, rfl⟩
    · rintro σ' H1 ⟨e1, o1, o2, o3, o4, o5, o6, o7, o8, o9, o10, o11, rfl⟩
      intro p hp
      refine Evl.s_ret (v := .bl true) (Evl.ev_is (Evl.ev_andV (a := true) (b := true) (ev_isErr (K := K) (Evl.ev_var rfl) (.inr upd_same) R.isiT ⟨.ty _, R.kVT⟩) (fun _ => ev_eqSelf (K := K) (L := []) (d := .list ((List.range 21).map fun _ => .bool false))
        (fun H2 e2 Q1 q1 => ⟨_, rfl, p, Tc, fun _ => false, rfl, ErrOf.up (.inr upd_same) e2, R.isiT, fun m hm => R.kitT m hm, fun v H3 e3 hv => q1 v H3 e3 (by rw [w_nil]; exact hv)⟩) (evd_rep21 hid_nil) (by decide +kernel))) rfl) (fun H2 e2 => k H2)
end
end U

set_option Elab.async false
set_option linter.all false
set_option maxRecDepth 100000
set_option maxHeartbeats 8000000
namespace U
open PySem L2
open Evl (Ex)
/-! ### the classes of errors -/
theorem clsIn_of {K : PySem.W.Frag} {nm q : Str} {C N : Addr} {bs bm : List Value} {hd : Bool} {sn : List Str} {sub : List Value} {ab : Bool} {col : Option Bool} {dd : Option Addr} {k0 k1 k2 k3 k5 : Option Value} {nid : String}
    (l : K.lookup C = some (excClassObj nm q C N bs bm hd sn sub ab col dd k0 k1 k2 k3 k5 nid)) : PySem.W.clsIn K C = some { name := nm, bases := bs, mro := .ref C :: bm, ns := N, qualname := q, hasDict := hd, slotNames := sn, subclasses := sub, abstract := ab, collection := col, hasDel := false } := by
  unfold PySem.W.clsIn
  rw [l]
/-- at C a class of errors whose bases' row is bm -/
def IsErr (K : PySem.W.Frag) (C : Addr) (bm : List Value) : Prop := ∃ (nm q : Str) (N : Addr) (bs : List Value) (sn : List Str) (sub : List Value) (ab : Bool) (col : Option Bool) (dd : Option Addr) (k0 k1 k2 k3 k5 : Option Value),
  K.lookup C = some (excClassObj nm q C N bs bm true sn sub ab col dd k0 k1 k2 k3 k5 "ValueError.__new__")
section
variable {K : PySem.W.Frag} {C D : Addr} {bm bm2 : List Value}
theorem IsErr.mro (h : IsErr K C bm) (c : Value) : PySem.W.mroIn K C c = some ((Value.ref C :: bm).contains c) := by
  obtain ⟨nm, q, N, bs, sn, sub, ab, col, dd, k0, k1, k2, k3, k5, l⟩ := h
  unfold PySem.W.mroIn
  rw [clsIn_of l]
  rfl
theorem IsErr.ty (h : IsErr K C bm) : PySem.W.typeIn K (.ref C) = some (.type "type") := by
  obtain ⟨nm, q, N, bs, sn, sub, ab, col, dd, k0, k1, k2, k3, k5, l⟩ := h
  show (K.lookup C).map (fun o => o.cls) = some (.type "type")
  rw [l]
  rfl
theorem IsErr.isSm (h : IsErr K C bm) : (PySem.W.clsIn K C).isSome = true := by
  obtain ⟨nm, q, N, bs, sn, sub, ab, col, dd, k0, k1, k2, k3, k5, l⟩ := h
  rw [clsIn_of l]
  rfl
theorem IsErr.dct (h : IsErr K C bm) : PySem.W.hasDictIn K C = true := by
  obtain ⟨nm, q, N, bs, sn, sub, ab, col, dd, k0, k1, k2, k3, k5, l⟩ := h
  unfold PySem.W.hasDictIn
  rw [clsIn_of l]
  rfl
theorem IsErr.kit (h : IsErr K C bm) (h2 : IsErr K D bm2) : PySem.W.kitOne K (.ref C) (.ref D) = some ((Value.ref C :: bm).contains (.ref D)) := by
  unfold PySem.W.kitOne
  by_cases e : C = D
  · subst e
    rw [if_pos (by simp)]
    simp
  · rw [if_neg (by simpa using e)]
    unfold PySem.W.kitCls
    have z : ((PySem.W.clsIn K D).isSome && PySem.W.typeIn K (.ref D) == some (.type "type")) = true := by
      rw [h2.isSm, h2.ty]
      rfl
    show (if _ then _ else _) = _
    rw [if_pos z]
    exact h.mro _
theorem IsErr.kitV (h : IsErr K C bm) : PySem.W.kitOne K (.ref C) (.type "ValueError") = some ((Value.ref C :: bm).contains (.type "ValueError")) := by
  unfold PySem.W.kitOne
  rw [if_neg (by simp)]
  unfold PySem.W.kitCls
  show (if _ then _ else _) = _
  rw [if_pos (by decide +kernel)]
  exact h.mro _
/-- what the look at the written part gives of such a class -/
structure ErrF (K : PySem.W.Frag) (C : Addr) : Prop where
  sa : PySem.W.findIn K (.ref C) "__setattr__" = some (some (.builtin "object.__setattr__"))
  ga : PySem.W.findIn K (.ref C) "__getattribute__" = some (some (.builtin "BaseException.__getattribute__"))
  gg : PySem.W.findIn K (.ref C) "__getattr__" = some none
  ha : PySem.W.findIn K (.ref C) "__class__" = some (some (.builtin "object.__class__"))
  kC : PySem.W.keepIn K (.ref C) = true
theorem isi_of (h : IsErr K C bm) (F : ErrF K C) (hv : PySem.HandSPX.refsVE bm = true) (hn : PySem.W.specialIn K (.builtin "object.__class__") "__get__" = some (some (.builtin "getset_descriptor.__get__"))) (ht : PySem.W.takesIn K (.builtin "object.__class__") = some true) : IsiC K C :=
  { cl := h.isSm, hg := F.ga, hk := F.gg, hs := (h.mro _).trans (congrArg _ ((List.contains_cons ..).trans (by rw [PySem.HandSPX.refsVE_contains _ _ hv]; exact (Bool.or_eq_true_iff.mpr (.inr (by decide +kernel)))))), ha := F.ha, hn := hn, ht := ht,
    hm := (h.mro _).trans (congrArg _ ((List.contains_cons ..).trans (by rw [PySem.HandSPX.refsVE_contains _ _ hv]; exact (Bool.or_eq_true_iff.mpr (.inr (by decide +kernel)))))) }
theorem oex_of (h : IsErr K C bm) (F : ErrF K C) (hv : PySem.HandSPX.refsVE bm = true) (Z : IsiC K C) : OexC K C := by
  obtain ⟨nm, q, N, bs, sn, sub, ab, col, dd, k0, k1, k2, k3, k5, l⟩ := id h
  exact { cls := ⟨nm, q, N, bs, bm, sn, sub, ab, col, dd, k0, k1, k2, k3, k5, l, hv⟩, sa := F.sa, exC := Z.hs, tyC := h.ty, kC := F.kC }
theorem xf_of (h : IsErr K C bm) (F : ErrF K C) (Z : IsiC K C) : XfC K C := { ga := F.ga, gg := F.gg, exC := Z.hs, hdC := h.dct }
end
abbrev s_i0 : Stmt := inClass (top 2) 0
theorem sc_i0 : FnScope ["self", "places"] ["self", "places"] (defScope s_i0) := ⟨rfl, rfl, rfl, by decide +kernel, rfl, by decide +kernel, by decide +kernel⟩
theorem ok_i0 {P : Program} {w : World} {K : PySem.W.Frag} {mg : Str → Option Value} {base : Heap} {C fI : Addr} {oc : Value} {od an : Option Addr} {sl : Array (Option Value)} {kV doc pm cdv ct : Value} (gC : mg "BadPlaces" = some (.ref C)) (T : OexC K C) (x : XfC K C)
    (no : PySem.W.findIn K (.ref C) "places" = some none) (iC : PySem.W.findIn K (.ref C) "__init__" = some (some (.ref fI))) (tI : PySem.W.typeIn K (.ref fI) = some (.type "function"))
    (l : K.lookup fI = some ⟨oc, od, .func (PySem.W.fnOf "__init__" "BadPlaces.__init__" (defArgs s_i0) (defBody s_i0) (defScope s_i0) .none kV doc pm an cdv ct), sl⟩) (c : PySem.W.codeIn K cdv "BadPlaces.__init__" = true) (kp : PySem.W.keepIn K (.ref fI) = true) : ErrC P w K mg base "BadPlaces" C "places" := by
  have F := fun_mk (st := s_i0) l c kp
  refine ⟨T, gC, x, no, fI, _, iC, tI, ?_, F.binds (ps := ["self", "places"]) (fun _ _ _ _ _ _ us hl => match us, hl with | [_, _], _ => rfl), fun s u v => .of_eq rfl⟩
  refine F.ok sc_i0 (fun vs H Q E h => ?_) (fun cdv A outer s H vs Q E hr h => ?_)
  · obtain ⟨_, _, rfl, _⟩ := h
    rfl
  · obtain ⟨a, v, rfl, ha, k⟩ := h
    exact ⟨_, pss_one (ps_ost (pv 0) (pv 1)), ⟨_, rfl, _, rfl, a, C, rfl, T, no, .inl ⟨ha, fun dx hd n => k dx hd n⟩⟩⟩
abbrev s_i1 : Stmt := inClass (top 3) 0
theorem sc_i1 : FnScope ["self", "index"] ["self", "index"] (defScope s_i1) := ⟨rfl, rfl, rfl, by decide +kernel, rfl, by decide +kernel, by decide +kernel⟩
theorem ok_i1 {P : Program} {w : World} {K : PySem.W.Frag} {mg : Str → Option Value} {base : Heap} {C fI : Addr} {oc : Value} {od an : Option Addr} {sl : Array (Option Value)} {kV doc pm cdv ct : Value} (gC : mg "BadExample" = some (.ref C)) (T : OexC K C) (x : XfC K C)
    (no : PySem.W.findIn K (.ref C) "index" = some none) (iC : PySem.W.findIn K (.ref C) "__init__" = some (some (.ref fI))) (tI : PySem.W.typeIn K (.ref fI) = some (.type "function"))
    (l : K.lookup fI = some ⟨oc, od, .func (PySem.W.fnOf "__init__" "BadExample.__init__" (defArgs s_i1) (defBody s_i1) (defScope s_i1) .none kV doc pm an cdv ct), sl⟩) (c : PySem.W.codeIn K cdv "BadExample.__init__" = true) (kp : PySem.W.keepIn K (.ref fI) = true) : ErrC P w K mg base "BadExample" C "index" := by
  have F := fun_mk (st := s_i1) l c kp
  refine ⟨T, gC, x, no, fI, _, iC, tI, ?_, F.binds (ps := ["self", "index"]) (fun _ _ _ _ _ _ us hl => match us, hl with | [_, _], _ => rfl), fun s u v => .of_eq rfl⟩
  refine F.ok sc_i1 (fun vs H Q E h => ?_) (fun cdv A outer s H vs Q E hr h => ?_)
  · obtain ⟨_, _, rfl, _⟩ := h
    rfl
  · obtain ⟨a, v, rfl, ha, k⟩ := h
    exact ⟨_, pss_one (ps_ost (pv 0) (pv 1)), ⟨_, rfl, _, rfl, a, C, rfl, T, no, .inl ⟨ha, fun dx hd n => k dx hd n⟩⟩⟩
abbrev s_i2 : Stmt := inClass (top 4) 0
theorem sc_i2 : FnScope ["self", "index"] ["self", "index"] (defScope s_i2) := ⟨rfl, rfl, rfl, by decide +kernel, rfl, by decide +kernel, by decide +kernel⟩
theorem ok_i2 {P : Program} {w : World} {K : PySem.W.Frag} {mg : Str → Option Value} {base : Heap} {C fI : Addr} {oc : Value} {od an : Option Addr} {sl : Array (Option Value)} {kV doc pm cdv ct : Value} (gC : mg "BadIndex" = some (.ref C)) (T : OexC K C) (x : XfC K C)
    (no : PySem.W.findIn K (.ref C) "index" = some none) (iC : PySem.W.findIn K (.ref C) "__init__" = some (some (.ref fI))) (tI : PySem.W.typeIn K (.ref fI) = some (.type "function"))
    (l : K.lookup fI = some ⟨oc, od, .func (PySem.W.fnOf "__init__" "BadIndex.__init__" (defArgs s_i2) (defBody s_i2) (defScope s_i2) .none kV doc pm an cdv ct), sl⟩) (c : PySem.W.codeIn K cdv "BadIndex.__init__" = true) (kp : PySem.W.keepIn K (.ref fI) = true) : ErrC P w K mg base "BadIndex" C "index" := by
  have F := fun_mk (st := s_i2) l c kp
  refine ⟨T, gC, x, no, fI, _, iC, tI, ?_, F.binds (ps := ["self", "index"]) (fun _ _ _ _ _ _ us hl => match us, hl with | [_, _], _ => rfl), fun s u v => .of_eq rfl⟩
  refine F.ok sc_i2 (fun vs H Q E h => ?_) (fun cdv A outer s H vs Q E hr h => ?_)
  · obtain ⟨_, _, rfl, _⟩ := h
    rfl
  · obtain ⟨a, v, rfl, ha, k⟩ := h
    exact ⟨_, pss_one (ps_ost (pv 0) (pv 1)), ⟨_, rfl, _, rfl, a, C, rfl, T, no, .inl ⟨ha, fun dx hd n => k dx hd n⟩⟩⟩
abbrev s_i4 : Stmt := inClass (top 6) 0
theorem sc_i4 : FnScope ["self", "most"] ["self", "most"] (defScope s_i4) := ⟨rfl, rfl, rfl, by decide +kernel, rfl, by decide +kernel, by decide +kernel⟩
theorem ok_i4 {P : Program} {w : World} {K : PySem.W.Frag} {mg : Str → Option Value} {base : Heap} {C fI : Addr} {oc : Value} {od an : Option Addr} {sl : Array (Option Value)} {kV doc pm cdv ct : Value} (gC : mg "BadMost" = some (.ref C)) (T : OexC K C) (x : XfC K C)
    (no : PySem.W.findIn K (.ref C) "most" = some none) (iC : PySem.W.findIn K (.ref C) "__init__" = some (some (.ref fI))) (tI : PySem.W.typeIn K (.ref fI) = some (.type "function"))
    (l : K.lookup fI = some ⟨oc, od, .func (PySem.W.fnOf "__init__" "BadMost.__init__" (defArgs s_i4) (defBody s_i4) (defScope s_i4) .none kV doc pm an cdv ct), sl⟩) (c : PySem.W.codeIn K cdv "BadMost.__init__" = true) (kp : PySem.W.keepIn K (.ref fI) = true) : ErrC P w K mg base "BadMost" C "most" := by
  have F := fun_mk (st := s_i4) l c kp
  refine ⟨T, gC, x, no, fI, _, iC, tI, ?_, F.binds (ps := ["self", "most"]) (fun _ _ _ _ _ _ us hl => match us, hl with | [_, _], _ => rfl), fun s u v => .of_eq rfl⟩
  refine F.ok sc_i4 (fun vs H Q E h => ?_) (fun cdv A outer s H vs Q E hr h => ?_)
  · obtain ⟨_, _, rfl, _⟩ := h
    rfl
  · obtain ⟨a, v, rfl, ha, k⟩ := h
    exact ⟨_, pss_one (ps_ost (pv 0) (pv 1)), ⟨_, rfl, _, rfl, a, C, rfl, T, no, .inl ⟨ha, fun dx hd n => k dx hd n⟩⟩⟩
abbrev s_i5 : Stmt := inClass (top 7) 0
theorem sc_i5 : FnScope ["self", "point"] ["self", "point"] (defScope s_i5) := ⟨rfl, rfl, rfl, by decide +kernel, rfl, by decide +kernel, by decide +kernel⟩
theorem ok_i5 {P : Program} {w : World} {K : PySem.W.Frag} {mg : Str → Option Value} {base : Heap} {C fI : Addr} {oc : Value} {od an : Option Addr} {sl : Array (Option Value)} {kV doc pm cdv ct : Value} (gC : mg "BadPoint" = some (.ref C)) (T : OexC K C) (x : XfC K C)
    (no : PySem.W.findIn K (.ref C) "point" = some none) (iC : PySem.W.findIn K (.ref C) "__init__" = some (some (.ref fI))) (tI : PySem.W.typeIn K (.ref fI) = some (.type "function"))
    (l : K.lookup fI = some ⟨oc, od, .func (PySem.W.fnOf "__init__" "BadPoint.__init__" (defArgs s_i5) (defBody s_i5) (defScope s_i5) .none kV doc pm an cdv ct), sl⟩) (c : PySem.W.codeIn K cdv "BadPoint.__init__" = true) (kp : PySem.W.keepIn K (.ref fI) = true) : ErrC P w K mg base "BadPoint" C "point" := by
  have F := fun_mk (st := s_i5) l c kp
  refine ⟨T, gC, x, no, fI, _, iC, tI, ?_, F.binds (ps := ["self", "point"]) (fun _ _ _ _ _ _ us hl => match us, hl with | [_, _], _ => rfl), fun s u v => .of_eq rfl⟩
  refine F.ok sc_i5 (fun vs H Q E h => ?_) (fun cdv A outer s H vs Q E hr h => ?_)
  · obtain ⟨_, _, rfl, _⟩ := h
    rfl
  · obtain ⟨a, v, rfl, ha, k⟩ := h
    exact ⟨_, pss_one (ps_ost (pv 0) (pv 1)), ⟨_, rfl, _, rfl, a, C, rfl, T, no, .inl ⟨ha, fun dx hd n => k dx hd n⟩⟩⟩
abbrev s_i6 : Stmt := inClass (top 8) 0
theorem sc_i6 : FnScope ["self", "lies"] ["self", "lies"] (defScope s_i6) := ⟨rfl, rfl, rfl, by decide +kernel, rfl, by decide +kernel, by decide +kernel⟩
theorem ok_i6 {P : Program} {w : World} {K : PySem.W.Frag} {mg : Str → Option Value} {base : Heap} {C fI : Addr} {oc : Value} {od an : Option Addr} {sl : Array (Option Value)} {kV doc pm cdv ct : Value} (gC : mg "BadLies" = some (.ref C)) (T : OexC K C) (x : XfC K C)
    (no : PySem.W.findIn K (.ref C) "lies" = some none) (iC : PySem.W.findIn K (.ref C) "__init__" = some (some (.ref fI))) (tI : PySem.W.typeIn K (.ref fI) = some (.type "function"))
    (l : K.lookup fI = some ⟨oc, od, .func (PySem.W.fnOf "__init__" "BadLies.__init__" (defArgs s_i6) (defBody s_i6) (defScope s_i6) .none kV doc pm an cdv ct), sl⟩) (c : PySem.W.codeIn K cdv "BadLies.__init__" = true) (kp : PySem.W.keepIn K (.ref fI) = true) : ErrC P w K mg base "BadLies" C "lies" := by
  have F := fun_mk (st := s_i6) l c kp
  refine ⟨T, gC, x, no, fI, _, iC, tI, ?_, F.binds (ps := ["self", "lies"]) (fun _ _ _ _ _ _ us hl => match us, hl with | [_, _], _ => rfl), fun s u v => .of_eq rfl⟩
  refine F.ok sc_i6 (fun vs H Q E h => ?_) (fun cdv A outer s H vs Q E hr h => ?_)
  · obtain ⟨_, _, rfl, _⟩ := h
    rfl
  · obtain ⟨a, v, rfl, ha, k⟩ := h
    exact ⟨_, pss_one (ps_ost (pv 0) (pv 1)), ⟨_, rfl, _, rfl, a, C, rfl, T, no, .inl ⟨ha, fun dx hd n => k dx hd n⟩⟩⟩
abbrev s_i8 : Stmt := inClass (top 10) 0
theorem sc_i8 : FnScope ["self", "step"] ["self", "step"] (defScope s_i8) := ⟨rfl, rfl, rfl, by decide +kernel, rfl, by decide +kernel, by decide +kernel⟩
theorem ok_i8 {P : Program} {w : World} {K : PySem.W.Frag} {mg : Str → Option Value} {base : Heap} {C fI : Addr} {oc : Value} {od an : Option Addr} {sl : Array (Option Value)} {kV doc pm cdv ct : Value} (gC : mg "BadStep" = some (.ref C)) (T : OexC K C) (x : XfC K C)
    (no : PySem.W.findIn K (.ref C) "step" = some none) (iC : PySem.W.findIn K (.ref C) "__init__" = some (some (.ref fI))) (tI : PySem.W.typeIn K (.ref fI) = some (.type "function"))
    (l : K.lookup fI = some ⟨oc, od, .func (PySem.W.fnOf "__init__" "BadStep.__init__" (defArgs s_i8) (defBody s_i8) (defScope s_i8) .none kV doc pm an cdv ct), sl⟩) (c : PySem.W.codeIn K cdv "BadStep.__init__" = true) (kp : PySem.W.keepIn K (.ref fI) = true) : ErrC P w K mg base "BadStep" C "step" := by
  have F := fun_mk (st := s_i8) l c kp
  refine ⟨T, gC, x, no, fI, _, iC, tI, ?_, F.binds (ps := ["self", "step"]) (fun _ _ _ _ _ _ us hl => match us, hl with | [_, _], _ => rfl), fun s u v => .of_eq rfl⟩
  refine F.ok sc_i8 (fun vs H Q E h => ?_) (fun cdv A outer s H vs Q E hr h => ?_)
  · obtain ⟨_, _, rfl, _⟩ := h
    rfl
  · obtain ⟨a, v, rfl, ha, k⟩ := h
    exact ⟨_, pss_one (ps_ost (pv 0) (pv 1)), ⟨_, rfl, _, rfl, a, C, rfl, T, no, .inl ⟨ha, fun dx hd n => k dx hd n⟩⟩⟩
abbrev s_i9 : Stmt := inClass (top 11) 0
theorem sc_i9 : FnScope ["self", "labels"] ["self", "labels"] (defScope s_i9) := ⟨rfl, rfl, rfl, by decide +kernel, rfl, by decide +kernel, by decide +kernel⟩
theorem ok_i9 {P : Program} {w : World} {K : PySem.W.Frag} {mg : Str → Option Value} {base : Heap} {C fI : Addr} {oc : Value} {od an : Option Addr} {sl : Array (Option Value)} {kV doc pm cdv ct : Value} (gC : mg "NoLabeling" = some (.ref C)) (T : OexC K C) (x : XfC K C)
    (no : PySem.W.findIn K (.ref C) "labels" = some none) (iC : PySem.W.findIn K (.ref C) "__init__" = some (some (.ref fI))) (tI : PySem.W.typeIn K (.ref fI) = some (.type "function"))
    (l : K.lookup fI = some ⟨oc, od, .func (PySem.W.fnOf "__init__" "NoLabeling.__init__" (defArgs s_i9) (defBody s_i9) (defScope s_i9) .none kV doc pm an cdv ct), sl⟩) (c : PySem.W.codeIn K cdv "NoLabeling.__init__" = true) (kp : PySem.W.keepIn K (.ref fI) = true) : ErrC P w K mg base "NoLabeling" C "labels" := by
  have F := fun_mk (st := s_i9) l c kp
  refine ⟨T, gC, x, no, fI, _, iC, tI, ?_, F.binds (ps := ["self", "labels"]) (fun _ _ _ _ _ _ us hl => match us, hl with | [_, _], _ => rfl), fun s u v => .of_eq rfl⟩
  refine F.ok sc_i9 (fun vs H Q E h => ?_) (fun cdv A outer s H vs Q E hr h => ?_)
  · obtain ⟨_, _, rfl, _⟩ := h
    rfl
  · obtain ⟨a, v, rfl, ha, k⟩ := h
    exact ⟨_, pss_one (ps_ost (pv 0) (pv 1)), ⟨_, rfl, _, rfl, a, C, rfl, T, no, .inl ⟨ha, fun dx hd n => k dx hd n⟩⟩⟩
abbrev s_i10 : Stmt := inClass (top 12) 0
theorem sc_i10 : FnScope ["self", "prices"] ["self", "prices"] (defScope s_i10) := ⟨rfl, rfl, rfl, by decide +kernel, rfl, by decide +kernel, by decide +kernel⟩
theorem ok_i10 {P : Program} {w : World} {K : PySem.W.Frag} {mg : Str → Option Value} {base : Heap} {C fI : Addr} {oc : Value} {od an : Option Addr} {sl : Array (Option Value)} {kV doc pm cdv ct : Value} (gC : mg "BadPrices" = some (.ref C)) (T : OexC K C) (x : XfC K C)
    (no : PySem.W.findIn K (.ref C) "prices" = some none) (iC : PySem.W.findIn K (.ref C) "__init__" = some (some (.ref fI))) (tI : PySem.W.typeIn K (.ref fI) = some (.type "function"))
    (l : K.lookup fI = some ⟨oc, od, .func (PySem.W.fnOf "__init__" "BadPrices.__init__" (defArgs s_i10) (defBody s_i10) (defScope s_i10) .none kV doc pm an cdv ct), sl⟩) (c : PySem.W.codeIn K cdv "BadPrices.__init__" = true) (kp : PySem.W.keepIn K (.ref fI) = true) : ErrC P w K mg base "BadPrices" C "prices" := by
  have F := fun_mk (st := s_i10) l c kp
  refine ⟨T, gC, x, no, fI, _, iC, tI, ?_, F.binds (ps := ["self", "prices"]) (fun _ _ _ _ _ _ us hl => match us, hl with | [_, _], _ => rfl), fun s u v => .of_eq rfl⟩
  refine F.ok sc_i10 (fun vs H Q E h => ?_) (fun cdv A outer s H vs Q E hr h => ?_)
  · obtain ⟨_, _, rfl, _⟩ := h
    rfl
  · obtain ⟨a, v, rfl, ha, k⟩ := h
    exact ⟨_, pss_one (ps_ost (pv 0) (pv 1)), ⟨_, rfl, _, rfl, a, C, rfl, T, no, .inl ⟨ha, fun dx hd n => k dx hd n⟩⟩⟩
abbrev s_i11 : Stmt := inClass (top 13) 0
theorem sc_i11 : FnScope ["self", "label"] ["self", "label"] (defScope s_i11) := ⟨rfl, rfl, rfl, by decide +kernel, rfl, by decide +kernel, by decide +kernel⟩
theorem ok_i11 {P : Program} {w : World} {K : PySem.W.Frag} {mg : Str → Option Value} {base : Heap} {C fI : Addr} {oc : Value} {od an : Option Addr} {sl : Array (Option Value)} {kV doc pm cdv ct : Value} (gC : mg "BadLabel" = some (.ref C)) (T : OexC K C) (x : XfC K C)
    (no : PySem.W.findIn K (.ref C) "label" = some none) (iC : PySem.W.findIn K (.ref C) "__init__" = some (some (.ref fI))) (tI : PySem.W.typeIn K (.ref fI) = some (.type "function"))
    (l : K.lookup fI = some ⟨oc, od, .func (PySem.W.fnOf "__init__" "BadLabel.__init__" (defArgs s_i11) (defBody s_i11) (defScope s_i11) .none kV doc pm an cdv ct), sl⟩) (c : PySem.W.codeIn K cdv "BadLabel.__init__" = true) (kp : PySem.W.keepIn K (.ref fI) = true) : ErrC P w K mg base "BadLabel" C "label" := by
  have F := fun_mk (st := s_i11) l c kp
  refine ⟨T, gC, x, no, fI, _, iC, tI, ?_, F.binds (ps := ["self", "label"]) (fun _ _ _ _ _ _ us hl => match us, hl with | [_, _], _ => rfl), fun s u v => .of_eq rfl⟩
  refine F.ok sc_i11 (fun vs H Q E h => ?_) (fun cdv A outer s H vs Q E hr h => ?_)
  · obtain ⟨_, _, rfl, _⟩ := h
    rfl
  · obtain ⟨a, v, rfl, ha, k⟩ := h
    exact ⟨_, pss_one (ps_ost (pv 0) (pv 1)), ⟨_, rfl, _, rfl, a, C, rfl, T, no, .inl ⟨ha, fun dx hd n => k dx hd n⟩⟩⟩
abbrev s_i12 : Stmt := inClass (top 14) 0
theorem sc_i12 : FnScope ["self", "name"] ["self", "name"] (defScope s_i12) := ⟨rfl, rfl, rfl, by decide +kernel, rfl, by decide +kernel, by decide +kernel⟩
theorem ok_i12 {P : Program} {w : World} {K : PySem.W.Frag} {mg : Str → Option Value} {base : Heap} {C fI : Addr} {oc : Value} {od an : Option Addr} {sl : Array (Option Value)} {kV doc pm cdv ct : Value} (gC : mg "BadName" = some (.ref C)) (T : OexC K C) (x : XfC K C)
    (no : PySem.W.findIn K (.ref C) "name" = some none) (iC : PySem.W.findIn K (.ref C) "__init__" = some (some (.ref fI))) (tI : PySem.W.typeIn K (.ref fI) = some (.type "function"))
    (l : K.lookup fI = some ⟨oc, od, .func (PySem.W.fnOf "__init__" "BadName.__init__" (defArgs s_i12) (defBody s_i12) (defScope s_i12) .none kV doc pm an cdv ct), sl⟩) (c : PySem.W.codeIn K cdv "BadName.__init__" = true) (kp : PySem.W.keepIn K (.ref fI) = true) : ErrC P w K mg base "BadName" C "name" := by
  have F := fun_mk (st := s_i12) l c kp
  refine ⟨T, gC, x, no, fI, _, iC, tI, ?_, F.binds (ps := ["self", "name"]) (fun _ _ _ _ _ _ us hl => match us, hl with | [_, _], _ => rfl), fun s u v => .of_eq rfl⟩
  refine F.ok sc_i12 (fun vs H Q E h => ?_) (fun cdv A outer s H vs Q E hr h => ?_)
  · obtain ⟨_, _, rfl, _⟩ := h
    rfl
  · obtain ⟨a, v, rfl, ha, k⟩ := h
    exact ⟨_, pss_one (ps_ost (pv 0) (pv 1)), ⟨_, rfl, _, rfl, a, C, rfl, T, no, .inl ⟨ha, fun dx hd n => k dx hd n⟩⟩⟩
abbrev s_i13 : Stmt := inClass (top 15) 0
theorem sc_i13 : FnScope ["self", "name"] ["self", "name"] (defScope s_i13) := ⟨rfl, rfl, rfl, by decide +kernel, rfl, by decide +kernel, by decide +kernel⟩
theorem ok_i13 {P : Program} {w : World} {K : PySem.W.Frag} {mg : Str → Option Value} {base : Heap} {C fI : Addr} {oc : Value} {od an : Option Addr} {sl : Array (Option Value)} {kV doc pm cdv ct : Value} (gC : mg "Held" = some (.ref C)) (T : OexC K C) (x : XfC K C)
    (no : PySem.W.findIn K (.ref C) "name" = some none) (iC : PySem.W.findIn K (.ref C) "__init__" = some (some (.ref fI))) (tI : PySem.W.typeIn K (.ref fI) = some (.type "function"))
    (l : K.lookup fI = some ⟨oc, od, .func (PySem.W.fnOf "__init__" "Held.__init__" (defArgs s_i13) (defBody s_i13) (defScope s_i13) .none kV doc pm an cdv ct), sl⟩) (c : PySem.W.codeIn K cdv "Held.__init__" = true) (kp : PySem.W.keepIn K (.ref fI) = true) : ErrC P w K mg base "Held" C "name" := by
  have F := fun_mk (st := s_i13) l c kp
  refine ⟨T, gC, x, no, fI, _, iC, tI, ?_, F.binds (ps := ["self", "name"]) (fun _ _ _ _ _ _ us hl => match us, hl with | [_, _], _ => rfl), fun s u v => .of_eq rfl⟩
  refine F.ok sc_i13 (fun vs H Q E h => ?_) (fun cdv A outer s H vs Q E hr h => ?_)
  · obtain ⟨_, _, rfl, _⟩ := h
    rfl
  · obtain ⟨a, v, rfl, ha, k⟩ := h
    exact ⟨_, pss_one (ps_ost (pv 0) (pv 1)), ⟨_, rfl, _, rfl, a, C, rfl, T, no, .inl ⟨ha, fun dx hd n => k dx hd n⟩⟩⟩
abbrev s_i14 : Stmt := inClass (top 16) 0
theorem sc_i14 : FnScope ["self", "name"] ["self", "name"] (defScope s_i14) := ⟨rfl, rfl, rfl, by decide +kernel, rfl, by decide +kernel, by decide +kernel⟩
theorem ok_i14 {P : Program} {w : World} {K : PySem.W.Frag} {mg : Str → Option Value} {base : Heap} {C fI : Addr} {oc : Value} {od an : Option Addr} {sl : Array (Option Value)} {kV doc pm cdv ct : Value} (gC : mg "NotHeld" = some (.ref C)) (T : OexC K C) (x : XfC K C)
    (no : PySem.W.findIn K (.ref C) "name" = some none) (iC : PySem.W.findIn K (.ref C) "__init__" = some (some (.ref fI))) (tI : PySem.W.typeIn K (.ref fI) = some (.type "function"))
    (l : K.lookup fI = some ⟨oc, od, .func (PySem.W.fnOf "__init__" "NotHeld.__init__" (defArgs s_i14) (defBody s_i14) (defScope s_i14) .none kV doc pm an cdv ct), sl⟩) (c : PySem.W.codeIn K cdv "NotHeld.__init__" = true) (kp : PySem.W.keepIn K (.ref fI) = true) : ErrC P w K mg base "NotHeld" C "name" := by
  have F := fun_mk (st := s_i14) l c kp
  refine ⟨T, gC, x, no, fI, _, iC, tI, ?_, F.binds (ps := ["self", "name"]) (fun _ _ _ _ _ _ us hl => match us, hl with | [_, _], _ => rfl), fun s u v => .of_eq rfl⟩
  refine F.ok sc_i14 (fun vs H Q E h => ?_) (fun cdv A outer s H vs Q E hr h => ?_)
  · obtain ⟨_, _, rfl, _⟩ := h
    rfl
  · obtain ⟨a, v, rfl, ha, k⟩ := h
    exact ⟨_, pss_one (ps_ost (pv 0) (pv 1)), ⟨_, rfl, _, rfl, a, C, rfl, T, no, .inl ⟨ha, fun dx hd n => k dx hd n⟩⟩⟩
abbrev s_i15 : Stmt := inClass (top 17) 0
theorem sc_i15 : FnScope ["self", "name"] ["self", "name"] (defScope s_i15) := ⟨rfl, rfl, rfl, by decide +kernel, rfl, by decide +kernel, by decide +kernel⟩
theorem ok_i15 {P : Program} {w : World} {K : PySem.W.Frag} {mg : Str → Option Value} {base : Heap} {C fI : Addr} {oc : Value} {od an : Option Addr} {sl : Array (Option Value)} {kV doc pm cdv ct : Value} (gC : mg "Watched" = some (.ref C)) (T : OexC K C) (x : XfC K C)
    (no : PySem.W.findIn K (.ref C) "name" = some none) (iC : PySem.W.findIn K (.ref C) "__init__" = some (some (.ref fI))) (tI : PySem.W.typeIn K (.ref fI) = some (.type "function"))
    (l : K.lookup fI = some ⟨oc, od, .func (PySem.W.fnOf "__init__" "Watched.__init__" (defArgs s_i15) (defBody s_i15) (defScope s_i15) .none kV doc pm an cdv ct), sl⟩) (c : PySem.W.codeIn K cdv "Watched.__init__" = true) (kp : PySem.W.keepIn K (.ref fI) = true) : ErrC P w K mg base "Watched" C "name" := by
  have F := fun_mk (st := s_i15) l c kp
  refine ⟨T, gC, x, no, fI, _, iC, tI, ?_, F.binds (ps := ["self", "name"]) (fun _ _ _ _ _ _ us hl => match us, hl with | [_, _], _ => rfl), fun s u v => .of_eq rfl⟩
  refine F.ok sc_i15 (fun vs H Q E h => ?_) (fun cdv A outer s H vs Q E hr h => ?_)
  · obtain ⟨_, _, rfl, _⟩ := h
    rfl
  · obtain ⟨a, v, rfl, ha, k⟩ := h
    exact ⟨_, pss_one (ps_ost (pv 0) (pv 1)), ⟨_, rfl, _, rfl, a, C, rfl, T, no, .inl ⟨ha, fun dx hd n => k dx hd n⟩⟩⟩
abbrev s_i16 : Stmt := inClass (top 18) 0
theorem sc_i16 : FnScope ["self", "name"] ["self", "name"] (defScope s_i16) := ⟨rfl, rfl, rfl, by decide +kernel, rfl, by decide +kernel, by decide +kernel⟩
theorem ok_i16 {P : Program} {w : World} {K : PySem.W.Frag} {mg : Str → Option Value} {base : Heap} {C fI : Addr} {oc : Value} {od an : Option Addr} {sl : Array (Option Value)} {kV doc pm cdv ct : Value} (gC : mg "NotWatched" = some (.ref C)) (T : OexC K C) (x : XfC K C)
    (no : PySem.W.findIn K (.ref C) "name" = some none) (iC : PySem.W.findIn K (.ref C) "__init__" = some (some (.ref fI))) (tI : PySem.W.typeIn K (.ref fI) = some (.type "function"))
    (l : K.lookup fI = some ⟨oc, od, .func (PySem.W.fnOf "__init__" "NotWatched.__init__" (defArgs s_i16) (defBody s_i16) (defScope s_i16) .none kV doc pm an cdv ct), sl⟩) (c : PySem.W.codeIn K cdv "NotWatched.__init__" = true) (kp : PySem.W.keepIn K (.ref fI) = true) : ErrC P w K mg base "NotWatched" C "name" := by
  have F := fun_mk (st := s_i16) l c kp
  refine ⟨T, gC, x, no, fI, _, iC, tI, ?_, F.binds (ps := ["self", "name"]) (fun _ _ _ _ _ _ us hl => match us, hl with | [_, _], _ => rfl), fun s u v => .of_eq rfl⟩
  refine F.ok sc_i16 (fun vs H Q E h => ?_) (fun cdv A outer s H vs Q E hr h => ?_)
  · obtain ⟨_, _, rfl, _⟩ := h
    rfl
  · obtain ⟨a, v, rfl, ha, k⟩ := h
    exact ⟨_, pss_one (ps_ost (pv 0) (pv 1)), ⟨_, rfl, _, rfl, a, C, rfl, T, no, .inl ⟨ha, fun dx hd n => k dx hd n⟩⟩⟩
abbrev s_i18 : Stmt := inClass (top 20) 0
theorem sc_i18 : FnScope ["self", "index"] ["self", "index"] (defScope s_i18) := ⟨rfl, rfl, rfl, by decide +kernel, rfl, by decide +kernel, by decide +kernel⟩
theorem ok_i18 {P : Program} {w : World} {K : PySem.W.Frag} {mg : Str → Option Value} {base : Heap} {C fI : Addr} {oc : Value} {od an : Option Addr} {sl : Array (Option Value)} {kV doc pm cdv ct : Value} (gC : mg "BadDeed" = some (.ref C)) (T : OexC K C) (x : XfC K C)
    (no : PySem.W.findIn K (.ref C) "index" = some none) (iC : PySem.W.findIn K (.ref C) "__init__" = some (some (.ref fI))) (tI : PySem.W.typeIn K (.ref fI) = some (.type "function"))
    (l : K.lookup fI = some ⟨oc, od, .func (PySem.W.fnOf "__init__" "BadDeed.__init__" (defArgs s_i18) (defBody s_i18) (defScope s_i18) .none kV doc pm an cdv ct), sl⟩) (c : PySem.W.codeIn K cdv "BadDeed.__init__" = true) (kp : PySem.W.keepIn K (.ref fI) = true) : ErrC P w K mg base "BadDeed" C "index" := by
  have F := fun_mk (st := s_i18) l c kp
  refine ⟨T, gC, x, no, fI, _, iC, tI, ?_, F.binds (ps := ["self", "index"]) (fun _ _ _ _ _ _ us hl => match us, hl with | [_, _], _ => rfl), fun s u v => .of_eq rfl⟩
  refine F.ok sc_i18 (fun vs H Q E h => ?_) (fun cdv A outer s H vs Q E hr h => ?_)
  · obtain ⟨_, _, rfl, _⟩ := h
    rfl
  · obtain ⟨a, v, rfl, ha, k⟩ := h
    exact ⟨_, pss_one (ps_ost (pv 0) (pv 1)), ⟨_, rfl, _, rfl, a, C, rfl, T, no, .inl ⟨ha, fun dx hd n => k dx hd n⟩⟩⟩
abbrev s_i19 : Stmt := inClass (top 21) 0
theorem sc_i19 : FnScope ["self", "index"] ["self", "index"] (defScope s_i19) := ⟨rfl, rfl, rfl, by decide +kernel, rfl, by decide +kernel, by decide +kernel⟩
theorem ok_i19 {P : Program} {w : World} {K : PySem.W.Frag} {mg : Str → Option Value} {base : Heap} {C fI : Addr} {oc : Value} {od an : Option Addr} {sl : Array (Option Value)} {kV doc pm cdv ct : Value} (gC : mg "BadText" = some (.ref C)) (T : OexC K C) (x : XfC K C)
    (no : PySem.W.findIn K (.ref C) "index" = some none) (iC : PySem.W.findIn K (.ref C) "__init__" = some (some (.ref fI))) (tI : PySem.W.typeIn K (.ref fI) = some (.type "function"))
    (l : K.lookup fI = some ⟨oc, od, .func (PySem.W.fnOf "__init__" "BadText.__init__" (defArgs s_i19) (defBody s_i19) (defScope s_i19) .none kV doc pm an cdv ct), sl⟩) (c : PySem.W.codeIn K cdv "BadText.__init__" = true) (kp : PySem.W.keepIn K (.ref fI) = true) : ErrC P w K mg base "BadText" C "index" := by
  have F := fun_mk (st := s_i19) l c kp
  refine ⟨T, gC, x, no, fI, _, iC, tI, ?_, F.binds (ps := ["self", "index"]) (fun _ _ _ _ _ _ us hl => match us, hl with | [_, _], _ => rfl), fun s u v => .of_eq rfl⟩
  refine F.ok sc_i19 (fun vs H Q E h => ?_) (fun cdv A outer s H vs Q E hr h => ?_)
  · obtain ⟨_, _, rfl, _⟩ := h
    rfl
  · obtain ⟨a, v, rfl, ha, k⟩ := h
    exact ⟨_, pss_one (ps_ost (pv 0) (pv 1)), ⟨_, rfl, _, rfl, a, C, rfl, T, no, .inl ⟨ha, fun dx hd n => k dx hd n⟩⟩⟩
abbrev s_i20 : Stmt := inClass (top 22) 0
theorem sc_i20 : FnScope ["self", "line"] ["self", "line"] (defScope s_i20) := ⟨rfl, rfl, rfl, by decide +kernel, rfl, by decide +kernel, by decide +kernel⟩
theorem ok_i20 {P : Program} {w : World} {K : PySem.W.Frag} {mg : Str → Option Value} {base : Heap} {C fI : Addr} {oc : Value} {od an : Option Addr} {sl : Array (Option Value)} {kV doc pm cdv ct : Value} (gC : mg "BadLine" = some (.ref C)) (T : OexC K C) (x : XfC K C)
    (no : PySem.W.findIn K (.ref C) "line" = some none) (iC : PySem.W.findIn K (.ref C) "__init__" = some (some (.ref fI))) (tI : PySem.W.typeIn K (.ref fI) = some (.type "function"))
    (l : K.lookup fI = some ⟨oc, od, .func (PySem.W.fnOf "__init__" "BadLine.__init__" (defArgs s_i20) (defBody s_i20) (defScope s_i20) .none kV doc pm an cdv ct), sl⟩) (c : PySem.W.codeIn K cdv "BadLine.__init__" = true) (kp : PySem.W.keepIn K (.ref fI) = true) : ErrC P w K mg base "BadLine" C "line" := by
  have F := fun_mk (st := s_i20) l c kp
  refine ⟨T, gC, x, no, fI, _, iC, tI, ?_, F.binds (ps := ["self", "line"]) (fun _ _ _ _ _ _ us hl => match us, hl with | [_, _], _ => rfl), fun s u v => .of_eq rfl⟩
  refine F.ok sc_i20 (fun vs H Q E h => ?_) (fun cdv A outer s H vs Q E hr h => ?_)
  · obtain ⟨_, _, rfl, _⟩ := h
    rfl
  · obtain ⟨a, v, rfl, ha, k⟩ := h
    exact ⟨_, pss_one (ps_ost (pv 0) (pv 1)), ⟨_, rfl, _, rfl, a, C, rfl, T, no, .inl ⟨ha, fun dx hd n => k dx hd n⟩⟩⟩
/-- the classes' addresses -/
def clOf (cs : List Addr) (i : Nat) : Addr := cs.getD i 0
theorem clOf_inj {cs : List Addr} (h : cs.Nodup) {i j : Nat} (hi : i < cs.length) (hj : j < cs.length) (e : clOf cs i = clOf cs j) : i = j := by
  unfold clOf at e
  rw [List.getD_eq_getElem?_getD, List.getD_eq_getElem?_getD, List.getElem?_eq_getElem hi, List.getElem?_eq_getElem hj] at e
  exact (List.getElem_inj h).mp e
theorem clOf_mem {cs : List Addr} {i : Nat} (hi : i < cs.length) : clOf cs i ∈ cs := by
  unfold clOf
  rw [List.getD_eq_getElem?_getD, List.getElem?_eq_getElem hi]
  exact List.getElem_mem hi
theorem cont_eq {C D T : Addr} (hT : D ≠ T) : (Value.ref C :: .ref T :: veL).contains (.ref D) = decide (D = C) := by
  by_cases e : D = C
  · subst e
    simp
  · have z : ¬ (Value.ref D = Value.ref C) := fun q => e (Value.ref.inj q)
    have z2 : ¬ (Value.ref D = Value.ref T) := fun q => hT (Value.ref.inj q)
    simp [e, hT]
theorem all_mk {l : PySem.W.OpenLaw} {w : World} {K : PySem.W.Frag} {h : Heap} {mg : Str → Option Value} {fa Tc C0 C1 C2 C3 C4 C5 C6 C7 C8 C9 C10 C11 C12 C13 C14 C15 C16 C17 C18 C19 C20 f0 f1 f2 f3 f4 f5 f6 f7 u0 u1 u2 u4 u5 u6 u8 u9 u10 u11 u12 u13 u14 u15 u16 u18 u19 u20 : Addr} {ocd0 kVd0 dcd0 pmd0 cdd0 ctd0 : Value} {odd0 and0 : Option Addr} {sld0 : Array (Option Value)} {ocd1 kVd1 dcd1 pmd1 cdd1 ctd1 : Value} {odd1 and1 : Option Addr} {sld1 : Array (Option Value)} {ocd2 kVd2 dcd2 pmd2 cdd2 ctd2 : Value} {odd2 and2 : Option Addr} {sld2 : Array (Option Value)} {ocd3 kVd3 dcd3 pmd3 cdd3 ctd3 : Value} {odd3 and3 : Option Addr} {sld3 : Array (Option Value)} {ocd4 kVd4 dcd4 pmd4 cdd4 ctd4 : Value} {odd4 and4 : Option Addr} {sld4 : Array (Option Value)} {ocd5 kVd5 dcd5 pmd5 cdd5 ctd5 : Value} {odd5 and5 : Option Addr} {sld5 : Array (Option Value)} {ocd6 kVd6 dcd6 pmd6 cdd6 ctd6 : Value} {odd6 and6 : Option Addr} {sld6 : Array (Option Value)} {ocd7 kVd7 dcd7 pmd7 cdd7 ctd7 : Value} {odd7 and7 : Option Addr} {sld7 : Array (Option Value)} {oci0 kVi0 dci0 pmi0 cdi0 cti0 : Value} {odi0 ani0 : Option Addr} {sli0 : Array (Option Value)} {oci1 kVi1 dci1 pmi1 cdi1 cti1 : Value} {odi1 ani1 : Option Addr} {sli1 : Array (Option Value)} {oci2 kVi2 dci2 pmi2 cdi2 cti2 : Value} {odi2 ani2 : Option Addr} {sli2 : Array (Option Value)} {oci4 kVi4 dci4 pmi4 cdi4 cti4 : Value} {odi4 ani4 : Option Addr} {sli4 : Array (Option Value)} {oci5 kVi5 dci5 pmi5 cdi5 cti5 : Value} {odi5 ani5 : Option Addr} {sli5 : Array (Option Value)} {oci6 kVi6 dci6 pmi6 cdi6 cti6 : Value} {odi6 ani6 : Option Addr} {sli6 : Array (Option Value)} {oci8 kVi8 dci8 pmi8 cdi8 cti8 : Value} {odi8 ani8 : Option Addr} {sli8 : Array (Option Value)} {oci9 kVi9 dci9 pmi9 cdi9 cti9 : Value} {odi9 ani9 : Option Addr} {sli9 : Array (Option Value)} {oci10 kVi10 dci10 pmi10 cdi10 cti10 : Value} {odi10 ani10 : Option Addr} {sli10 : Array (Option Value)} {oci11 kVi11 dci11 pmi11 cdi11 cti11 : Value} {odi11 ani11 : Option Addr} {sli11 : Array (Option Value)} {oci12 kVi12 dci12 pmi12 cdi12 cti12 : Value} {odi12 ani12 : Option Addr} {sli12 : Array (Option Value)} {oci13 kVi13 dci13 pmi13 cdi13 cti13 : Value} {odi13 ani13 : Option Addr} {sli13 : Array (Option Value)} {oci14 kVi14 dci14 pmi14 cdi14 cti14 : Value} {odi14 ani14 : Option Addr} {sli14 : Array (Option Value)} {oci15 kVi15 dci15 pmi15 cdi15 cti15 : Value} {odi15 ani15 : Option Addr} {sli15 : Array (Option Value)} {oci16 kVi16 dci16 pmi16 cdi16 cti16 : Value} {odi16 ani16 : Option Addr} {sli16 : Array (Option Value)} {oci18 kVi18 dci18 pmi18 cdi18 cti18 : Value} {odi18 ani18 : Option Addr} {sli18 : Array (Option Value)} {oci19 kVi19 dci19 pmi19 cdi19 cti19 : Value} {odi19 ani19 : Option Addr} {sli19 : Array (Option Value)} {oci20 kVi20 dci20 pmi20 cdi20 cti20 : Value} {odi20 ani20 : Option Addr} {sli20 : Array (Option Value)} {nmT qnT : Str} {NT : Addr} {bsT : List Value} {snT : List Str} {sbT : List Value} {abT : Bool} {coT : Option Bool} {ddT : Option Addr} {p0T p1T p2T p3T p5T : Option Value} {nm0 qn0 : Str} {N0 : Addr} {bs0 : List Value} {sn0 : List Str} {sb0 : List Value} {ab0 : Bool} {co0 : Option Bool} {dd0 : Option Addr} {p00 p10 p20 p30 p50 : Option Value} {nm1 qn1 : Str} {N1 : Addr} {bs1 : List Value} {sn1 : List Str} {sb1 : List Value} {ab1 : Bool} {co1 : Option Bool} {dd1 : Option Addr} {p01 p11 p21 p31 p51 : Option Value} {nm2 qn2 : Str} {N2 : Addr} {bs2 : List Value} {sn2 : List Str} {sb2 : List Value} {ab2 : Bool} {co2 : Option Bool} {dd2 : Option Addr} {p02 p12 p22 p32 p52 : Option Value} {nm3 qn3 : Str} {N3 : Addr} {bs3 : List Value} {sn3 : List Str} {sb3 : List Value} {ab3 : Bool} {co3 : Option Bool} {dd3 : Option Addr} {p03 p13 p23 p33 p53 : Option Value} {nm4 qn4 : Str} {N4 : Addr} {bs4 : List Value} {sn4 : List Str} {sb4 : List Value} {ab4 : Bool} {co4 : Option Bool} {dd4 : Option Addr} {p04 p14 p24 p34 p54 : Option Value} {nm5 qn5 : Str} {N5 : Addr} {bs5 : List Value} {sn5 : List Str} {sb5 : List Value} {ab5 : Bool} {co5 : Option Bool} {dd5 : Option Addr} {p05 p15 p25 p35 p55 : Option Value} {nm6 qn6 : Str} {N6 : Addr} {bs6 : List Value} {sn6 : List Str} {sb6 : List Value} {ab6 : Bool} {co6 : Option Bool} {dd6 : Option Addr} {p06 p16 p26 p36 p56 : Option Value} {nm7 qn7 : Str} {N7 : Addr} {bs7 : List Value} {sn7 : List Str} {sb7 : List Value} {ab7 : Bool} {co7 : Option Bool} {dd7 : Option Addr} {p07 p17 p27 p37 p57 : Option Value} {nm8 qn8 : Str} {N8 : Addr} {bs8 : List Value} {sn8 : List Str} {sb8 : List Value} {ab8 : Bool} {co8 : Option Bool} {dd8 : Option Addr} {p08 p18 p28 p38 p58 : Option Value} {nm9 qn9 : Str} {N9 : Addr} {bs9 : List Value} {sn9 : List Str} {sb9 : List Value} {ab9 : Bool} {co9 : Option Bool} {dd9 : Option Addr} {p09 p19 p29 p39 p59 : Option Value} {nm10 qn10 : Str} {N10 : Addr} {bs10 : List Value} {sn10 : List Str} {sb10 : List Value} {ab10 : Bool} {co10 : Option Bool} {dd10 : Option Addr} {p010 p110 p210 p310 p510 : Option Value} {nm11 qn11 : Str} {N11 : Addr} {bs11 : List Value} {sn11 : List Str} {sb11 : List Value} {ab11 : Bool} {co11 : Option Bool} {dd11 : Option Addr} {p011 p111 p211 p311 p511 : Option Value} {nm12 qn12 : Str} {N12 : Addr} {bs12 : List Value} {sn12 : List Str} {sb12 : List Value} {ab12 : Bool} {co12 : Option Bool} {dd12 : Option Addr} {p012 p112 p212 p312 p512 : Option Value} {nm13 qn13 : Str} {N13 : Addr} {bs13 : List Value} {sn13 : List Str} {sb13 : List Value} {ab13 : Bool} {co13 : Option Bool} {dd13 : Option Addr} {p013 p113 p213 p313 p513 : Option Value} {nm14 qn14 : Str} {N14 : Addr} {bs14 : List Value} {sn14 : List Str} {sb14 : List Value} {ab14 : Bool} {co14 : Option Bool} {dd14 : Option Addr} {p014 p114 p214 p314 p514 : Option Value} {nm15 qn15 : Str} {N15 : Addr} {bs15 : List Value} {sn15 : List Str} {sb15 : List Value} {ab15 : Bool} {co15 : Option Bool} {dd15 : Option Addr} {p015 p115 p215 p315 p515 : Option Value} {nm16 qn16 : Str} {N16 : Addr} {bs16 : List Value} {sn16 : List Str} {sb16 : List Value} {ab16 : Bool} {co16 : Option Bool} {dd16 : Option Addr} {p016 p116 p216 p316 p516 : Option Value} {nm17 qn17 : Str} {N17 : Addr} {bs17 : List Value} {sn17 : List Str} {sb17 : List Value} {ab17 : Bool} {co17 : Option Bool} {dd17 : Option Addr} {p017 p117 p217 p317 p517 : Option Value} {nm18 qn18 : Str} {N18 : Addr} {bs18 : List Value} {sn18 : List Str} {sb18 : List Value} {ab18 : Bool} {co18 : Option Bool} {dd18 : Option Addr} {p018 p118 p218 p318 p518 : Option Value} {nm19 qn19 : Str} {N19 : Addr} {bs19 : List Value} {sn19 : List Str} {sb19 : List Value} {ab19 : Bool} {co19 : Option Bool} {dd19 : Option Addr} {p019 p119 p219 p319 p519 : Option Value} {nm20 qn20 : Str} {N20 : Addr} {bs20 : List Value} {sn20 : List Str} {sb20 : List Value} {ab20 : Bool} {co20 : Option Bool} {dd20 : Option Addr} {p020 p120 p220 p320 p520 : Option Value} (X : K.In h) (G : h.Ns mainGlobals mg) (hfa : mg "law" = some (.ref fa))
    (aCT : PySem.W.nsIn K mainGlobals "ToldError" = some (some (.ref Tc)))
    (xLT : K.lookup Tc = some (excClassObj nmT qnT Tc NT bsT veL true snT sbT abT coT ddT p0T p1T p2T p3T p5T "ValueError.__new__"))
    (saT : PySem.W.findIn K (.ref Tc) "__setattr__" = some (some (.builtin "object.__setattr__")))
    (gaT : PySem.W.findIn K (.ref Tc) "__getattribute__" = some (some (.builtin "BaseException.__getattribute__")))
    (ggT : PySem.W.findIn K (.ref Tc) "__getattr__" = some none)
    (haT : PySem.W.findIn K (.ref Tc) "__class__" = some (some (.builtin "object.__class__")))
    (kCT : PySem.W.keepIn K (.ref Tc) = true)
    (xT : PySem.W.excIn K Tc veL "ValueError.__new__" = true)
    (aC0 : PySem.W.nsIn K mainGlobals "BadPlaces" = some (some (.ref C0)))
    (xL0 : K.lookup C0 = some (excClassObj nm0 qn0 C0 N0 bs0 (.ref Tc :: veL) true sn0 sb0 ab0 co0 dd0 p00 p10 p20 p30 p50 "ValueError.__new__"))
    (sa0 : PySem.W.findIn K (.ref C0) "__setattr__" = some (some (.builtin "object.__setattr__")))
    (ga0 : PySem.W.findIn K (.ref C0) "__getattribute__" = some (some (.builtin "BaseException.__getattribute__")))
    (gg0 : PySem.W.findIn K (.ref C0) "__getattr__" = some none)
    (ha0 : PySem.W.findIn K (.ref C0) "__class__" = some (some (.builtin "object.__class__")))
    (kC0 : PySem.W.keepIn K (.ref C0) = true)
    (nb0 : PySem.W.findIn K (.ref C0) "places" = some none)
    (ai0 : PySem.W.findIn K (.ref C0) "__init__" = some (some (.ref u0)))
    (ti0 : PySem.W.typeIn K (.ref u0) = some (.type "function"))
    (li0 : K.lookup u0 = some ⟨oci0, odi0, .func (PySem.W.fnOf "__init__" "BadPlaces.__init__" (defArgs s_i0) (defBody s_i0) (defScope s_i0) .none kVi0 dci0 pmi0 ani0 cdi0 cti0), sli0⟩)
    (ci0 : PySem.W.codeIn K cdi0 "BadPlaces.__init__" = true)
    (ki0 : PySem.W.keepIn K (.ref u0) = true)
    (aC1 : PySem.W.nsIn K mainGlobals "BadExample" = some (some (.ref C1)))
    (xL1 : K.lookup C1 = some (excClassObj nm1 qn1 C1 N1 bs1 (.ref Tc :: veL) true sn1 sb1 ab1 co1 dd1 p01 p11 p21 p31 p51 "ValueError.__new__"))
    (sa1 : PySem.W.findIn K (.ref C1) "__setattr__" = some (some (.builtin "object.__setattr__")))
    (ga1 : PySem.W.findIn K (.ref C1) "__getattribute__" = some (some (.builtin "BaseException.__getattribute__")))
    (gg1 : PySem.W.findIn K (.ref C1) "__getattr__" = some none)
    (ha1 : PySem.W.findIn K (.ref C1) "__class__" = some (some (.builtin "object.__class__")))
    (kC1 : PySem.W.keepIn K (.ref C1) = true)
    (nb1 : PySem.W.findIn K (.ref C1) "index" = some none)
    (ai1 : PySem.W.findIn K (.ref C1) "__init__" = some (some (.ref u1)))
    (ti1 : PySem.W.typeIn K (.ref u1) = some (.type "function"))
    (li1 : K.lookup u1 = some ⟨oci1, odi1, .func (PySem.W.fnOf "__init__" "BadExample.__init__" (defArgs s_i1) (defBody s_i1) (defScope s_i1) .none kVi1 dci1 pmi1 ani1 cdi1 cti1), sli1⟩)
    (ci1 : PySem.W.codeIn K cdi1 "BadExample.__init__" = true)
    (ki1 : PySem.W.keepIn K (.ref u1) = true)
    (aC2 : PySem.W.nsIn K mainGlobals "BadIndex" = some (some (.ref C2)))
    (xL2 : K.lookup C2 = some (excClassObj nm2 qn2 C2 N2 bs2 (.ref Tc :: veL) true sn2 sb2 ab2 co2 dd2 p02 p12 p22 p32 p52 "ValueError.__new__"))
    (sa2 : PySem.W.findIn K (.ref C2) "__setattr__" = some (some (.builtin "object.__setattr__")))
    (ga2 : PySem.W.findIn K (.ref C2) "__getattribute__" = some (some (.builtin "BaseException.__getattribute__")))
    (gg2 : PySem.W.findIn K (.ref C2) "__getattr__" = some none)
    (ha2 : PySem.W.findIn K (.ref C2) "__class__" = some (some (.builtin "object.__class__")))
    (kC2 : PySem.W.keepIn K (.ref C2) = true)
    (nb2 : PySem.W.findIn K (.ref C2) "index" = some none)
    (ai2 : PySem.W.findIn K (.ref C2) "__init__" = some (some (.ref u2)))
    (ti2 : PySem.W.typeIn K (.ref u2) = some (.type "function"))
    (li2 : K.lookup u2 = some ⟨oci2, odi2, .func (PySem.W.fnOf "__init__" "BadIndex.__init__" (defArgs s_i2) (defBody s_i2) (defScope s_i2) .none kVi2 dci2 pmi2 ani2 cdi2 cti2), sli2⟩)
    (ci2 : PySem.W.codeIn K cdi2 "BadIndex.__init__" = true)
    (ki2 : PySem.W.keepIn K (.ref u2) = true)
    (aC3 : PySem.W.nsIn K mainGlobals "UnlikePlaces" = some (some (.ref C3)))
    (xL3 : K.lookup C3 = some (excClassObj nm3 qn3 C3 N3 bs3 (.ref Tc :: veL) true sn3 sb3 ab3 co3 dd3 p03 p13 p23 p33 p53 "ValueError.__new__"))
    (sa3 : PySem.W.findIn K (.ref C3) "__setattr__" = some (some (.builtin "object.__setattr__")))
    (ga3 : PySem.W.findIn K (.ref C3) "__getattribute__" = some (some (.builtin "BaseException.__getattribute__")))
    (gg3 : PySem.W.findIn K (.ref C3) "__getattr__" = some none)
    (ha3 : PySem.W.findIn K (.ref C3) "__class__" = some (some (.builtin "object.__class__")))
    (kC3 : PySem.W.keepIn K (.ref C3) = true)
    (x3 : PySem.W.excIn K C3 veL "ValueError.__new__" = true)
    (aC4 : PySem.W.nsIn K mainGlobals "BadMost" = some (some (.ref C4)))
    (xL4 : K.lookup C4 = some (excClassObj nm4 qn4 C4 N4 bs4 (.ref Tc :: veL) true sn4 sb4 ab4 co4 dd4 p04 p14 p24 p34 p54 "ValueError.__new__"))
    (sa4 : PySem.W.findIn K (.ref C4) "__setattr__" = some (some (.builtin "object.__setattr__")))
    (ga4 : PySem.W.findIn K (.ref C4) "__getattribute__" = some (some (.builtin "BaseException.__getattribute__")))
    (gg4 : PySem.W.findIn K (.ref C4) "__getattr__" = some none)
    (ha4 : PySem.W.findIn K (.ref C4) "__class__" = some (some (.builtin "object.__class__")))
    (kC4 : PySem.W.keepIn K (.ref C4) = true)
    (nb4 : PySem.W.findIn K (.ref C4) "most" = some none)
    (ai4 : PySem.W.findIn K (.ref C4) "__init__" = some (some (.ref u4)))
    (ti4 : PySem.W.typeIn K (.ref u4) = some (.type "function"))
    (li4 : K.lookup u4 = some ⟨oci4, odi4, .func (PySem.W.fnOf "__init__" "BadMost.__init__" (defArgs s_i4) (defBody s_i4) (defScope s_i4) .none kVi4 dci4 pmi4 ani4 cdi4 cti4), sli4⟩)
    (ci4 : PySem.W.codeIn K cdi4 "BadMost.__init__" = true)
    (ki4 : PySem.W.keepIn K (.ref u4) = true)
    (aC5 : PySem.W.nsIn K mainGlobals "BadPoint" = some (some (.ref C5)))
    (xL5 : K.lookup C5 = some (excClassObj nm5 qn5 C5 N5 bs5 (.ref Tc :: veL) true sn5 sb5 ab5 co5 dd5 p05 p15 p25 p35 p55 "ValueError.__new__"))
    (sa5 : PySem.W.findIn K (.ref C5) "__setattr__" = some (some (.builtin "object.__setattr__")))
    (ga5 : PySem.W.findIn K (.ref C5) "__getattribute__" = some (some (.builtin "BaseException.__getattribute__")))
    (gg5 : PySem.W.findIn K (.ref C5) "__getattr__" = some none)
    (ha5 : PySem.W.findIn K (.ref C5) "__class__" = some (some (.builtin "object.__class__")))
    (kC5 : PySem.W.keepIn K (.ref C5) = true)
    (nb5 : PySem.W.findIn K (.ref C5) "point" = some none)
    (ai5 : PySem.W.findIn K (.ref C5) "__init__" = some (some (.ref u5)))
    (ti5 : PySem.W.typeIn K (.ref u5) = some (.type "function"))
    (li5 : K.lookup u5 = some ⟨oci5, odi5, .func (PySem.W.fnOf "__init__" "BadPoint.__init__" (defArgs s_i5) (defBody s_i5) (defScope s_i5) .none kVi5 dci5 pmi5 ani5 cdi5 cti5), sli5⟩)
    (ci5 : PySem.W.codeIn K cdi5 "BadPoint.__init__" = true)
    (ki5 : PySem.W.keepIn K (.ref u5) = true)
    (aC6 : PySem.W.nsIn K mainGlobals "BadLies" = some (some (.ref C6)))
    (xL6 : K.lookup C6 = some (excClassObj nm6 qn6 C6 N6 bs6 (.ref Tc :: veL) true sn6 sb6 ab6 co6 dd6 p06 p16 p26 p36 p56 "ValueError.__new__"))
    (sa6 : PySem.W.findIn K (.ref C6) "__setattr__" = some (some (.builtin "object.__setattr__")))
    (ga6 : PySem.W.findIn K (.ref C6) "__getattribute__" = some (some (.builtin "BaseException.__getattribute__")))
    (gg6 : PySem.W.findIn K (.ref C6) "__getattr__" = some none)
    (ha6 : PySem.W.findIn K (.ref C6) "__class__" = some (some (.builtin "object.__class__")))
    (kC6 : PySem.W.keepIn K (.ref C6) = true)
    (nb6 : PySem.W.findIn K (.ref C6) "lies" = some none)
    (ai6 : PySem.W.findIn K (.ref C6) "__init__" = some (some (.ref u6)))
    (ti6 : PySem.W.typeIn K (.ref u6) = some (.type "function"))
    (li6 : K.lookup u6 = some ⟨oci6, odi6, .func (PySem.W.fnOf "__init__" "BadLies.__init__" (defArgs s_i6) (defBody s_i6) (defScope s_i6) .none kVi6 dci6 pmi6 ani6 cdi6 cti6), sli6⟩)
    (ci6 : PySem.W.codeIn K cdi6 "BadLies.__init__" = true)
    (ki6 : PySem.W.keepIn K (.ref u6) = true)
    (aC7 : PySem.W.nsIn K mainGlobals "Unfit" = some (some (.ref C7)))
    (xL7 : K.lookup C7 = some (excClassObj nm7 qn7 C7 N7 bs7 (.ref Tc :: veL) true sn7 sb7 ab7 co7 dd7 p07 p17 p27 p37 p57 "ValueError.__new__"))
    (sa7 : PySem.W.findIn K (.ref C7) "__setattr__" = some (some (.builtin "object.__setattr__")))
    (ga7 : PySem.W.findIn K (.ref C7) "__getattribute__" = some (some (.builtin "BaseException.__getattribute__")))
    (gg7 : PySem.W.findIn K (.ref C7) "__getattr__" = some none)
    (ha7 : PySem.W.findIn K (.ref C7) "__class__" = some (some (.builtin "object.__class__")))
    (kC7 : PySem.W.keepIn K (.ref C7) = true)
    (x7 : PySem.W.excIn K C7 veL "ValueError.__new__" = true)
    (aC8 : PySem.W.nsIn K mainGlobals "BadStep" = some (some (.ref C8)))
    (xL8 : K.lookup C8 = some (excClassObj nm8 qn8 C8 N8 bs8 (.ref Tc :: veL) true sn8 sb8 ab8 co8 dd8 p08 p18 p28 p38 p58 "ValueError.__new__"))
    (sa8 : PySem.W.findIn K (.ref C8) "__setattr__" = some (some (.builtin "object.__setattr__")))
    (ga8 : PySem.W.findIn K (.ref C8) "__getattribute__" = some (some (.builtin "BaseException.__getattribute__")))
    (gg8 : PySem.W.findIn K (.ref C8) "__getattr__" = some none)
    (ha8 : PySem.W.findIn K (.ref C8) "__class__" = some (some (.builtin "object.__class__")))
    (kC8 : PySem.W.keepIn K (.ref C8) = true)
    (nb8 : PySem.W.findIn K (.ref C8) "step" = some none)
    (ai8 : PySem.W.findIn K (.ref C8) "__init__" = some (some (.ref u8)))
    (ti8 : PySem.W.typeIn K (.ref u8) = some (.type "function"))
    (li8 : K.lookup u8 = some ⟨oci8, odi8, .func (PySem.W.fnOf "__init__" "BadStep.__init__" (defArgs s_i8) (defBody s_i8) (defScope s_i8) .none kVi8 dci8 pmi8 ani8 cdi8 cti8), sli8⟩)
    (ci8 : PySem.W.codeIn K cdi8 "BadStep.__init__" = true)
    (ki8 : PySem.W.keepIn K (.ref u8) = true)
    (aC9 : PySem.W.nsIn K mainGlobals "NoLabeling" = some (some (.ref C9)))
    (xL9 : K.lookup C9 = some (excClassObj nm9 qn9 C9 N9 bs9 (.ref Tc :: veL) true sn9 sb9 ab9 co9 dd9 p09 p19 p29 p39 p59 "ValueError.__new__"))
    (sa9 : PySem.W.findIn K (.ref C9) "__setattr__" = some (some (.builtin "object.__setattr__")))
    (ga9 : PySem.W.findIn K (.ref C9) "__getattribute__" = some (some (.builtin "BaseException.__getattribute__")))
    (gg9 : PySem.W.findIn K (.ref C9) "__getattr__" = some none)
    (ha9 : PySem.W.findIn K (.ref C9) "__class__" = some (some (.builtin "object.__class__")))
    (kC9 : PySem.W.keepIn K (.ref C9) = true)
    (nb9 : PySem.W.findIn K (.ref C9) "labels" = some none)
    (ai9 : PySem.W.findIn K (.ref C9) "__init__" = some (some (.ref u9)))
    (ti9 : PySem.W.typeIn K (.ref u9) = some (.type "function"))
    (li9 : K.lookup u9 = some ⟨oci9, odi9, .func (PySem.W.fnOf "__init__" "NoLabeling.__init__" (defArgs s_i9) (defBody s_i9) (defScope s_i9) .none kVi9 dci9 pmi9 ani9 cdi9 cti9), sli9⟩)
    (ci9 : PySem.W.codeIn K cdi9 "NoLabeling.__init__" = true)
    (ki9 : PySem.W.keepIn K (.ref u9) = true)
    (aC10 : PySem.W.nsIn K mainGlobals "BadPrices" = some (some (.ref C10)))
    (xL10 : K.lookup C10 = some (excClassObj nm10 qn10 C10 N10 bs10 (.ref Tc :: veL) true sn10 sb10 ab10 co10 dd10 p010 p110 p210 p310 p510 "ValueError.__new__"))
    (sa10 : PySem.W.findIn K (.ref C10) "__setattr__" = some (some (.builtin "object.__setattr__")))
    (ga10 : PySem.W.findIn K (.ref C10) "__getattribute__" = some (some (.builtin "BaseException.__getattribute__")))
    (gg10 : PySem.W.findIn K (.ref C10) "__getattr__" = some none)
    (ha10 : PySem.W.findIn K (.ref C10) "__class__" = some (some (.builtin "object.__class__")))
    (kC10 : PySem.W.keepIn K (.ref C10) = true)
    (nb10 : PySem.W.findIn K (.ref C10) "prices" = some none)
    (ai10 : PySem.W.findIn K (.ref C10) "__init__" = some (some (.ref u10)))
    (ti10 : PySem.W.typeIn K (.ref u10) = some (.type "function"))
    (li10 : K.lookup u10 = some ⟨oci10, odi10, .func (PySem.W.fnOf "__init__" "BadPrices.__init__" (defArgs s_i10) (defBody s_i10) (defScope s_i10) .none kVi10 dci10 pmi10 ani10 cdi10 cti10), sli10⟩)
    (ci10 : PySem.W.codeIn K cdi10 "BadPrices.__init__" = true)
    (ki10 : PySem.W.keepIn K (.ref u10) = true)
    (aC11 : PySem.W.nsIn K mainGlobals "BadLabel" = some (some (.ref C11)))
    (xL11 : K.lookup C11 = some (excClassObj nm11 qn11 C11 N11 bs11 (.ref Tc :: veL) true sn11 sb11 ab11 co11 dd11 p011 p111 p211 p311 p511 "ValueError.__new__"))
    (sa11 : PySem.W.findIn K (.ref C11) "__setattr__" = some (some (.builtin "object.__setattr__")))
    (ga11 : PySem.W.findIn K (.ref C11) "__getattribute__" = some (some (.builtin "BaseException.__getattribute__")))
    (gg11 : PySem.W.findIn K (.ref C11) "__getattr__" = some none)
    (ha11 : PySem.W.findIn K (.ref C11) "__class__" = some (some (.builtin "object.__class__")))
    (kC11 : PySem.W.keepIn K (.ref C11) = true)
    (nb11 : PySem.W.findIn K (.ref C11) "label" = some none)
    (ai11 : PySem.W.findIn K (.ref C11) "__init__" = some (some (.ref u11)))
    (ti11 : PySem.W.typeIn K (.ref u11) = some (.type "function"))
    (li11 : K.lookup u11 = some ⟨oci11, odi11, .func (PySem.W.fnOf "__init__" "BadLabel.__init__" (defArgs s_i11) (defBody s_i11) (defScope s_i11) .none kVi11 dci11 pmi11 ani11 cdi11 cti11), sli11⟩)
    (ci11 : PySem.W.codeIn K cdi11 "BadLabel.__init__" = true)
    (ki11 : PySem.W.keepIn K (.ref u11) = true)
    (aC12 : PySem.W.nsIn K mainGlobals "BadName" = some (some (.ref C12)))
    (xL12 : K.lookup C12 = some (excClassObj nm12 qn12 C12 N12 bs12 (.ref Tc :: veL) true sn12 sb12 ab12 co12 dd12 p012 p112 p212 p312 p512 "ValueError.__new__"))
    (sa12 : PySem.W.findIn K (.ref C12) "__setattr__" = some (some (.builtin "object.__setattr__")))
    (ga12 : PySem.W.findIn K (.ref C12) "__getattribute__" = some (some (.builtin "BaseException.__getattribute__")))
    (gg12 : PySem.W.findIn K (.ref C12) "__getattr__" = some none)
    (ha12 : PySem.W.findIn K (.ref C12) "__class__" = some (some (.builtin "object.__class__")))
    (kC12 : PySem.W.keepIn K (.ref C12) = true)
    (nb12 : PySem.W.findIn K (.ref C12) "name" = some none)
    (ai12 : PySem.W.findIn K (.ref C12) "__init__" = some (some (.ref u12)))
    (ti12 : PySem.W.typeIn K (.ref u12) = some (.type "function"))
    (li12 : K.lookup u12 = some ⟨oci12, odi12, .func (PySem.W.fnOf "__init__" "BadName.__init__" (defArgs s_i12) (defBody s_i12) (defScope s_i12) .none kVi12 dci12 pmi12 ani12 cdi12 cti12), sli12⟩)
    (ci12 : PySem.W.codeIn K cdi12 "BadName.__init__" = true)
    (ki12 : PySem.W.keepIn K (.ref u12) = true)
    (aC13 : PySem.W.nsIn K mainGlobals "Held" = some (some (.ref C13)))
    (xL13 : K.lookup C13 = some (excClassObj nm13 qn13 C13 N13 bs13 (.ref Tc :: veL) true sn13 sb13 ab13 co13 dd13 p013 p113 p213 p313 p513 "ValueError.__new__"))
    (sa13 : PySem.W.findIn K (.ref C13) "__setattr__" = some (some (.builtin "object.__setattr__")))
    (ga13 : PySem.W.findIn K (.ref C13) "__getattribute__" = some (some (.builtin "BaseException.__getattribute__")))
    (gg13 : PySem.W.findIn K (.ref C13) "__getattr__" = some none)
    (ha13 : PySem.W.findIn K (.ref C13) "__class__" = some (some (.builtin "object.__class__")))
    (kC13 : PySem.W.keepIn K (.ref C13) = true)
    (nb13 : PySem.W.findIn K (.ref C13) "name" = some none)
    (ai13 : PySem.W.findIn K (.ref C13) "__init__" = some (some (.ref u13)))
    (ti13 : PySem.W.typeIn K (.ref u13) = some (.type "function"))
    (li13 : K.lookup u13 = some ⟨oci13, odi13, .func (PySem.W.fnOf "__init__" "Held.__init__" (defArgs s_i13) (defBody s_i13) (defScope s_i13) .none kVi13 dci13 pmi13 ani13 cdi13 cti13), sli13⟩)
    (ci13 : PySem.W.codeIn K cdi13 "Held.__init__" = true)
    (ki13 : PySem.W.keepIn K (.ref u13) = true)
    (aC14 : PySem.W.nsIn K mainGlobals "NotHeld" = some (some (.ref C14)))
    (xL14 : K.lookup C14 = some (excClassObj nm14 qn14 C14 N14 bs14 (.ref Tc :: veL) true sn14 sb14 ab14 co14 dd14 p014 p114 p214 p314 p514 "ValueError.__new__"))
    (sa14 : PySem.W.findIn K (.ref C14) "__setattr__" = some (some (.builtin "object.__setattr__")))
    (ga14 : PySem.W.findIn K (.ref C14) "__getattribute__" = some (some (.builtin "BaseException.__getattribute__")))
    (gg14 : PySem.W.findIn K (.ref C14) "__getattr__" = some none)
    (ha14 : PySem.W.findIn K (.ref C14) "__class__" = some (some (.builtin "object.__class__")))
    (kC14 : PySem.W.keepIn K (.ref C14) = true)
    (nb14 : PySem.W.findIn K (.ref C14) "name" = some none)
    (ai14 : PySem.W.findIn K (.ref C14) "__init__" = some (some (.ref u14)))
    (ti14 : PySem.W.typeIn K (.ref u14) = some (.type "function"))
    (li14 : K.lookup u14 = some ⟨oci14, odi14, .func (PySem.W.fnOf "__init__" "NotHeld.__init__" (defArgs s_i14) (defBody s_i14) (defScope s_i14) .none kVi14 dci14 pmi14 ani14 cdi14 cti14), sli14⟩)
    (ci14 : PySem.W.codeIn K cdi14 "NotHeld.__init__" = true)
    (ki14 : PySem.W.keepIn K (.ref u14) = true)
    (aC15 : PySem.W.nsIn K mainGlobals "Watched" = some (some (.ref C15)))
    (xL15 : K.lookup C15 = some (excClassObj nm15 qn15 C15 N15 bs15 (.ref Tc :: veL) true sn15 sb15 ab15 co15 dd15 p015 p115 p215 p315 p515 "ValueError.__new__"))
    (sa15 : PySem.W.findIn K (.ref C15) "__setattr__" = some (some (.builtin "object.__setattr__")))
    (ga15 : PySem.W.findIn K (.ref C15) "__getattribute__" = some (some (.builtin "BaseException.__getattribute__")))
    (gg15 : PySem.W.findIn K (.ref C15) "__getattr__" = some none)
    (ha15 : PySem.W.findIn K (.ref C15) "__class__" = some (some (.builtin "object.__class__")))
    (kC15 : PySem.W.keepIn K (.ref C15) = true)
    (nb15 : PySem.W.findIn K (.ref C15) "name" = some none)
    (ai15 : PySem.W.findIn K (.ref C15) "__init__" = some (some (.ref u15)))
    (ti15 : PySem.W.typeIn K (.ref u15) = some (.type "function"))
    (li15 : K.lookup u15 = some ⟨oci15, odi15, .func (PySem.W.fnOf "__init__" "Watched.__init__" (defArgs s_i15) (defBody s_i15) (defScope s_i15) .none kVi15 dci15 pmi15 ani15 cdi15 cti15), sli15⟩)
    (ci15 : PySem.W.codeIn K cdi15 "Watched.__init__" = true)
    (ki15 : PySem.W.keepIn K (.ref u15) = true)
    (aC16 : PySem.W.nsIn K mainGlobals "NotWatched" = some (some (.ref C16)))
    (xL16 : K.lookup C16 = some (excClassObj nm16 qn16 C16 N16 bs16 (.ref Tc :: veL) true sn16 sb16 ab16 co16 dd16 p016 p116 p216 p316 p516 "ValueError.__new__"))
    (sa16 : PySem.W.findIn K (.ref C16) "__setattr__" = some (some (.builtin "object.__setattr__")))
    (ga16 : PySem.W.findIn K (.ref C16) "__getattribute__" = some (some (.builtin "BaseException.__getattribute__")))
    (gg16 : PySem.W.findIn K (.ref C16) "__getattr__" = some none)
    (ha16 : PySem.W.findIn K (.ref C16) "__class__" = some (some (.builtin "object.__class__")))
    (kC16 : PySem.W.keepIn K (.ref C16) = true)
    (nb16 : PySem.W.findIn K (.ref C16) "name" = some none)
    (ai16 : PySem.W.findIn K (.ref C16) "__init__" = some (some (.ref u16)))
    (ti16 : PySem.W.typeIn K (.ref u16) = some (.type "function"))
    (li16 : K.lookup u16 = some ⟨oci16, odi16, .func (PySem.W.fnOf "__init__" "NotWatched.__init__" (defArgs s_i16) (defBody s_i16) (defScope s_i16) .none kVi16 dci16 pmi16 ani16 cdi16 cti16), sli16⟩)
    (ci16 : PySem.W.codeIn K cdi16 "NotWatched.__init__" = true)
    (ki16 : PySem.W.keepIn K (.ref u16) = true)
    (aC17 : PySem.W.nsIn K mainGlobals "NoDeed" = some (some (.ref C17)))
    (xL17 : K.lookup C17 = some (excClassObj nm17 qn17 C17 N17 bs17 (.ref Tc :: veL) true sn17 sb17 ab17 co17 dd17 p017 p117 p217 p317 p517 "ValueError.__new__"))
    (sa17 : PySem.W.findIn K (.ref C17) "__setattr__" = some (some (.builtin "object.__setattr__")))
    (ga17 : PySem.W.findIn K (.ref C17) "__getattribute__" = some (some (.builtin "BaseException.__getattribute__")))
    (gg17 : PySem.W.findIn K (.ref C17) "__getattr__" = some none)
    (ha17 : PySem.W.findIn K (.ref C17) "__class__" = some (some (.builtin "object.__class__")))
    (kC17 : PySem.W.keepIn K (.ref C17) = true)
    (x17 : PySem.W.excIn K C17 veL "ValueError.__new__" = true)
    (aC18 : PySem.W.nsIn K mainGlobals "BadDeed" = some (some (.ref C18)))
    (xL18 : K.lookup C18 = some (excClassObj nm18 qn18 C18 N18 bs18 (.ref Tc :: veL) true sn18 sb18 ab18 co18 dd18 p018 p118 p218 p318 p518 "ValueError.__new__"))
    (sa18 : PySem.W.findIn K (.ref C18) "__setattr__" = some (some (.builtin "object.__setattr__")))
    (ga18 : PySem.W.findIn K (.ref C18) "__getattribute__" = some (some (.builtin "BaseException.__getattribute__")))
    (gg18 : PySem.W.findIn K (.ref C18) "__getattr__" = some none)
    (ha18 : PySem.W.findIn K (.ref C18) "__class__" = some (some (.builtin "object.__class__")))
    (kC18 : PySem.W.keepIn K (.ref C18) = true)
    (nb18 : PySem.W.findIn K (.ref C18) "index" = some none)
    (ai18 : PySem.W.findIn K (.ref C18) "__init__" = some (some (.ref u18)))
    (ti18 : PySem.W.typeIn K (.ref u18) = some (.type "function"))
    (li18 : K.lookup u18 = some ⟨oci18, odi18, .func (PySem.W.fnOf "__init__" "BadDeed.__init__" (defArgs s_i18) (defBody s_i18) (defScope s_i18) .none kVi18 dci18 pmi18 ani18 cdi18 cti18), sli18⟩)
    (ci18 : PySem.W.codeIn K cdi18 "BadDeed.__init__" = true)
    (ki18 : PySem.W.keepIn K (.ref u18) = true)
    (aC19 : PySem.W.nsIn K mainGlobals "BadText" = some (some (.ref C19)))
    (xL19 : K.lookup C19 = some (excClassObj nm19 qn19 C19 N19 bs19 (.ref Tc :: veL) true sn19 sb19 ab19 co19 dd19 p019 p119 p219 p319 p519 "ValueError.__new__"))
    (sa19 : PySem.W.findIn K (.ref C19) "__setattr__" = some (some (.builtin "object.__setattr__")))
    (ga19 : PySem.W.findIn K (.ref C19) "__getattribute__" = some (some (.builtin "BaseException.__getattribute__")))
    (gg19 : PySem.W.findIn K (.ref C19) "__getattr__" = some none)
    (ha19 : PySem.W.findIn K (.ref C19) "__class__" = some (some (.builtin "object.__class__")))
    (kC19 : PySem.W.keepIn K (.ref C19) = true)
    (nb19 : PySem.W.findIn K (.ref C19) "index" = some none)
    (ai19 : PySem.W.findIn K (.ref C19) "__init__" = some (some (.ref u19)))
    (ti19 : PySem.W.typeIn K (.ref u19) = some (.type "function"))
    (li19 : K.lookup u19 = some ⟨oci19, odi19, .func (PySem.W.fnOf "__init__" "BadText.__init__" (defArgs s_i19) (defBody s_i19) (defScope s_i19) .none kVi19 dci19 pmi19 ani19 cdi19 cti19), sli19⟩)
    (ci19 : PySem.W.codeIn K cdi19 "BadText.__init__" = true)
    (ki19 : PySem.W.keepIn K (.ref u19) = true)
    (aC20 : PySem.W.nsIn K mainGlobals "BadLine" = some (some (.ref C20)))
    (xL20 : K.lookup C20 = some (excClassObj nm20 qn20 C20 N20 bs20 (.ref Tc :: veL) true sn20 sb20 ab20 co20 dd20 p020 p120 p220 p320 p520 "ValueError.__new__"))
    (sa20 : PySem.W.findIn K (.ref C20) "__setattr__" = some (some (.builtin "object.__setattr__")))
    (ga20 : PySem.W.findIn K (.ref C20) "__getattribute__" = some (some (.builtin "BaseException.__getattribute__")))
    (gg20 : PySem.W.findIn K (.ref C20) "__getattr__" = some none)
    (ha20 : PySem.W.findIn K (.ref C20) "__class__" = some (some (.builtin "object.__class__")))
    (kC20 : PySem.W.keepIn K (.ref C20) = true)
    (nb20 : PySem.W.findIn K (.ref C20) "line" = some none)
    (ai20 : PySem.W.findIn K (.ref C20) "__init__" = some (some (.ref u20)))
    (ti20 : PySem.W.typeIn K (.ref u20) = some (.type "function"))
    (li20 : K.lookup u20 = some ⟨oci20, odi20, .func (PySem.W.fnOf "__init__" "BadLine.__init__" (defArgs s_i20) (defBody s_i20) (defScope s_i20) .none kVi20 dci20 pmi20 ani20 cdi20 cti20), sli20⟩)
    (ci20 : PySem.W.codeIn K cdi20 "BadLine.__init__" = true)
    (ki20 : PySem.W.keepIn K (.ref u20) = true)
    (ad0 : PySem.W.nsIn K mainGlobals "_law_source" = some (some (.ref f0)))
    (ld0 : K.lookup f0 = some ⟨ocd0, odd0, .func (PySem.W.fnOf "_law_source" "_law_source" (defArgs s_source) (defBody s_source) (defScope s_source) .none kVd0 dcd0 pmd0 and0 cdd0 ctd0), sld0⟩)
    (cd0 : PySem.W.codeIn K cdd0 "_law_source" = true)
    (kd0 : PySem.W.keepIn K (.ref f0) = true)
    (ad1 : PySem.W.nsIn K mainGlobals "_law_draw" = some (some (.ref f1)))
    (ld1 : K.lookup f1 = some ⟨ocd1, odd1, .func (PySem.W.fnOf "_law_draw" "_law_draw" (defArgs s_draw) (defBody s_draw) (defScope s_draw) .none kVd1 dcd1 pmd1 and1 cdd1 ctd1), sld1⟩)
    (cd1 : PySem.W.codeIn K cdd1 "_law_draw" = true)
    (kd1 : PySem.W.keepIn K (.ref f1) = true)
    (ad2 : PySem.W.nsIn K mainGlobals "_law_pick" = some (some (.ref f2)))
    (ld2 : K.lookup f2 = some ⟨ocd2, odd2, .func (PySem.W.fnOf "_law_pick" "_law_pick" (defArgs s_pick) (defBody s_pick) (defScope s_pick) .none kVd2 dcd2 pmd2 and2 cdd2 ctd2), sld2⟩)
    (cd2 : PySem.W.codeIn K cdd2 "_law_pick" = true)
    (kd2 : PySem.W.keepIn K (.ref f2) = true)
    (ad3 : PySem.W.nsIn K mainGlobals "_law_same" = some (some (.ref f3)))
    (ld3 : K.lookup f3 = some ⟨ocd3, odd3, .func (PySem.W.fnOf "_law_same" "_law_same" (defArgs s_same) (defBody s_same) (defScope s_same) .none kVd3 dcd3 pmd3 and3 cdd3 ctd3), sld3⟩)
    (cd3 : PySem.W.codeIn K cdd3 "_law_same" = true)
    (kd3 : PySem.W.keepIn K (.ref f3) = true)
    (ad4 : PySem.W.nsIn K mainGlobals "_law_kinds" = some (some (.ref f4)))
    (ld4 : K.lookup f4 = some ⟨ocd4, odd4, .func (PySem.W.fnOf "_law_kinds" "_law_kinds" (defArgs s_kinds) (defBody s_kinds) (defScope s_kinds) .none kVd4 dcd4 pmd4 and4 cdd4 ctd4), sld4⟩)
    (cd4 : PySem.W.codeIn K cdd4 "_law_kinds" = true)
    (kd4 : PySem.W.keepIn K (.ref f4) = true)
    (ad5 : PySem.W.nsIn K mainGlobals "_law_all" = some (some (.ref f5)))
    (ld5 : K.lookup f5 = some ⟨ocd5, odd5, .func (PySem.W.fnOf "_law_all" "_law_all" (defArgs s_all) (defBody s_all) (defScope s_all) .none kVd5 dcd5 pmd5 and5 cdd5 ctd5), sld5⟩)
    (cd5 : PySem.W.codeIn K cdd5 "_law_all" = true)
    (kd5 : PySem.W.keepIn K (.ref f5) = true)
    (ad6 : PySem.W.nsIn K mainGlobals "_law_made" = some (some (.ref f6)))
    (ld6 : K.lookup f6 = some ⟨ocd6, odd6, .func (PySem.W.fnOf "_law_made" "_law_made" (defArgs s_made) (defBody s_made) (defScope s_made) .none kVd6 dcd6 pmd6 and6 cdd6 ctd6), sld6⟩)
    (cd6 : PySem.W.codeIn K cdd6 "_law_made" = true)
    (kd6 : PySem.W.keepIn K (.ref f6) = true)
    (ad7 : PySem.W.nsIn K mainGlobals "law" = some (some (.ref f7)))
    (ld7 : K.lookup f7 = some ⟨ocd7, odd7, .func (PySem.W.fnOf "law" "law" (defArgs s_law) (defBody s_law) (defScope s_law) .none kVd7 dcd7 pmd7 and7 cdd7 ctd7), sld7⟩)
    (cd7 : PySem.W.codeIn K cdd7 "law" = true)
    (kd7 : PySem.W.keepIn K (.ref f7) = true)
    (z_len : PySem.W.nsIn K mainGlobals "len" = some none)
    (z_int : PySem.W.nsIn K mainGlobals "int" = some none)
    (z_isinstance : PySem.W.nsIn K mainGlobals "isinstance" = some none)
    (z_list : PySem.W.nsIn K mainGlobals "list" = some none)
    (z_tuple : PySem.W.nsIn K mainGlobals "tuple" = some none)
    (z_bool : PySem.W.nsIn K mainGlobals "bool" = some none)
    (z_all : PySem.W.nsIn K mainGlobals "all" = some none)
    (z_zip : PySem.W.nsIn K mainGlobals "zip" = some none)
    (z_range : PySem.W.nsIn K mainGlobals "range" = some none)
    (z_enumerate : PySem.W.nsIn K mainGlobals "enumerate" = some none)
    (z_ValueError : PySem.W.nsIn K mainGlobals "ValueError" = some none)
    (hn : PySem.W.specialIn K (.builtin "object.__class__") "__get__" = some (some (.builtin "getset_descriptor.__get__")))
    (ht : PySem.W.takesIn K (.builtin "object.__class__") = some true)
    (nd : (Tc :: [C0, C1, C2, C3, C4, C5, C6, C7, C8, C9, C10, C11, C12, C13, C14, C15, C16, C17, C18, C19, C20]).Nodup) :
    ∃ fd : FuncData, (∀ (s : Shared) (v : Value), BindsTo s fd ⟨[v], []⟩ [("_law_script", v)]) ∧ ∀ base : Heap, K.In base → base.Ns mainGlobals mg → FnOk l.prog w K mg base CX0 7 fa fd ["_law_script"] (spLaw K) := by
  have e := hfa.symm.trans (PySem.W.mg_of X G ad7)
  cases e
  have T : TxA mg := { m_len := PySem.W.mg_none_of X G z_len, m_int := PySem.W.mg_none_of X G z_int, m_isinstance := PySem.W.mg_none_of X G z_isinstance, m_list := PySem.W.mg_none_of X G z_list, m_tuple := PySem.W.mg_none_of X G z_tuple, m_bool := PySem.W.mg_none_of X G z_bool, m_all := PySem.W.mg_none_of X G z_all, m_zip := PySem.W.mg_none_of X G z_zip, m_range := PySem.W.mg_none_of X G z_range, m_enumerate := PySem.W.mg_none_of X G z_enumerate, m_ValueError := PySem.W.mg_none_of X G z_ValueError }
  have ET : IsErr K Tc veL := ⟨_, _, _, _, _, _, _, _, _, _, _, _, _, _, xLT⟩
  have FT : ErrF K Tc := ⟨saT, gaT, ggT, haT, kCT⟩
  have ZT : IsiC K Tc := isi_of ET FT rfl hn ht
  have E0 : IsErr K C0 (.ref Tc :: veL) := ⟨_, _, _, _, _, _, _, _, _, _, _, _, _, _, xL0⟩
  have F0 : ErrF K C0 := ⟨sa0, ga0, gg0, ha0, kC0⟩
  have Z0 : IsiC K C0 := isi_of E0 F0 rfl hn ht
  have E1 : IsErr K C1 (.ref Tc :: veL) := ⟨_, _, _, _, _, _, _, _, _, _, _, _, _, _, xL1⟩
  have F1 : ErrF K C1 := ⟨sa1, ga1, gg1, ha1, kC1⟩
  have Z1 : IsiC K C1 := isi_of E1 F1 rfl hn ht
  have E2 : IsErr K C2 (.ref Tc :: veL) := ⟨_, _, _, _, _, _, _, _, _, _, _, _, _, _, xL2⟩
  have F2 : ErrF K C2 := ⟨sa2, ga2, gg2, ha2, kC2⟩
  have Z2 : IsiC K C2 := isi_of E2 F2 rfl hn ht
  have E3 : IsErr K C3 (.ref Tc :: veL) := ⟨_, _, _, _, _, _, _, _, _, _, _, _, _, _, xL3⟩
  have F3 : ErrF K C3 := ⟨sa3, ga3, gg3, ha3, kC3⟩
  have Z3 : IsiC K C3 := isi_of E3 F3 rfl hn ht
  have E4 : IsErr K C4 (.ref Tc :: veL) := ⟨_, _, _, _, _, _, _, _, _, _, _, _, _, _, xL4⟩
  have F4 : ErrF K C4 := ⟨sa4, ga4, gg4, ha4, kC4⟩
  have Z4 : IsiC K C4 := isi_of E4 F4 rfl hn ht
  have E5 : IsErr K C5 (.ref Tc :: veL) := ⟨_, _, _, _, _, _, _, _, _, _, _, _, _, _, xL5⟩
  have F5 : ErrF K C5 := ⟨sa5, ga5, gg5, ha5, kC5⟩
  have Z5 : IsiC K C5 := isi_of E5 F5 rfl hn ht
  have E6 : IsErr K C6 (.ref Tc :: veL) := ⟨_, _, _, _, _, _, _, _, _, _, _, _, _, _, xL6⟩
  have F6 : ErrF K C6 := ⟨sa6, ga6, gg6, ha6, kC6⟩
  have Z6 : IsiC K C6 := isi_of E6 F6 rfl hn ht
  have E7 : IsErr K C7 (.ref Tc :: veL) := ⟨_, _, _, _, _, _, _, _, _, _, _, _, _, _, xL7⟩
  have F7 : ErrF K C7 := ⟨sa7, ga7, gg7, ha7, kC7⟩
  have Z7 : IsiC K C7 := isi_of E7 F7 rfl hn ht
  have E8 : IsErr K C8 (.ref Tc :: veL) := ⟨_, _, _, _, _, _, _, _, _, _, _, _, _, _, xL8⟩
  have F8 : ErrF K C8 := ⟨sa8, ga8, gg8, ha8, kC8⟩
  have Z8 : IsiC K C8 := isi_of E8 F8 rfl hn ht
  have E9 : IsErr K C9 (.ref Tc :: veL) := ⟨_, _, _, _, _, _, _, _, _, _, _, _, _, _, xL9⟩
  have F9 : ErrF K C9 := ⟨sa9, ga9, gg9, ha9, kC9⟩
  have Z9 : IsiC K C9 := isi_of E9 F9 rfl hn ht
  have E10 : IsErr K C10 (.ref Tc :: veL) := ⟨_, _, _, _, _, _, _, _, _, _, _, _, _, _, xL10⟩
  have F10 : ErrF K C10 := ⟨sa10, ga10, gg10, ha10, kC10⟩
  have Z10 : IsiC K C10 := isi_of E10 F10 rfl hn ht
  have E11 : IsErr K C11 (.ref Tc :: veL) := ⟨_, _, _, _, _, _, _, _, _, _, _, _, _, _, xL11⟩
  have F11 : ErrF K C11 := ⟨sa11, ga11, gg11, ha11, kC11⟩
  have Z11 : IsiC K C11 := isi_of E11 F11 rfl hn ht
  have E12 : IsErr K C12 (.ref Tc :: veL) := ⟨_, _, _, _, _, _, _, _, _, _, _, _, _, _, xL12⟩
  have F12 : ErrF K C12 := ⟨sa12, ga12, gg12, ha12, kC12⟩
  have Z12 : IsiC K C12 := isi_of E12 F12 rfl hn ht
  have E13 : IsErr K C13 (.ref Tc :: veL) := ⟨_, _, _, _, _, _, _, _, _, _, _, _, _, _, xL13⟩
  have F13 : ErrF K C13 := ⟨sa13, ga13, gg13, ha13, kC13⟩
  have Z13 : IsiC K C13 := isi_of E13 F13 rfl hn ht
  have E14 : IsErr K C14 (.ref Tc :: veL) := ⟨_, _, _, _, _, _, _, _, _, _, _, _, _, _, xL14⟩
  have F14 : ErrF K C14 := ⟨sa14, ga14, gg14, ha14, kC14⟩
  have Z14 : IsiC K C14 := isi_of E14 F14 rfl hn ht
  have E15 : IsErr K C15 (.ref Tc :: veL) := ⟨_, _, _, _, _, _, _, _, _, _, _, _, _, _, xL15⟩
  have F15 : ErrF K C15 := ⟨sa15, ga15, gg15, ha15, kC15⟩
  have Z15 : IsiC K C15 := isi_of E15 F15 rfl hn ht
  have E16 : IsErr K C16 (.ref Tc :: veL) := ⟨_, _, _, _, _, _, _, _, _, _, _, _, _, _, xL16⟩
  have F16 : ErrF K C16 := ⟨sa16, ga16, gg16, ha16, kC16⟩
  have Z16 : IsiC K C16 := isi_of E16 F16 rfl hn ht
  have E17 : IsErr K C17 (.ref Tc :: veL) := ⟨_, _, _, _, _, _, _, _, _, _, _, _, _, _, xL17⟩
  have F17 : ErrF K C17 := ⟨sa17, ga17, gg17, ha17, kC17⟩
  have Z17 : IsiC K C17 := isi_of E17 F17 rfl hn ht
  have E18 : IsErr K C18 (.ref Tc :: veL) := ⟨_, _, _, _, _, _, _, _, _, _, _, _, _, _, xL18⟩
  have F18 : ErrF K C18 := ⟨sa18, ga18, gg18, ha18, kC18⟩
  have Z18 : IsiC K C18 := isi_of E18 F18 rfl hn ht
  have E19 : IsErr K C19 (.ref Tc :: veL) := ⟨_, _, _, _, _, _, _, _, _, _, _, _, _, _, xL19⟩
  have F19 : ErrF K C19 := ⟨sa19, ga19, gg19, ha19, kC19⟩
  have Z19 : IsiC K C19 := isi_of E19 F19 rfl hn ht
  have E20 : IsErr K C20 (.ref Tc :: veL) := ⟨_, _, _, _, _, _, _, _, _, _, _, _, _, _, xL20⟩
  have F20 : ErrF K C20 := ⟨sa20, ga20, gg20, ha20, kC20⟩
  have Z20 : IsiC K C20 := isi_of E20 F20 rfl hn ht
  have lk : ∀ i, i < 21 → IsErr K (clOf [C0, C1, C2, C3, C4, C5, C6, C7, C8, C9, C10, C11, C12, C13, C14, C15, C16, C17, C18, C19, C20] i) (.ref Tc :: veL) := fun i hi => match i, hi with
    | 0, _ => E0
    | 1, _ => E1
    | 2, _ => E2
    | 3, _ => E3
    | 4, _ => E4
    | 5, _ => E5
    | 6, _ => E6
    | 7, _ => E7
    | 8, _ => E8
    | 9, _ => E9
    | 10, _ => E10
    | 11, _ => E11
    | 12, _ => E12
    | 13, _ => E13
    | 14, _ => E14
    | 15, _ => E15
    | 16, _ => E16
    | 17, _ => E17
    | 18, _ => E18
    | 19, _ => E19
    | 20, _ => E20
    | m + 21, q => absurd q (by omega)
  have zi : ∀ i, i < 21 → IsiC K (clOf [C0, C1, C2, C3, C4, C5, C6, C7, C8, C9, C10, C11, C12, C13, C14, C15, C16, C17, C18, C19, C20] i) := fun i hi => match i, hi with
    | 0, _ => Z0
    | 1, _ => Z1
    | 2, _ => Z2
    | 3, _ => Z3
    | 4, _ => Z4
    | 5, _ => Z5
    | 6, _ => Z6
    | 7, _ => Z7
    | 8, _ => Z8
    | 9, _ => Z9
    | 10, _ => Z10
    | 11, _ => Z11
    | 12, _ => Z12
    | 13, _ => Z13
    | 14, _ => Z14
    | 15, _ => Z15
    | 16, _ => Z16
    | 17, _ => Z17
    | 18, _ => Z18
    | 19, _ => Z19
    | 20, _ => Z20
    | m + 21, q => absurd q (by omega)
  have nc := List.nodup_cons.mp nd
  have neT : ∀ i, i < 21 → clOf [C0, C1, C2, C3, C4, C5, C6, C7, C8, C9, C10, C11, C12, C13, C14, C15, C16, C17, C18, C19, C20] i ≠ Tc := fun i hi q => nc.1 (by rw [← q]; exact clOf_mem (cs := [C0, C1, C2, C3, C4, C5, C6, C7, C8, C9, C10, C11, C12, C13, C14, C15, C16, C17, C18, C19, C20]) hi)
  have r1 : ∀ i j, i < 21 → j < 21 → PySem.W.kitOne K (.ref (clOf [C0, C1, C2, C3, C4, C5, C6, C7, C8, C9, C10, C11, C12, C13, C14, C15, C16, C17, C18, C19, C20] i)) (.ref (clOf [C0, C1, C2, C3, C4, C5, C6, C7, C8, C9, C10, C11, C12, C13, C14, C15, C16, C17, C18, C19, C20] j)) = some (decide (j = i)) := fun i j hi hj => by
    have q1 : decide (clOf [C0, C1, C2, C3, C4, C5, C6, C7, C8, C9, C10, C11, C12, C13, C14, C15, C16, C17, C18, C19, C20] j = clOf [C0, C1, C2, C3, C4, C5, C6, C7, C8, C9, C10, C11, C12, C13, C14, C15, C16, C17, C18, C19, C20] i) = decide (j = i) := decide_eq_decide.mpr ⟨fun q => clOf_inj nc.2 hj hi q, fun q => congrArg _ q⟩
    rw [(lk i hi).kit (lk j hj), cont_eq (neT j hj), q1]
  have r2 : ∀ j, j < 21 → PySem.W.kitOne K (.ref Tc) (.ref (clOf [C0, C1, C2, C3, C4, C5, C6, C7, C8, C9, C10, C11, C12, C13, C14, C15, C16, C17, C18, C19, C20] j)) = some false := fun j hj => by
    have q := neT j hj
    rw [ET.kit (lk j hj)]
    exact congrArg some (by simp [q])
  have r3 : ∀ i, i < 21 → PySem.W.kitOne K (.ref (clOf [C0, C1, C2, C3, C4, C5, C6, C7, C8, C9, C10, C11, C12, C13, C14, C15, C16, C17, C18, C19, C20] i)) (.ref Tc) = some true := fun i hi => by
    rw [(lk i hi).kit ET]
    exact congrArg some (by simp)
  have r4 : ∀ i, i < 21 → PySem.W.kitOne K (.ref (clOf [C0, C1, C2, C3, C4, C5, C6, C7, C8, C9, C10, C11, C12, C13, C14, C15, C16, C17, C18, C19, C20] i)) (.type "ValueError") = some true := fun i hi => by
    rw [(lk i hi).kitV]
    exact congrArg some (by simp)
  have r5 : PySem.W.kitOne K (.ref Tc) (.type "ValueError") = some true := by
    rw [ET.kitV]
    exact congrArg some (by simp)
  have R : ∀ base : Heap, Errs l.prog w K mg base Tc (clOf [C0, C1, C2, C3, C4, C5, C6, C7, C8, C9, C10, C11, C12, C13, C14, C15, C16, C17, C18, C19, C20]) := fun base => {
    kit := r1, kitT := r2, kT1 := r3, kV := r4, kVT := r5, isi := zi, isiT := ZT, gT := PySem.W.mg_of X G aCT, xT := xT, kT := kCT,
    e0 := ok_i0 (PySem.W.mg_of X G aC0) (oex_of E0 F0 rfl Z0) (xf_of E0 F0 Z0) nb0 ai0 ti0 li0 ci0 ki0,
    e1 := ok_i1 (PySem.W.mg_of X G aC1) (oex_of E1 F1 rfl Z1) (xf_of E1 F1 Z1) nb1 ai1 ti1 li1 ci1 ki1,
    e2 := ok_i2 (PySem.W.mg_of X G aC2) (oex_of E2 F2 rfl Z2) (xf_of E2 F2 Z2) nb2 ai2 ti2 li2 ci2 ki2,
    g3 := PySem.W.mg_of X G aC3, x3 := x3, k3 := kC3,
    e4 := ok_i4 (PySem.W.mg_of X G aC4) (oex_of E4 F4 rfl Z4) (xf_of E4 F4 Z4) nb4 ai4 ti4 li4 ci4 ki4,
    e5 := ok_i5 (PySem.W.mg_of X G aC5) (oex_of E5 F5 rfl Z5) (xf_of E5 F5 Z5) nb5 ai5 ti5 li5 ci5 ki5,
    e6 := ok_i6 (PySem.W.mg_of X G aC6) (oex_of E6 F6 rfl Z6) (xf_of E6 F6 Z6) nb6 ai6 ti6 li6 ci6 ki6,
    g7 := PySem.W.mg_of X G aC7, x7 := x7, k7 := kC7,
    e8 := ok_i8 (PySem.W.mg_of X G aC8) (oex_of E8 F8 rfl Z8) (xf_of E8 F8 Z8) nb8 ai8 ti8 li8 ci8 ki8,
    e9 := ok_i9 (PySem.W.mg_of X G aC9) (oex_of E9 F9 rfl Z9) (xf_of E9 F9 Z9) nb9 ai9 ti9 li9 ci9 ki9,
    e10 := ok_i10 (PySem.W.mg_of X G aC10) (oex_of E10 F10 rfl Z10) (xf_of E10 F10 Z10) nb10 ai10 ti10 li10 ci10 ki10,
    e11 := ok_i11 (PySem.W.mg_of X G aC11) (oex_of E11 F11 rfl Z11) (xf_of E11 F11 Z11) nb11 ai11 ti11 li11 ci11 ki11,
    e12 := ok_i12 (PySem.W.mg_of X G aC12) (oex_of E12 F12 rfl Z12) (xf_of E12 F12 Z12) nb12 ai12 ti12 li12 ci12 ki12,
    e13 := ok_i13 (PySem.W.mg_of X G aC13) (oex_of E13 F13 rfl Z13) (xf_of E13 F13 Z13) nb13 ai13 ti13 li13 ci13 ki13,
    e14 := ok_i14 (PySem.W.mg_of X G aC14) (oex_of E14 F14 rfl Z14) (xf_of E14 F14 Z14) nb14 ai14 ti14 li14 ci14 ki14,
    e15 := ok_i15 (PySem.W.mg_of X G aC15) (oex_of E15 F15 rfl Z15) (xf_of E15 F15 Z15) nb15 ai15 ti15 li15 ci15 ki15,
    e16 := ok_i16 (PySem.W.mg_of X G aC16) (oex_of E16 F16 rfl Z16) (xf_of E16 F16 Z16) nb16 ai16 ti16 li16 ci16 ki16,
    g17 := PySem.W.mg_of X G aC17, x17 := x17, k17 := kC17,
    e18 := ok_i18 (PySem.W.mg_of X G aC18) (oex_of E18 F18 rfl Z18) (xf_of E18 F18 Z18) nb18 ai18 ti18 li18 ci18 ki18,
    e19 := ok_i19 (PySem.W.mg_of X G aC19) (oex_of E19 F19 rfl Z19) (xf_of E19 F19 Z19) nb19 ai19 ti19 li19 ci19 ki19,
    e20 := ok_i20 (PySem.W.mg_of X G aC20) (oex_of E20 F20 rfl Z20) (xf_of E20 F20 Z20) nb20 ai20 ti20 li20 ci20 ki20 }
  have G0 := fun_mk (st := s_source) ld0 cd0 kd0
  have G1 := fun_mk (st := s_draw) ld1 cd1 kd1
  have G2 := fun_mk (st := s_pick) ld2 cd2 kd2
  have G3 := fun_mk (st := s_same) ld3 cd3 kd3
  have G4 := fun_mk (st := s_kinds) ld4 cd4 kd4
  have G5 := fun_mk (st := s_all) ld5 cd5 kd5
  have G6 := fun_mk (st := s_made) ld6 cd6 kd6
  have G7 := fun_mk (st := s_law) ld7 cd7 kd7
  have b0 := G0.binds (ps := ["_law_script", "_law_at"]) fun _ _ _ _ _ _ us hl => match us, hl with | [_, _], _ => rfl
  have b1 := G1.binds (ps := ["_law_draws", "_law_many"]) fun _ _ _ _ _ _ us hl => match us, hl with | [_, _], _ => rfl
  have b2 := G2.binds (ps := ["_law_draws", "_law_things"]) fun _ _ _ _ _ _ us hl => match us, hl with | [_, _], _ => rfl
  have b3 := G3.binds (ps := ["_law_found", "_law_due"]) fun _ _ _ _ _ _ us hl => match us, hl with | [_, _], _ => rfl
  have b4 := G4.binds (ps := ["_law_e"]) fun _ _ _ _ _ _ us hl => match us, hl with | [_], _ => rfl
  have b5 := G5.binds (ps := ["_law_a", "_law_b"]) fun _ _ _ _ _ _ us hl => match us, hl with | [_, _], _ => rfl
  have b6 := G6.binds (ps := ["_law_a"]) fun _ _ _ _ _ _ us hl => match us, hl with | [_], _ => rfl
  refine ⟨PySem.W.fnOf "law" "law" (defArgs s_law) (defBody s_law) (defScope s_law) .none kVd7 dcd7 pmd7 and7 cdd7 ctd7, fun s v => .of_eq rfl, fun base _ _ => ?_⟩
  have M : ∀ {x : Str} {f : Addr}, PySem.W.nsIn K mainGlobals x = some (some (.ref f)) → mg x = some (.ref f) := fun q => PySem.W.mg_of X G q
  have D0 : DefAt l.prog w K mg base "_law_source" 1 ["_law_script", "_law_at"] (spSource K) := ⟨_, _, ok_source G0 T.toTxB, M ad0, kd0, b0⟩
  have D1 : DefAt l.prog w K mg base "_law_draw" 1 ["_law_draws", "_law_many"] spDraw := ⟨_, _, ok_draw G1 T.toTxB, M ad1, kd1, b1⟩
  have D2 : DefAt l.prog w K mg base "_law_pick" 2 ["_law_draws", "_law_things"] (spPick K) := ⟨_, _, ok_pick G2 T.toTxB D1, M ad2, kd2, b2⟩
  have D3 : ∀ n, DefAt l.prog w K mg base "_law_same" n ["_law_found", "_law_due"] (spPrev K n) := fun n => by
    induction n with
    | zero => exact ⟨_, _, ⟨fun _ _ _ _ h => h.elim, fun _ _ _ _ _ _ _ _ _ _ _ _ _ h => h.elim⟩, M ad3, kd3, b3⟩
    | succ n ih => exact ⟨_, _, same_body G3 T.toTxB n ih, M ad3, kd3, b3⟩
  have D4 : DefAt l.prog w K mg base "_law_kinds" 1 ["_law_e"] (spKinds K (clOf [C0, C1, C2, C3, C4, C5, C6, C7, C8, C9, C10, C11, C12, C13, C14, C15, C16, C17, C18, C19, C20])) := ⟨_, _, ok_kinds G4 T.toTxB (R base), M ad4, kd4, b4⟩
  have D5 : DefAt l.prog w K mg base "_law_all" 3 ["_law_a", "_law_b"] (spAll K) := ⟨_, _, ok_all G5 (R base), M ad5, kd5, b5⟩
  have D6 : DefAt l.prog w K mg base "_law_made" 3 ["_law_a"] (spMade (clOf [C0, C1, C2, C3, C4, C5, C6, C7, C8, C9, C10, C11, C12, C13, C14, C15, C16, C17, C18, C19, C20])) := ⟨_, _, ok_made G6 (R base), M ad6, kd6, b6⟩
  exact ok_law G7 T (R base) D0 D2 (D3 6) D5 D6 D4
theorem walk {l : PySem.W.OpenLaw} {q : Program} {loose : List Str} {XP : (Str → Option Value) → Heap → Prop} {YP : World → Heap → Prop} {d : DefRec} {K : Params → PySem.W.Frag} (hn : l.most = some 63) (hdf : d.params.defaults = [])
    (hY : ∀ (w : World) (h : Heap), YP w h → (K w.params).In h)
    (F : ∀ (w : World) (mg : Str → Option Value) (fa : Addr) (h : Heap), (K w.params).In h → h.Ns mainGlobals mg → mg d.name = some (.ref fa) →
      ∃ fd : FuncData, (∀ (s : Shared) (u : Value), BindsTo s fd ⟨[u], []⟩ [("_law_script", u)]) ∧ ∀ base : Heap, (K w.params).In base → base.Ns mainGlobals mg → FnOk l.prog w (K w.params) mg base CX0 7 fa fd ["_law_script"] (spLaw (K w.params))) :
    PySem.W.WalkO q loose XP YP l.row.toRowW d [] (fun f vs => PySem.call f vs) :=
  L2.walk_of (n := 63) (k := 7) (x := "_law_script") (CX := fun _ => CX0) (sp := fun w => spLaw (K w.params)) hn (by decide) hdf ⟨rfl, by decide, by decide⟩ hY F (fun _ _ a ns hl _ hS => ⟨a, ns, rfl, hS, hl, fun _ => rfl⟩) fun _ _ _ _ _ z => z
end U

set_option Elab.async false
open PySem PySem.W PyProof.Rows in
set_option maxRecDepth 100000 in
set_option maxHeartbeats 0 in
theorem PySem.Challenge.cw_toldenough_k01_errors_made_holds : PySem.Challenge.rw_toldenough_k01_errors_made.Holds := by
  w_on; o_law; k_head; (case hw => w_witness2)
  k_fill
  refine U.walk (l := PySem.Challenge.rw_toldenough_k01_errors_made) rfl rfl (fun w h Y => PySem.W.kIn_of Y) ?F
  case F =>
    intro w mg fa h KX G hmg
    refine' U.all_mk KX G hmg ?aCT ?xLT ?saT ?gaT ?ggT ?haT ?kCT ?xT ?aC0 ?xL0 ?sa0 ?ga0 ?gg0 ?ha0 ?kC0 ?nb0 ?ai0 ?ti0 ?li0 ?ci0 ?ki0 ?aC1 ?xL1 ?sa1 ?ga1 ?gg1 ?ha1 ?kC1 ?nb1 ?ai1 ?ti1 ?li1 ?ci1 ?ki1 ?aC2 ?xL2 ?sa2 ?ga2 ?gg2 ?ha2 ?kC2 ?nb2 ?ai2 ?ti2 ?li2 ?ci2 ?ki2 ?aC3 ?xL3 ?sa3 ?ga3 ?gg3 ?ha3 ?kC3 ?x3 ?aC4 ?xL4 ?sa4 ?ga4 ?gg4 ?ha4 ?kC4 ?nb4 ?ai4 ?ti4 ?li4 ?ci4 ?ki4 ?aC5 ?xL5 ?sa5 ?ga5 ?gg5 ?ha5 ?kC5 ?nb5 ?ai5 ?ti5 ?li5 ?ci5 ?ki5 ?aC6 ?xL6 ?sa6 ?ga6 ?gg6 ?ha6 ?kC6 ?nb6 ?ai6 ?ti6 ?li6 ?ci6 ?ki6 ?aC7 ?xL7 ?sa7 ?ga7 ?gg7 ?ha7 ?kC7 ?x7 ?aC8 ?xL8 ?sa8 ?ga8 ?gg8 ?ha8 ?kC8 ?nb8 ?ai8 ?ti8 ?li8 ?ci8 ?ki8 ?aC9 ?xL9 ?sa9 ?ga9 ?gg9 ?ha9 ?kC9 ?nb9 ?ai9 ?ti9 ?li9 ?ci9 ?ki9 ?aC10 ?xL10 ?sa10 ?ga10 ?gg10 ?ha10 ?kC10 ?nb10 ?ai10 ?ti10 ?li10 ?ci10 ?ki10 ?aC11 ?xL11 ?sa11 ?ga11 ?gg11 ?ha11 ?kC11 ?nb11 ?ai11 ?ti11 ?li11 ?ci11 ?ki11 ?aC12 ?xL12 ?sa12 ?ga12 ?gg12 ?ha12 ?kC12 ?nb12 ?ai12 ?ti12 ?li12 ?ci12 ?ki12 ?aC13 ?xL13 ?sa13 ?ga13 ?gg13 ?ha13 ?kC13 ?nb13 ?ai13 ?ti13 ?li13 ?ci13 ?ki13 ?aC14 ?xL14 ?sa14 ?ga14 ?gg14 ?ha14 ?kC14 ?nb14 ?ai14 ?ti14 ?li14 ?ci14 ?ki14 ?aC15 ?xL15 ?sa15 ?ga15 ?gg15 ?ha15 ?kC15 ?nb15 ?ai15 ?ti15 ?li15 ?ci15 ?ki15 ?aC16 ?xL16 ?sa16 ?ga16 ?gg16 ?ha16 ?kC16 ?nb16 ?ai16 ?ti16 ?li16 ?ci16 ?ki16 ?aC17 ?xL17 ?sa17 ?ga17 ?gg17 ?ha17 ?kC17 ?x17 ?aC18 ?xL18 ?sa18 ?ga18 ?gg18 ?ha18 ?kC18 ?nb18 ?ai18 ?ti18 ?li18 ?ci18 ?ki18 ?aC19 ?xL19 ?sa19 ?ga19 ?gg19 ?ha19 ?kC19 ?nb19 ?ai19 ?ti19 ?li19 ?ci19 ?ki19 ?aC20 ?xL20 ?sa20 ?ga20 ?gg20 ?ha20 ?kC20 ?nb20 ?ai20 ?ti20 ?li20 ?ci20 ?ki20 ?ad0 ?ld0 ?cd0 ?kd0 ?ad1 ?ld1 ?cd1 ?kd1 ?ad2 ?ld2 ?cd2 ?kd2 ?ad3 ?ld3 ?cd3 ?kd3 ?ad4 ?ld4 ?cd4 ?kd4 ?ad5 ?ld5 ?cd5 ?kd5 ?ad6 ?ld6 ?cd6 ?kd6 ?ad7 ?ld7 ?cd7 ?kd7 ?z_len ?z_int ?z_isinstance ?z_list ?z_tuple ?z_bool ?z_all ?z_zip ?z_range ?z_enumerate ?z_ValueError ?hn ?ht ?nd
    (case aCT => k_is)
    (case xLT => k_is)
    (case saT => k_is)
    (case gaT => k_is)
    (case ggT => k_is)
    (case haT => k_is)
    (case kCT => k_is)
    (case xT => k_exc)
    (case aC0 => k_is)
    (case xL0 => k_is)
    (case sa0 => k_is)
    (case ga0 => k_is)
    (case gg0 => k_is)
    (case ha0 => k_is)
    (case kC0 => k_is)
    (case nb0 => k_is)
    (case ai0 => k_is)
    (case ti0 => k_is)
    (case li0 => k_is)
    (case ci0 => k_is)
    (case ki0 => k_is)
    (case aC1 => k_is)
    (case xL1 => k_is)
    (case sa1 => k_is)
    (case ga1 => k_is)
    (case gg1 => k_is)
    (case ha1 => k_is)
    (case kC1 => k_is)
    (case nb1 => k_is)
    (case ai1 => k_is)
    (case ti1 => k_is)
    (case li1 => k_is)
    (case ci1 => k_is)
    (case ki1 => k_is)
    (case aC2 => k_is)
    (case xL2 => k_is)
    (case sa2 => k_is)
    (case ga2 => k_is)
    (case gg2 => k_is)
    (case ha2 => k_is)
    (case kC2 => k_is)
    (case nb2 => k_is)
    (case ai2 => k_is)
    (case ti2 => k_is)
    (case li2 => k_is)
    (case ci2 => k_is)
    (case ki2 => k_is)
    (case aC3 => k_is)
    (case xL3 => k_is)
    (case sa3 => k_is)
    (case ga3 => k_is)
    (case gg3 => k_is)
    (case ha3 => k_is)
    (case kC3 => k_is)
    (case x3 => k_exc)
    (case aC4 => k_is)
    (case xL4 => k_is)
    (case sa4 => k_is)
    (case ga4 => k_is)
    (case gg4 => k_is)
    (case ha4 => k_is)
    (case kC4 => k_is)
    (case nb4 => k_is)
    (case ai4 => k_is)
    (case ti4 => k_is)
    (case li4 => k_is)
    (case ci4 => k_is)
    (case ki4 => k_is)
    (case aC5 => k_is)
    (case xL5 => k_is)
    (case sa5 => k_is)
    (case ga5 => k_is)
    (case gg5 => k_is)
    (case ha5 => k_is)
    (case kC5 => k_is)
    (case nb5 => k_is)
    (case ai5 => k_is)
    (case ti5 => k_is)
    (case li5 => k_is)
    (case ci5 => k_is)
    (case ki5 => k_is)
    (case aC6 => k_is)
    (case xL6 => k_is)
    (case sa6 => k_is)
    (case ga6 => k_is)
    (case gg6 => k_is)
    (case ha6 => k_is)
    (case kC6 => k_is)
    (case nb6 => k_is)
    (case ai6 => k_is)
    (case ti6 => k_is)
    (case li6 => k_is)
    (case ci6 => k_is)
    (case ki6 => k_is)
    (case aC7 => k_is)
    (case xL7 => k_is)
    (case sa7 => k_is)
    (case ga7 => k_is)
    (case gg7 => k_is)
    (case ha7 => k_is)
    (case kC7 => k_is)
    (case x7 => k_exc)
    (case aC8 => k_is)
    (case xL8 => k_is)
    (case sa8 => k_is)
    (case ga8 => k_is)
    (case gg8 => k_is)
    (case ha8 => k_is)
    (case kC8 => k_is)
    (case nb8 => k_is)
    (case ai8 => k_is)
    (case ti8 => k_is)
    (case li8 => k_is)
    (case ci8 => k_is)
    (case ki8 => k_is)
    (case aC9 => k_is)
    (case xL9 => k_is)
    (case sa9 => k_is)
    (case ga9 => k_is)
    (case gg9 => k_is)
    (case ha9 => k_is)
    (case kC9 => k_is)
    (case nb9 => k_is)
    (case ai9 => k_is)
    (case ti9 => k_is)
    (case li9 => k_is)
    (case ci9 => k_is)
    (case ki9 => k_is)
    (case aC10 => k_is)
    (case xL10 => k_is)
    (case sa10 => k_is)
    (case ga10 => k_is)
    (case gg10 => k_is)
    (case ha10 => k_is)
    (case kC10 => k_is)
    (case nb10 => k_is)
    (case ai10 => k_is)
    (case ti10 => k_is)
    (case li10 => k_is)
    (case ci10 => k_is)
    (case ki10 => k_is)
    (case aC11 => k_is)
    (case xL11 => k_is)
    (case sa11 => k_is)
    (case ga11 => k_is)
    (case gg11 => k_is)
    (case ha11 => k_is)
    (case kC11 => k_is)
    (case nb11 => k_is)
    (case ai11 => k_is)
    (case ti11 => k_is)
    (case li11 => k_is)
    (case ci11 => k_is)
    (case ki11 => k_is)
    (case aC12 => k_is)
    (case xL12 => k_is)
    (case sa12 => k_is)
    (case ga12 => k_is)
    (case gg12 => k_is)
    (case ha12 => k_is)
    (case kC12 => k_is)
    (case nb12 => k_is)
    (case ai12 => k_is)
    (case ti12 => k_is)
    (case li12 => k_is)
    (case ci12 => k_is)
    (case ki12 => k_is)
    (case aC13 => k_is)
    (case xL13 => k_is)
    (case sa13 => k_is)
    (case ga13 => k_is)
    (case gg13 => k_is)
    (case ha13 => k_is)
    (case kC13 => k_is)
    (case nb13 => k_is)
    (case ai13 => k_is)
    (case ti13 => k_is)
    (case li13 => k_is)
    (case ci13 => k_is)
    (case ki13 => k_is)
    (case aC14 => k_is)
    (case xL14 => k_is)
    (case sa14 => k_is)
    (case ga14 => k_is)
    (case gg14 => k_is)
    (case ha14 => k_is)
    (case kC14 => k_is)
    (case nb14 => k_is)
    (case ai14 => k_is)
    (case ti14 => k_is)
    (case li14 => k_is)
    (case ci14 => k_is)
    (case ki14 => k_is)
    (case aC15 => k_is)
    (case xL15 => k_is)
    (case sa15 => k_is)
    (case ga15 => k_is)
    (case gg15 => k_is)
    (case ha15 => k_is)
    (case kC15 => k_is)
    (case nb15 => k_is)
    (case ai15 => k_is)
    (case ti15 => k_is)
    (case li15 => k_is)
    (case ci15 => k_is)
    (case ki15 => k_is)
    (case aC16 => k_is)
    (case xL16 => k_is)
    (case sa16 => k_is)
    (case ga16 => k_is)
    (case gg16 => k_is)
    (case ha16 => k_is)
    (case kC16 => k_is)
    (case nb16 => k_is)
    (case ai16 => k_is)
    (case ti16 => k_is)
    (case li16 => k_is)
    (case ci16 => k_is)
    (case ki16 => k_is)
    (case aC17 => k_is)
    (case xL17 => k_is)
    (case sa17 => k_is)
    (case ga17 => k_is)
    (case gg17 => k_is)
    (case ha17 => k_is)
    (case kC17 => k_is)
    (case x17 => k_exc)
    (case aC18 => k_is)
    (case xL18 => k_is)
    (case sa18 => k_is)
    (case ga18 => k_is)
    (case gg18 => k_is)
    (case ha18 => k_is)
    (case kC18 => k_is)
    (case nb18 => k_is)
    (case ai18 => k_is)
    (case ti18 => k_is)
    (case li18 => k_is)
    (case ci18 => k_is)
    (case ki18 => k_is)
    (case aC19 => k_is)
    (case xL19 => k_is)
    (case sa19 => k_is)
    (case ga19 => k_is)
    (case gg19 => k_is)
    (case ha19 => k_is)
    (case kC19 => k_is)
    (case nb19 => k_is)
    (case ai19 => k_is)
    (case ti19 => k_is)
    (case li19 => k_is)
    (case ci19 => k_is)
    (case ki19 => k_is)
    (case aC20 => k_is)
    (case xL20 => k_is)
    (case sa20 => k_is)
    (case ga20 => k_is)
    (case gg20 => k_is)
    (case ha20 => k_is)
    (case kC20 => k_is)
    (case nb20 => k_is)
    (case ai20 => k_is)
    (case ti20 => k_is)
    (case li20 => k_is)
    (case ci20 => k_is)
    (case ki20 => k_is)
    (case ad0 => k_is)
    (case ld0 => k_is)
    (case cd0 => k_is)
    (case kd0 => k_is)
    (case ad1 => k_is)
    (case ld1 => k_is)
    (case cd1 => k_is)
    (case kd1 => k_is)
    (case ad2 => k_is)
    (case ld2 => k_is)
    (case cd2 => k_is)
    (case kd2 => k_is)
    (case ad3 => k_is)
    (case ld3 => k_is)
    (case cd3 => k_is)
    (case kd3 => k_is)
    (case ad4 => k_is)
    (case ld4 => k_is)
    (case cd4 => k_is)
    (case kd4 => k_is)
    (case ad5 => k_is)
    (case ld5 => k_is)
    (case cd5 => k_is)
    (case kd5 => k_is)
    (case ad6 => k_is)
    (case ld6 => k_is)
    (case cd6 => k_is)
    (case kd6 => k_is)
    (case ad7 => k_is)
    (case ld7 => k_is)
    (case cd7 => k_is)
    (case kd7 => k_is)
    (case z_len => k_is)
    (case z_int => k_is)
    (case z_isinstance => k_is)
    (case z_list => k_is)
    (case z_tuple => k_is)
    (case z_bool => k_is)
    (case z_all => k_is)
    (case z_zip => k_is)
    (case z_range => k_is)
    (case z_enumerate => k_is)
    (case z_ValueError => k_is)
    (case hn => k_is)
    (case ht => k_is)
    (case nd => decide)


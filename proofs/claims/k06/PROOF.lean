import PyProof.Rows.All
import Wide.All
import OpenK.AllK
import Wide.FinOn
import PyProof.EqAt
import PyProof.EqKinds
import PyProof.TupleCall
import HandS.Base
import HandS.Call
import HandS.List
import HandS.Comp
import HandS.Ends
import HandS.Dict
import HandS.Iter
import HandS.Words
import HandS.WordsList
import HandS.Evl
import HandS.Zip
import HandS.IsInst
import HandS.Walk
import HandS.Exc
import HandS.ExcOwn
import HandS.ExcInit
import HandS.ExcValue
import KE.KExcIs
import HandS.ExcField
import KE.GoesEnum
import KE.GoesMore
import HandS.OwnEq
import HandS.TupAny
import HandS.Codes
import PySem.Challenge.RW_toldenough_k06_rules_said
import HandS.Wide
import HandS.Steps
import HandS.Star
import HandS.TryOnly
import HandS.CallLocal
import HandS.Style
import HandS.SetFor
import HandS.Strs
import HandS.SortInts
import HandS.Lambda
import PyProof.Rows.RegStrFacts
import HandS.NestedHot
set_option Elab.async false
set_option linter.all false
set_option maxRecDepth 100000
set_option maxHeartbeats 2000000
namespace U
open PySem L2
open Evl (Ex)
/-! ### heaps with hidden cells -/
/-- H without the cells of L -/
def W (L : List Addr) (H : Hp) : Hp := fun a => if a ∈ L then none else H a
/-- the hidden cells stand in H -/
def Hid (L : List Addr) (H : Hp) : Prop := ∀ a ∈ L, H a ≠ none
section
variable {L : List Addr} {H H' H2 : Hp} {a p : Addr} {o u : HO}
theorem w_in (h : W L H a = some o) : H a = some o ∧ a ∉ L := by
  unfold W at h
  by_cases e : a ∈ L
  · rw [if_pos e] at h
    cases h
  · rw [if_neg e] at h
    exact ⟨h, e⟩
theorem w_of (n : a ∉ L) (h : H a = some o) : W L H a = some o := by
  unfold W
  rw [if_neg n]
  exact h
theorem w_sub : Ex (W L H) H := fun a o h => (w_in h).1
theorem w_ex (e : Ex H H') : Ex (W L H) (W L H') := fun a o h => w_of (w_in h).2 (e a o (w_in h).1)
theorem w_nil : W [] H = H := by
  funext a
  unfold W
  rw [if_neg (by simp)]
theorem hid_nil : Hid [] H := fun _ h => by cases h
theorem hid_ex (e : Ex H H') (h : Hid L H) : Hid L H' := fun a m z => by
  cases q : H a with
  | none => exact h a m q
  | some o =>
    have r := e a o q
    rw [z] at r
    cases r
theorem hid_not (h : Hid L H) (n : H p = none) : p ∉ L := fun m => h p m n
theorem w_new (h : Hid L H) (n : H p = none) : W L (upd H p o) p = some o := w_of (hid_not h n) upd_same
theorem w_upd_in (m : p ∈ L) : W L (upd H p o) = W L H := by
  funext a
  unfold W
  by_cases e : a ∈ L
  · rw [if_pos e, if_pos e]
  · rw [if_neg e, if_neg e, upd_ne (fun z => e (by rw [z]; exact m))]
theorem w_sub2 {L2 : List Addr} (s : ∀ a ∈ L, a ∈ L2) : Ex (W L2 H) (W L H) := fun a o h => w_of (fun m => (w_in h).2 (s a m)) (w_in h).1
theorem hid_upd (h : Hid L H) : Hid L (upd H p o) := fun a m z => by
  by_cases e : a = p
  · rw [e, upd_same] at z
    cases z
  · rw [upd_ne e] at z
    exact h a m z
end
/-! ### data that stands -/
section
variable {K : PySem.W.Frag} {H H' : Hp}
mutual
theorem dp_mono (e : Ex H H') : ∀ (d : PyData) (v : V), Dp K H v d → Dp K H' v d
  | .none, _, h => by cases h; exact .non
  | .bool _, _, h => by cases h; exact .bl _
  | .int _, _, h => by cases h; exact .int _
  | .str _, _, h => by cases h; exact .str _
  | .list ds, _, h => by
    cases h with
    | lst hs ha => exact .lst (Evl.ex_l e hs) (dpa_mono e ds _ ha)
  | .tuple ds, _, h => by
    cases h with
    | tup hs ha => exact .tup (Evl.ex_t e hs) (dpa_mono e ds _ ha)
  | .dict _, _, h => by cases h
theorem dpa_mono (e : Ex H H') : ∀ (ds : List PyData) (vs : List V), DpAll K H vs ds → DpAll K H' vs ds
  | [], _, h => by cases h; exact .nil
  | d :: ds, _, h => by
    cases h with
    | cons h1 h2 => exact .cons (dp_mono e d _ h1) (dpa_mono e ds _ h2)
end
theorem _root_.L2.Dp.up {v : V} {d : PyData} (h : Dp K H v d) (e : Ex H H') : Dp K H' v d := dp_mono e d v h
theorem _root_.L2.DpAll.up {vs : List V} {ds : List PyData} (h : DpAll K H vs ds) (e : Ex H H') : DpAll K H' vs ds := dpa_mono e ds vs h
theorem dpa_len : ∀ {vs : List V} {ds : List PyData}, DpAll K H vs ds → vs.length = ds.length
  | _, _, .nil => rfl
  | _, _, .cons _ t => congrArg Nat.succ (dpa_len t)
theorem dpa_get : ∀ {vs : List V} {ds : List PyData} {i : Nat} {v : V}, DpAll K H vs ds → vs[i]? = some v → ∃ d, ds[i]? = some d ∧ Dp K H v d
  | _, _, _, _, .nil, e => by simp at e
  | _, _, 0, _, .cons r _, e => by simp at e; subst e; exact ⟨_, rfl, r⟩
  | _, _, i + 1, x, .cons _ t, e => by
    obtain ⟨d, h1, h2⟩ := dpa_get (i := i) (v := x) t (by simpa using e)
    exact ⟨d, by simpa using h1, h2⟩
theorem dpa_get2 : ∀ {vs : List V} {ds : List PyData} {i : Nat} {d : PyData}, DpAll K H vs ds → ds[i]? = some d → ∃ v, vs[i]? = some v ∧ Dp K H v d
  | _, _, _, _, .nil, e => by simp at e
  | _, _, 0, _, .cons r _, e => by simp at e; subst e; exact ⟨_, rfl, r⟩
  | _, _, i + 1, x, .cons _ t, e => by
    obtain ⟨v, h1, h2⟩ := dpa_get2 (i := i) (d := x) t (by simpa using e)
    exact ⟨v, by simpa using h1, h2⟩
theorem dpa_app : ∀ {vs ws : List V} {ds es : List PyData}, DpAll K H vs ds → DpAll K H ws es → DpAll K H (vs ++ ws) (ds ++ es)
  | _, _, _, _, .nil, h => h
  | _, _, _, _, .cons r t, h => .cons r (dpa_app t h)
/-- the type's name -/
def tyOf : PyData → String
  | .none => "NoneType"
  | .bool _ => "bool"
  | .int _ => "int"
  | .str _ => "str"
  | .list _ => "list"
  | .tuple _ => "tuple"
  | .dict _ => "dict"
theorem dp_ty {v : V} {d : PyData} (h : Dp K H v d) : TyX K H v (.type (tyOf d)) := by
  cases h with
  | non => exact .base .non
  | bl b => exact .base (.bl b)
  | int i => exact .base (.int i)
  | str x => exact .base (.str x)
  | lst hs ha =>
    rcases hs with (h | ⟨o, h⟩) | ⟨o, its, n, h, c, _⟩
    · exact .base (.lst h)
    · exact .base (.frz h)
    · exact .kList h c
  | tup hs ha =>
    rcases hs with (h | ⟨o, h⟩) | ⟨o, its, n, h, c, _⟩
    · exact .base (.tup h)
    · exact .fTuple h
    · exact .kTuple h c
/-- isinstance of data: one class, several classes -/
def kitsB (a : String) : List String → Option Bool
  | [] => some false
  | n :: ns => match kitB a n with
    | some true => some true
    | some false => kitsB a ns
    | none => none
theorem kitsB_ok {a : String} : ∀ {ns : List String} {b : Bool}, kitsB a ns = some b → PySem.W.kitAny K (.type a) (ns.map Value.type) = some b
  | [], _, h => h
  | n :: ns, b, h => by
    unfold kitsB at h
    cases q : kitB a n with
    | none => rw [q] at h; cases h
    | some c =>
      rw [q] at h
      cases c with
      | true =>
        cases h
        exact kitAny_cons (kit_ty q) (fun z => by cases z) fun _ => rfl
      | false => exact kitAny_cons (kit_ty q) (fun _ => kitsB_ok h) fun z => by cases z
theorem tys_cls : ∀ {ns : List String}, Paired ClsV (ns.map V.ty) (ns.map Value.type)
  | [] => .nil
  | n :: _ => .cons (.ty n) tys_cls
end
/-! ### what isinstance answers -/
theorem isi_NoneType_list : kitB "NoneType" "list" = some false := by decide +kernel
theorem isi_NoneType_tuple : kitB "NoneType" "tuple" = some false := by decide +kernel
theorem isi_NoneType_bool : kitB "NoneType" "bool" = some false := by decide +kernel
theorem isi_NoneType_int : kitB "NoneType" "int" = some false := by decide +kernel
theorem isi_NoneType_str : kitB "NoneType" "str" = some false := by decide +kernel
theorem isi_NoneType_list_tuple : kitsB "NoneType" ["list", "tuple"] = some false := by decide +kernel
theorem isi_NoneType_bool_int : kitsB "NoneType" ["bool", "int"] = some false := by decide +kernel
theorem isi_NoneType_bool_int_list_tuple : kitsB "NoneType" ["bool", "int", "list", "tuple"] = some false := by decide +kernel
theorem isi_bool_list : kitB "bool" "list" = some false := by decide +kernel
theorem isi_bool_tuple : kitB "bool" "tuple" = some false := by decide +kernel
theorem isi_bool_bool : kitB "bool" "bool" = some true := by decide +kernel
theorem isi_bool_int : kitB "bool" "int" = some true := by decide +kernel
theorem isi_bool_str : kitB "bool" "str" = some false := by decide +kernel
theorem isi_bool_list_tuple : kitsB "bool" ["list", "tuple"] = some false := by decide +kernel
theorem isi_bool_bool_int : kitsB "bool" ["bool", "int"] = some true := by decide +kernel
theorem isi_bool_bool_int_list_tuple : kitsB "bool" ["bool", "int", "list", "tuple"] = some true := by decide +kernel
theorem isi_int_list : kitB "int" "list" = some false := by decide +kernel
theorem isi_int_tuple : kitB "int" "tuple" = some false := by decide +kernel
theorem isi_int_bool : kitB "int" "bool" = some false := by decide +kernel
theorem isi_int_int : kitB "int" "int" = some true := by decide +kernel
theorem isi_int_str : kitB "int" "str" = some false := by decide +kernel
theorem isi_int_list_tuple : kitsB "int" ["list", "tuple"] = some false := by decide +kernel
theorem isi_int_bool_int : kitsB "int" ["bool", "int"] = some true := by decide +kernel
theorem isi_int_bool_int_list_tuple : kitsB "int" ["bool", "int", "list", "tuple"] = some true := by decide +kernel
theorem isi_str_list : kitB "str" "list" = some false := by decide +kernel
theorem isi_str_tuple : kitB "str" "tuple" = some false := by decide +kernel
theorem isi_str_bool : kitB "str" "bool" = some false := by decide +kernel
theorem isi_str_int : kitB "str" "int" = some false := by decide +kernel
theorem isi_str_str : kitB "str" "str" = some true := by decide +kernel
theorem isi_str_list_tuple : kitsB "str" ["list", "tuple"] = some false := by decide +kernel
theorem isi_str_bool_int : kitsB "str" ["bool", "int"] = some false := by decide +kernel
theorem isi_str_bool_int_list_tuple : kitsB "str" ["bool", "int", "list", "tuple"] = some false := by decide +kernel
theorem isi_list_list : kitB "list" "list" = some true := by decide +kernel
theorem isi_list_tuple : kitB "list" "tuple" = some false := by decide +kernel
theorem isi_list_bool : kitB "list" "bool" = some false := by decide +kernel
theorem isi_list_int : kitB "list" "int" = some false := by decide +kernel
theorem isi_list_str : kitB "list" "str" = some false := by decide +kernel
theorem isi_list_list_tuple : kitsB "list" ["list", "tuple"] = some true := by decide +kernel
theorem isi_list_bool_int : kitsB "list" ["bool", "int"] = some false := by decide +kernel
theorem isi_list_bool_int_list_tuple : kitsB "list" ["bool", "int", "list", "tuple"] = some true := by decide +kernel
theorem isi_tuple_list : kitB "tuple" "list" = some false := by decide +kernel
theorem isi_tuple_tuple : kitB "tuple" "tuple" = some true := by decide +kernel
theorem isi_tuple_bool : kitB "tuple" "bool" = some false := by decide +kernel
theorem isi_tuple_int : kitB "tuple" "int" = some false := by decide +kernel
theorem isi_tuple_str : kitB "tuple" "str" = some false := by decide +kernel
theorem isi_tuple_list_tuple : kitsB "tuple" ["list", "tuple"] = some true := by decide +kernel
theorem isi_tuple_bool_int : kitsB "tuple" ["bool", "int"] = some false := by decide +kernel
theorem isi_tuple_bool_int_list_tuple : kitsB "tuple" ["bool", "int", "list", "tuple"] = some true := by decide +kernel
theorem isi_dict_list : kitB "dict" "list" = some false := by decide +kernel
theorem isi_dict_tuple : kitB "dict" "tuple" = some false := by decide +kernel
theorem isi_dict_bool : kitB "dict" "bool" = some false := by decide +kernel
theorem isi_dict_int : kitB "dict" "int" = some false := by decide +kernel
theorem isi_dict_str : kitB "dict" "str" = some false := by decide +kernel
theorem isi_dict_list_tuple : kitsB "dict" ["list", "tuple"] = some false := by decide +kernel
theorem isi_dict_bool_int : kitsB "dict" ["bool", "int"] = some false := by decide +kernel
theorem isi_dict_bool_int_list_tuple : kitsB "dict" ["bool", "int", "list", "tuple"] = some false := by decide +kernel
/-! ### readings -/
section
variable {K : PySem.W.Frag} {σ : L2.St} {H : Hp} {te tb : TE} {v w : V} {d e : PyData} {b : Bool}
theorem ev_isi {n : String} (h : Evl.Ev te σ H v) (hd : Dp K H v d) (hb : kitB (tyOf d) n = some b) : Evl.Ev (tCB (rIsi K) (tCons te (tCons (tC (.ty n)) tNil))) σ H (.bl b) := fun H1 e1 Q q =>
  h H1 e1 _ fun H2 e2 => ⟨v, .ty n, _, _, b, rfl, .ty n, dp_ty (Dp.up hd (e1.trans e2)), kit_ty hb, q H2 e2⟩
theorem ev_isi2 {m n : String} (h : Evl.Ev te σ H v) (hd : Dp K H v d) (hb : kitsB (tyOf d) [m, n] = some b) : Evl.Ev (tCB (rIsiT K) (tCons te (tCons (tTup (tCons (tC (.ty m)) (tCons (tC (.ty n)) tNil))) tNil))) σ H (.bl b) := fun H1 e1 Q q =>
  h H1 e1 _ fun H2 e2 => ⟨by show 2 ≤ sizeLine; decide, fun p hp => ⟨v, p, _, _, _, b, rfl, upd_same, tys_cls (ns := [m, n]), dp_ty (Dp.up hd ((e1.trans e2).trans (Ex.new hp))), kitsB_ok hb, q _ (e2.trans (Ex.new hp))⟩⟩
theorem ev_isi4 {m n k l : String} (h : Evl.Ev te σ H v) (hd : Dp K H v d) (hb : kitsB (tyOf d) [m, n, k, l] = some b) :
    Evl.Ev (tCB (rIsiT K) (tCons te (tCons (tTup (tCons (tC (.ty m)) (tCons (tC (.ty n)) (tCons (tC (.ty k)) (tCons (tC (.ty l)) tNil))))) tNil))) σ H (.bl b) := fun H1 e1 Q q =>
  h H1 e1 _ fun H2 e2 => ⟨by show 4 ≤ sizeLine; decide, fun p hp => ⟨v, p, _, _, _, b, rfl, upd_same, tys_cls (ns := [m, n, k, l]), dp_ty (Dp.up hd ((e1.trans e2).trans (Ex.new hp))), kitsB_ok hb, q _ (e2.trans (Ex.new hp))⟩⟩
theorem ev_eqD (h : Evl.Ev te σ H v) (h2 : Evl.Ev tb σ H w) (hd : Dp K H v d) (he : Dp K H w e) (sd : SeqAt.shaped d = true) (se : SeqAt.shaped e = true) : Evl.Ev (tOp (rEqD K) te tb) σ H (.bl (PyData.eqv d e)) := fun H1 e1 Q q =>
  h H1 e1 _ fun H2 e2 => h2 H2 (e1.trans e2) _ fun H3 e3 => ⟨d, e, Dp.up hd ((e1.trans e2).trans e3), Dp.up he ((e1.trans e2).trans e3), sd, se, q H3 (e2.trans e3)⟩
theorem ev_eqB {a c : Bool} (h : Evl.Ev te σ H (.bl a)) (h2 : Evl.Ev tb σ H (.bl c)) : Evl.Ev (tOp rEq te tb) σ H (.bl (decide (V.bl a = V.bl c))) := Evl.ev_op h h2 (Evl.rv_eq rfl)
theorem ev_neB {a c : Bool} (h : Evl.Ev te σ H (.bl a)) (h2 : Evl.Ev tb σ H (.bl c)) : Evl.Ev (tOp rNe te tb) σ H (.bl (!decide (V.bl a = V.bl c))) := Evl.ev_op h h2 (Evl.rv_ne rfl)
theorem ev_lenS {a : Addr} {xs : List V} (ha : Evl.Ev te σ H (.ref a)) (h : SqL K H a xs ∨ SqT K H a xs) : Evl.Ev (tCB (fun xs H Q => ∃ p ys, xs = [.ref p] ∧ (SqL K H p ys ∨ SqT K H p ys) ∧ Q (.int ys.length) H) (tCons te tNil)) σ H (.int (xs.length : Int)) := fun H1 e Q q =>
  ha H1 e _ fun H2 e2 => ⟨a, xs, rfl, h.imp (Evl.ex_l (e.trans e2)) (Evl.ex_t (e.trans e2)), q H2 e2⟩
end
/-! ### defs of the text, found by their names -/
structure DefAt (P : Program) (w : World) (K : PySem.W.Frag) (mg : Str → Option Value) (base : Heap) (x : Str) (k : Nat) (ps : List Str) (sp : Sp) : Prop where
  ex : ∃ f fd, FnOk P w K mg base CX0 k f fd ps sp ∧ mg x = some (.ref f) ∧ PySem.W.keepIn K (.ref f) = true ∧ Binds K fd ps []
theorem DefAt.imp {P : Program} {w : World} {K : PySem.W.Frag} {mg : Str → Option Value} {base : Heap} {x : Str} {k : Nat} {ps : List Str} {sp sp' : Sp} (D : DefAt P w K mg base x k ps sp) (h : ∀ vs H Q E, sp' vs H Q E → sp vs H Q E) : DefAt P w K mg base x k ps sp' := by
  obtain ⟨f, fd, F, r⟩ := D.ex
  exact ⟨f, fd, F.imp h, r⟩
theorem DefAt.mono {P : Program} {w : World} {K : PySem.W.Frag} {mg : Str → Option Value} {base : Heap} {x : Str} {k j : Nat} {ps : List Str} {sp : Sp} (D : DefAt P w K mg base x k ps sp) (h : k ≤ j) : DefAt P w K mg base x j ps sp := by
  obtain ⟨f, fd, F, r⟩ := D.ex
  exact ⟨f, fd, F.mono h, r⟩
def tCallD (sp : Sp) (t : TA) : TE := fun σ H Q => t σ H fun vs H1 => sp vs H1 Q E0
theorem pe_callD {X : Cx} {x : Str} {k : Nat} {ps : List Str} {sp : Sp} {p pos : Pos} {e : Expr} {es : List Expr} {t : TA} (D : DefAt X.prog X.w X.K X.mg X.base x k ps sp) (hr : Room k X.A) (hg : Gl X x) (ha : PA X (e :: es) t)
    (hdb : (x == ("__debug__" : Str)) = false := by decide) (he : starEach (e :: es) X.env = (false, eval e X.env) :: starEach es X.env := by rfl) (hpl : (backTo pos (starEach es X.env)).any (·.1) = false := by rfl) :
    PE X (.Call (.Name x p) (e :: es) [] pos) (tCallD sp t) := by
  obtain ⟨f, fd, F, hm, hk, hb⟩ := D.ex
  refine ⟨fun pins s σ H Q I h => (pe_call (E := E0) F hr hg hm hk hb .nil pass0 ha hdb he hpl).run pins s σ H Q I ?_⟩
  have e1 : (fun (vs : List V) (H1 : Hp) => sp (vs ++ []) H1 Q E0) = fun vs H1 => sp vs H1 Q E0 := by
    funext vs H1
    rw [List.append_nil]
  show t σ H fun vs H1 => sp (vs ++ []) H1 Q E0
  rw [e1]
  exact h
/-! ### draws -/
/-- at l the draws: three numbers; at most n drawn by the second way -/
def Dr (n : Nat) (H : Hp) (l : Addr) : Prop := ∃ x y z : Int, H l = some (.lst [.int x, .int y, .int z]) ∧ 0 ≤ x ∧ 0 ≤ y ∧ y ≤ 1099511627776 ∧ 0 ≤ z ∧ z ≤ (n : Int)
theorem Dr.up {n m : Nat} {H : Hp} {l : Addr} (h : Dr n H l) (e : n ≤ m) : Dr m H l := by
  obtain ⟨x, y, z, h1, h2, h3, h4, h5, h6⟩ := h
  exact ⟨x, y, z, h1, h2, h3, h4, h5, by omega⟩
theorem Dr.ne {n : Nat} {H : Hp} {l : Addr} (h : Dr n H l) : H l ≠ none := by
  obtain ⟨x, y, z, h1, _⟩ := h
  rw [h1]
  simp
theorem Dr.ex {n : Nat} {H H' : Hp} {l : Addr} (h : Dr n H l) (e : Ex H H') : Dr n H' l := by
  obtain ⟨x, y, z, h1, h2⟩ := h
  exact ⟨x, y, z, e _ _ h1, h2⟩
/-- all but the cell l stays -/
def ExB (l : Addr) (H H' : Hp) : Prop := ∀ a o, a ≠ l → H a = some o → H' a = some o
theorem ExB.refl (l : Addr) (H : Hp) : ExB l H H := fun _ _ _ h => h
theorem ExB.of {l : Addr} {H H' : Hp} (e : Ex H H') : ExB l H H' := fun a o _ h => e a o h
theorem ExB.trans {l : Addr} {H H1 H2 : Hp} (a : ExB l H H1) (b : ExB l H1 H2) : ExB l H H2 := fun c o n h => b c o n (a c o n h)
theorem ExB.upd {l : Addr} {H : Hp} {o : HO} : ExB l H (upd H l o) := fun a u n h => by
  rw [upd_ne n]
  exact h
theorem ExB.w {l : Addr} {L : List Addr} {H H' : Hp} (e : ExB l H H') (m : l ∈ L) : Ex (W L H) (W L H') := fun a o h => by
  obtain ⟨h1, n⟩ := w_in h
  exact w_of n (e a o (fun z => n (by rw [z]; exact m)) h1)
theorem ExB.hid {l : Addr} {L : List Addr} {H H' : Hp} (e : ExB l H H') (hl : H' l ≠ none) (h : Hid L H) : Hid L H' := fun a m => by
  by_cases q : a = l
  · rw [q]
    exact hl
  · intro z
    cases r : H a with
    | none => exact h a m r
    | some o =>
      have t := e a o q r
      rw [z] at t
      cases t
def spSource (K : PySem.W.Frag) : Sp := fun vs H Q _ => ∃ (s : Addr) (ns : List Int) (i : Nat), vs = [.ref s, .int (i : Int)] ∧ SqL K H s (ns.map V.int) ∧ ns.length ≤ 63 ∧ i ≤ 100 ∧
  ∀ l o, H l = none → Dr 0 (upd H l o) l → Q (.ref l) (upd H l o)
def spDraw : Sp := fun vs H Q _ => ∃ (l : Addr) (many : Int) (n : Nat), vs = [.ref l, .int many] ∧ Dr n H l ∧ n < 1000000 ∧ 0 < many ∧ many < 1073741824 ∧
  ∀ r o, 0 ≤ r → r < many → Dr (n + 1) (upd H l o) l → Q (.int r) (upd H l o)
def spPick (K : PySem.W.Frag) : Sp := fun vs H Q _ => ∃ (l t : Addr) (ds : List PyData) (n : Nat) (L : List Addr), vs = [.ref l, .ref t] ∧ Dr n H l ∧ n < 1000000 ∧ l ∈ L ∧ Dp K (W L H) (.ref t) (.list ds) ∧ 0 < ds.length ∧ ds.length < 1073741824 ∧
  ∀ v d o, d ∈ ds → Dp K (W L (upd H l o)) v d → Dr (n + 1) (upd H l o) l → Q v (upd H l o)
end U

set_option Elab.async false
set_option linter.all false
set_option maxRecDepth 100000
set_option maxHeartbeats 2000000
namespace U
open PySem L2
open Evl (Ex)
theorem yes_lc {σ : L2.St} {H : Hp} {A B : Hp → Prop} (h : A H) : tYes σ H (fun b H3 => if b = true then A H3 else B H3) := by
  show (if true = true then A H else B H)
  rw [if_pos rfl]
  exact h
section
variable {K : PySem.W.Frag} {a b : Addr} {xs ys : List V} {σ : L2.St} {H : Hp}
theorem walk_zipT {n : Nat} (hn : n = min xs.length ys.length) : Walk (RZ.ItzT K a b) n (fun H => SqT K H a xs ∧ SqT K H b ys) (YPair (fun i => xs[i]?) (fun i => ys[i]?)) := by
  subst hn
  refine ⟨fun i _ hi q => ?_, fun _ q => ⟨xs, ys, q.1, q.2, by omega⟩, fun i H v H' _ q y => ?_⟩
  · have h1 : i < xs.length := by omega
    have h2 : i < ys.length := by omega
    exact ⟨xs, ys, xs[i], ys[i], q.1, q.2, by simp [h1], by simp [h2]⟩
  · obtain ⟨T, x, z, h1, h2, h3, h4, h5⟩ := y
    exact ⟨T, x, z, h1, h2, h3, h4 xs q.1, h5 ys q.2⟩
/-- what a comprehension of every item has made so far -/
def Cm (H : Hp) (v : Nat → V) (Dl : Addr) (i : Nat) (H' : Hp) : Prop := H Dl = none ∧ Ex H H' ∧ H' Dl = some (.lst ((List.range i).map v))
theorem cm_0 {v : Nat → V} {Dl : Addr} (h : H Dl = none) : Cm H v Dl 0 (upd H Dl (.lst [])) := ⟨h, Ex.new h, upd_same⟩
theorem cm_turn {H' : Hp} {v : Nat → V} {Dl : Addr} {i : Nat} {te : TE} {σ2 : L2.St} (p : Cm H v Dl i H') (hi : i < 50000) (H2 : Hp) (e2 : Ex H' H2) (he : Evl.Ev te σ2 H (v i)) :
    te σ2 H2 fun y H4 => ∃ acc, H4 Dl = some (.lst acc) ∧ acc.length < sizeLine ∧ Cm H v Dl (i + 1) (upd H4 Dl (.lst (acc ++ [y]))) := by
  obtain ⟨p1, p2, p3⟩ := p
  refine he H2 (p2.trans e2) _ fun H4 e4 => ⟨_, e4 Dl _ (e2 Dl _ p3), Evl.sz_lt (by rw [List.length_map, List.length_range]; omega), p1, Evl.Ex.mut ((p2.trans e2).trans e4) p1, ?_⟩
  rw [upd_same, List.range_succ, List.map_append]
  rfl
theorem el_zip {ta : TA} {te : TE} {i1 i2 : Nat} {vs : List Nat} {v : Nat → V} (h : Evl.EvA ta σ H [.ref a, .ref b]) (hx : (SqL K H a xs ∧ SqL K H b ys) ∨ (SqT K H a xs ∧ SqT K H b ys)) (hl : xs.length = ys.length) (hz : xs.length ≤ 40000)
    (hw : ∀ x y, wipe (((wipe σ vs).set i1 (some x)).set i2 (some y)) vs = wipe σ vs)
    (he : ∀ (i : Nat) (x y : V) H1, Ex H H1 → xs[i]? = some x → ys[i]? = some y → Evl.Ev te (((wipe σ vs).set i1 (some x)).set i2 (some y)) H1 (v i)) :
    Evl.EvL (tLc (RZ.iZipA K ta) (gTup K 2 (gCons (gName i1) (gCons (gName i2) gNil))) tYes te vs) σ H ((List.range xs.length).map v) := fun H0 e0 Q q => h H0 e0 _ fun H1 e1 => by
  have turn : ∀ (Dl : Addr) (i : Nat) (x : V) (H2 H3 : Hp), i < xs.length → Cm H1 v Dl i H2 → YPair (fun i => xs[i]?) (fun i => ys[i]?) i H2 x H3 → gTup K 2 (gCons (gName i1) (gCons (gName i2) gNil)) x (wipe σ vs) H3 fun σ2 H2 => wipe σ2 vs = wipe σ vs ∧ tYes σ2 H2 fun b H3 =>
      if b = true then te σ2 H3 fun y H4 => ∃ acc, H4 Dl = some (.lst acc) ∧ acc.length < sizeLine ∧ Cm H1 v Dl (i + 1) (upd H4 Dl (.lst (acc ++ [y]))) else Cm H1 v Dl (i + 1) H3 := by
    intro Dl i x H2 H3 hi p yp
    obtain ⟨T, u, w, rfl, hT, rfl, hu, hw'⟩ := yp
    refine ⟨T, [u, w], rfl, SqT.of upd_same, rfl, u, [w], rfl, w, [], rfl, rfl, hw u w, ?_⟩
    exact yes_lc (A := fun H3 => te ((List.set (wipe σ vs) i1 (some u)).set i2 (some w)) H3 fun y H4 => ∃ acc, H4 Dl = some (.lst acc) ∧ acc.length < sizeLine ∧ Cm H1 v Dl (i + 1) (upd H4 Dl (.lst (acc ++ [y])))) (B := fun H3 => Cm H1 v Dl (i + 1) H3) <| cm_turn p (by omega) _ (Ex.new hT) (he i u w _ (e0.trans e1) hu hw')
  rcases hx with ⟨x1, x2⟩ | ⟨x1, x2⟩
  · refine ⟨a, b, xs, ys, rfl, .inl ⟨Evl.ex_l (e0.trans e1) x1, Evl.ex_l (e0.trans e1) x2, fun Dl hD => ?_⟩⟩
    exact lc_it (walk_zip (n := xs.length) (by omega)) (Cm H1 v Dl) (cm_0 hD) (fun i H2 _ p => ⟨Evl.ex_l ((e0.trans e1).trans p.2.1) x1, Evl.ex_l ((e0.trans e1).trans p.2.1) x2⟩) (fun i x H2 H3 hi p y => turn Dl i x H2 H3 hi p y)
      (fun H2 p => q Dl H2 (Evl.fresh_back e1 p.1) (e1.trans p.2.1) p.2.2)
  · refine ⟨a, b, xs, ys, rfl, .inr ⟨Evl.ex_t (e0.trans e1) x1, Evl.ex_t (e0.trans e1) x2, fun Dl hD => ?_⟩⟩
    exact lc_it (walk_zipT (n := xs.length) (by omega)) (Cm H1 v Dl) (cm_0 hD) (fun i H2 _ p => ⟨Evl.ex_t ((e0.trans e1).trans p.2.1) x1, Evl.ex_t ((e0.trans e1).trans p.2.1) x2⟩) (fun i x H2 H3 hi p y => turn Dl i x H2 H3 hi p y)
      (fun H2 p => q Dl H2 (Evl.fresh_back e1 p.1) (e1.trans p.2.1) p.2.2)
theorem ev_all {te : TE} {bs : List Bool} (h : Evl.EvL te σ H (bs.map V.bl)) : Evl.Ev (tCB (rAll K) (tCons te tNil)) σ H (.bl (bs.all id)) := fun H1 e1 Q q =>
  h H1 e1 _ fun p H2 hp e2 h2 => ⟨p, bs, rfl, SqL.of h2, q H2 e2⟩
theorem ev_any {te : TE} {bs : List Bool} (h : Evl.EvL te σ H (bs.map V.bl)) : Evl.Ev (tCB (rAny K) (tCons te tNil)) σ H (.bl (bs.any id)) := fun H1 e1 Q q =>
  h H1 e1 _ fun p H2 hp e2 h2 => ⟨p, bs, rfl, SqL.of h2, q H2 e2⟩
theorem ev_callD {sp : Sp} {ta : TA} {vs : List V} {z : V} (h : Evl.EvA ta σ H vs) (hs : ∀ H1, Ex H H1 → ∀ Q : VK, (∀ H2, Ex H1 H2 → Q z H2) → sp vs H1 Q E0) : Evl.Ev (tCallD sp ta) σ H z := fun H1 e Q q =>
  h H1 e _ fun H2 e2 => hs H2 (e.trans e2) Q fun H3 e3 => q H3 (e2.trans e3)
end
/-! ### data no deeper than n -/
def fits : Nat → PyData → Prop
  | 0, .list _ => False
  | 0, .tuple _ => False
  | n + 1, .list ds => ds.length ≤ 40000 ∧ ∀ d ∈ ds, fits n d
  | n + 1, .tuple ds => ds.length ≤ 40000 ∧ ∀ d ∈ ds, fits n d
  | _, .dict _ => False
  | _, _ => True
theorem fits_up : ∀ {n m : Nat} {d : PyData}, n ≤ m → fits n d → fits m d
  | 0, 0, _, _, h => h
  | 0, m + 1, d, _, h => by
    cases d with
    | list ds => exact h.elim
    | tuple ds => exact h.elim
    | dict _ => exact h.elim
    | _ => trivial
  | n + 1, 0, _, e, _ => by omega
  | n + 1, m + 1, d, e, h => by
    cases d with
    | list ds => exact ⟨h.1, fun z hz => fits_up (by omega) (h.2 z hz)⟩
    | tuple ds => exact ⟨h.1, fun z hz => fits_up (by omega) (h.2 z hz)⟩
    | dict _ => exact h.elim
    | _ => trivial
/-- two readings of the same data: True -/
def spSame (K : PySem.W.Frag) (n : Nat) : Sp := fun vs H Q _ => ∃ (x y : V) (d : PyData), vs = [x, y] ∧ Dp K H x d ∧ Dp K H y d ∧ fits n d ∧ ∀ H', Ex H H' → Q (.bl true) H'
end U

set_option Elab.async false
set_option linter.all false
set_option maxRecDepth 100000
set_option maxHeartbeats 2000000
namespace U
open PySem L2
open Evl (Ex)
/-! ### what evaluates to data -/
section
variable {K : PySem.W.Frag} {L : List Addr} {σ : L2.St} {H H' : Hp} {te tb : TE} {ta tr : TA} {v : V} {d : PyData} {ds : List PyData} {l p : Addr} {o : HO}
def EvD (K : PySem.W.Frag) (L : List Addr) (te : TE) (σ : L2.St) (H : Hp) (d : PyData) : Prop := ∀ H1, Ex H H1 → ∀ Q : VK, (∀ v H2, Ex H1 H2 → Dp K (W L H2) v d → Q v H2) → te σ H1 Q
def EvDs (K : PySem.W.Frag) (L : List Addr) (ta : TA) (σ : L2.St) (H : Hp) (ds : List PyData) : Prop := ∀ H1, Ex H H1 → ∀ Q : List V → Hp → Prop, (∀ vs H2, Ex H1 H2 → DpAll K (W L H2) vs ds → Q vs H2) → ta σ H1 Q
theorem EvD.mono (e : Ex H H') (h : EvD K L te σ H d) : EvD K L te σ H' d := fun H1 a Q q => h H1 (e.trans a) Q q
theorem EvDs.mono (e : Ex H H') (h : EvDs K L ta σ H ds) : EvDs K L ta σ H' ds := fun H1 a Q q => h H1 (e.trans a) Q q
theorem evd_of (h : Evl.Ev te σ H v) (hd : Dp K (W L H) v d) : EvD K L te σ H d := fun H1 e Q q => h H1 e _ fun H2 e2 => q v H2 e2 (hd.up (w_ex (e.trans e2)))
theorem evd_var {i : Nat} (h : σ[i]? = some (some v)) (hd : Dp K (W L H) v d) : EvD K L (tVar i) σ H d := evd_of (Evl.ev_var h) hd
theorem evd_int {i : Int} : EvD K L (tC (.int i)) σ H (.int i) := evd_of Evl.ev_c (.int i)
theorem evd_bl {b : Bool} : EvD K L (tC (.bl b)) σ H (.bool b) := evd_of Evl.ev_c (.bl b)
theorem evd_non : EvD K L (tC .non) σ H .none := evd_of Evl.ev_c .non
theorem evd_str {x : Str} : EvD K L (tC (.str x)) σ H (.str x) := evd_of Evl.ev_c (.str x)
theorem evd_evI {i : Int} (h : Evl.Ev te σ H (.int i)) : EvD K L te σ H (.int i) := evd_of h (.int i)
theorem evd_evB {b : Bool} (h : Evl.Ev te σ H (.bl b)) : EvD K L te σ H (.bool b) := evd_of h (.bl b)
theorem evds_nil : EvDs K L tNil σ H [] := fun H1 _ _ q => q [] H1 (Ex.refl H1) .nil
theorem evds_cons (h : EvD K L te σ H d) (hr : EvDs K L tr σ H ds) : EvDs K L (tCons te tr) σ H (d :: ds) := fun H1 e Q q =>
  h H1 e _ fun v H2 e2 hv => hr H2 (e.trans e2) _ fun vs H3 e3 hvs => q (v :: vs) H3 (e2.trans e3) (.cons (hv.up (w_ex e3)) hvs)
theorem evd_tup (hL : Hid L H) (h : EvDs K L ta σ H ds) (hz : ds.length ≤ 100000) : EvD K L (tTup ta) σ H (.tuple ds) := fun H1 e Q q =>
  h H1 e _ fun vs H2 e2 hv => ⟨Evl.sz_of (by rw [dpa_len hv]; exact hz), fun p hp => q (.ref p) _ (e2.trans (Ex.new hp)) (.tup (SqT.of (w_new (hid_ex (e.trans e2) hL) hp)) (hv.up (w_ex (Ex.new hp))))⟩
theorem evd_lst (hL : Hid L H) (h : EvDs K L ta σ H ds) (hz : ds.length ≤ 100000) : EvD K L (tLst ta) σ H (.list ds) := fun H1 e Q q =>
  h H1 e _ fun vs H2 e2 hv => ⟨Evl.sz_of (by rw [dpa_len hv]; exact hz), fun p hp => q (.ref p) _ (e2.trans (Ex.new hp)) (.lst (SqL.of (w_new (hid_ex (e.trans e2) hL) hp)) (hv.up (w_ex (Ex.new hp))))⟩
theorem w_fresh (hp : H p = none) : Ex (W L H) (W (p :: L) (upd H p o)) := fun a u h => by
  obtain ⟨h1, n⟩ := w_in h
  have ne : a ≠ p := ne_of_none h1 hp
  exact w_of (fun m => (List.mem_cons.mp m).elim ne n) (by rw [upd_ne ne]; exact h1)
theorem w_cons : Ex (W (p :: L) H) (W L H) := w_sub2 fun a m => List.mem_cons_of_mem _ m
/-! ### a list that grows -/
/-- at l a list of the data ds, which do not hang on l -/
def Gr (K : PySem.W.Frag) (L : List Addr) (H : Hp) (l : Addr) (ds : List PyData) : Prop := l ∉ L ∧ ∃ xs, H l = some (.lst xs) ∧ DpAll K (W (l :: L) H) xs ds
theorem Gr.dp (h : Gr K L H l ds) : Dp K (W L H) (.ref l) (.list ds) := by
  obtain ⟨n, xs, h1, h2⟩ := h
  exact .lst (SqL.of (w_of n h1)) (h2.up w_cons)
theorem Gr.up (h : Gr K L H l ds) (e : Ex H H') : Gr K L H' l ds := by
  obtain ⟨n, xs, h1, h2⟩ := h
  exact ⟨n, xs, e _ _ h1, h2.up (w_ex e)⟩
theorem Gr.ne (h : Gr K L H l ds) : H l ≠ none := by
  obtain ⟨n, xs, h1, h2⟩ := h
  rw [h1]
  simp
theorem gr_new {xs : List V} (hL : Hid L H) (hp : H p = none) (h : DpAll K (W L H) xs ds) : Gr K L (upd H p (.lst xs)) p ds := ⟨hid_not hL hp, xs, upd_same, h.up (w_fresh hp)⟩
/-- a heap that differs at l alone, where the list has one more -/
theorem gr_app {xs : List V} (n : l ∉ L) (h1 : H l = some (.lst xs)) (h2 : DpAll K (W (l :: L) H) xs ds) (hv : Dp K (W (l :: L) H) v d) : Gr K L (upd H l (.lst (xs ++ [v]))) l (ds ++ [d]) := by
  refine ⟨n, xs ++ [v], upd_same, ?_⟩
  rw [w_upd_in (List.mem_cons_self ..)]
  exact dpa_app h2 (.cons hv .nil)
/-! ### statements -/
variable {D : Ends} {tz tu : TS} {i : Nat}
theorem d_asg (h : EvD K L te σ H d) (k : ∀ v H1, Ex H H1 → Dp K (W L H1) v d → D.nx (σ.set i (some v)) H1) : tAsg te (gName i) D σ H := h H (Ex.refl H) _ fun v H1 e hv => k v H1 e hv
theorem qd_asg (h : EvD K L te σ H d) (k : ∀ v H1, Ex H H1 → Dp K (W L H1) v d → tz D (σ.set i (some v)) H1) : tSeq (tAsg te (gName i)) tz D σ H := d_asg (D := { D with nx := tz D }) h k
theorem d_ret (h : EvD K L te σ H d) (k : ∀ v H1, Ex H H1 → Dp K (W L H1) v d → D.rt v H1) : tRet te D σ H := h H (Ex.refl H) _ fun v H1 e hv => k v H1 e hv
theorem qd_lst (hL : Hid L H) (h : EvDs K L ta σ H ds) (hz : ds.length ≤ 100000) (k : ∀ p H1, H p = none → Ex H H1 → Gr K L H1 p ds → tz D (σ.set i (some (.ref p))) H1) : tSeq (tAsg (tLst ta) (gName i)) tz D σ H :=
  h H (Ex.refl H) _ fun vs H1 e hv => ⟨Evl.sz_of (by rw [dpa_len hv]; exact hz), fun p hp => k p _ (Evl.fresh_back e hp) (e.trans (Ex.new hp)) (gr_new (hid_ex e hL) hp hv)⟩
theorem d_app (hg : Gr K L H l ds) (ho : Evl.Ev tb σ H (.ref l)) (h : EvD K (l :: L) te σ H d) (hz : ds.length < 100000) (k : ∀ o H1, Ex H H1 → Gr K L (upd H1 l o) l (ds ++ [d]) → D.nx σ (upd H1 l o)) :
    tDrop (tBM K "list" rAppend tb (tCons te tNil)) D σ H := ho H (Ex.refl H) _ fun H1 e1 => by
  obtain ⟨n, xs, h1, h2⟩ := hg
  refine ⟨Or.inl ⟨rfl, xs, SqL.of (e1 l _ h1)⟩, h H1 e1 _ fun v H2 e2 hv => ⟨l, xs, v, rfl, rfl, e2 l _ (e1 l _ h1), Evl.sz_lt (by rw [dpa_len h2]; exact hz), k _ H2 (e1.trans e2) ?_⟩⟩
  exact gr_app n (e2 l _ (e1 l _ h1)) (h2.up (w_ex (e1.trans e2))) hv
theorem qd_app (hg : Gr K L H l ds) (ho : Evl.Ev tb σ H (.ref l)) (h : EvD K (l :: L) te σ H d) (hz : ds.length < 100000) (k : ∀ o H1, Ex H H1 → Gr K L (upd H1 l o) l (ds ++ [d]) → tz D σ (upd H1 l o)) :
    tSeq (tDrop (tBM K "list" rAppend tb (tCons te tNil))) tz D σ H := d_app (D := { D with nx := tz D }) hg ho h hz k
/-- xs + ys, the left a list that stands, the right a new one -/
theorem evd_cat {es : List PyData} (hL : Hid L H) (hg : Gr K L H l ds) (ho : Evl.Ev te σ H (.ref l)) (h : EvDs K L ta σ H es) (hz : ds.length + es.length ≤ 100000) : EvD K L (tOp rCat te (tLst ta)) σ H (.list (ds ++ es)) := fun H1 e1 Q q =>
  ho H1 e1 _ fun H2 e2 => h H2 (e1.trans e2) _ fun vs H3 e3 hv => by
    have eA := (e1.trans e2).trans e3
    obtain ⟨n, xs, h1, h2⟩ := hg
    have l1 := dpa_len h2
    have l2 := dpa_len hv
    refine ⟨Evl.sz_of (by omega), fun p hp => ⟨l, p, xs, vs, rfl, rfl, ?_, upd_same, Evl.sz_of (by omega), fun r hr => ?_⟩⟩
    · exact (eA.trans (Ex.new hp)) l _ h1
    · refine q (.ref r) _ ((e2.trans e3).trans ((Ex.new hp).trans (Ex.new hr))) (.lst (SqL.of (w_new (hid_upd (hid_ex eA hL)) hr)) ?_)
      have z : Ex (W L H3) (W L (upd (upd H3 p (.lst vs)) r (.lst (xs ++ vs)))) := w_ex ((Ex.new hp).trans (Ex.new hr))
      exact dpa_app (((h2.up w_cons).up (w_ex eA)).up z) (hv.up z)
/-- xs.extend(ys), ys a new list -/
theorem d_ext {es : List PyData} (hg : Gr K L H l ds) (hL : Hid L H) (ho : Evl.Ev tb σ H (.ref l)) (h : EvDs K (l :: L) ta σ H es) (hz : ds.length + es.length ≤ 100000) (k : ∀ o H1, Ex H H1 → Gr K L (upd H1 l o) l (ds ++ es) → D.nx σ (upd H1 l o)) :
    tDrop (tBM K "list" rExtend tb (tCons (tLst ta) tNil)) D σ H := ho H (Ex.refl H) _ fun H1 e1 => by
  obtain ⟨n, xs, h1, h2⟩ := hg
  refine ⟨Or.inl ⟨rfl, xs, SqL.of (e1 l _ h1)⟩, h H1 e1 _ fun vs H2 e2 hv => ?_⟩
  have l1 := dpa_len h2
  have l2 := dpa_len hv
  refine ⟨Evl.sz_of (by omega), fun p hp => ?_⟩
  have e3 : Ex H2 (upd H2 p (.lst vs)) := Ex.new hp
  have eA := (e1.trans e2).trans e3
  refine ⟨l, p, xs, vs, rfl, rfl, eA l _ h1, upd_same, Evl.sz_of (by omega), k _ _ eA ⟨n, xs ++ vs, upd_same, ?_⟩⟩
  rw [w_upd_in (List.mem_cons_self ..)]
  exact dpa_app (h2.up (w_ex eA)) (hv.up (w_ex e3))
theorem qd_ext {es : List PyData} (hg : Gr K L H l ds) (hL : Hid L H) (ho : Evl.Ev tb σ H (.ref l)) (h : EvDs K (l :: L) ta σ H es) (hz : ds.length + es.length ≤ 100000) (k : ∀ o H1, Ex H H1 → Gr K L (upd H1 l o) l (ds ++ es) → tz D σ (upd H1 l o)) :
    tSeq (tDrop (tBM K "list" rExtend tb (tCons (tLst ta) tNil))) tz D σ H := d_ext (D := { D with nx := tz D }) hg hL ho h hz k
end
end U

set_option Elab.async false
set_option linter.all false
set_option maxRecDepth 100000
set_option maxHeartbeats 4000000
namespace UX
open PySem PySem.W PySem.Calls PyProof.Rows PySem.HandSPX
section
variable {M : Model} {A : Around} {E : Value → Shared → Prop} {h : Heap} {g : Array GenState} {d : Drawn} {t : Nat} {os : OsState}
variable {nm q : Str} {C N : Addr} {bs bm bmB : List Value} {hd : Bool} {sn : List Str} {sub : List Value} {ab : Bool} {col : Option Bool} {dd : Option Addr} {k0 k1 k2 k3 k5 : Option Value} {B nid iid : String}
/-- keywords are no fault of a call of such a __new__ -/
theorem kw_check (F : ExcBaseFacts B nid iid bmB) (hT : ∀ X : String, bm.contains (.type X) = bmB.contains (.type X)) {kw : List (Str × Value)} {Q : Unit → Shared → Prop}
    (hC : h.get? C = some (excClassObj nm q C N bs bm hd sn sub ab col dd k0 k1 k2 k3 k5 nid)) (hq : Q () ⟨h, g, d, t, os⟩) : wpAny M A (checkBuiltinCall nid ⟨[.ref C], kw⟩) Q E ⟨h, g, d, t, os⟩ := by
  have inB : (Value.ref C :: bm).contains (.type B) = true := (List.contains_cons ..).trans (by rw [hT, F.hasB]; exact Bool.or_true _)
  have star := F.noStar
  simp only [checkBuiltinCall, F.newKind, F.newSplit, F.newRow]
  repeat (first | refine wpAny_loadPart_at hC ?_ | (refine wpAny_isSubtype_exc hC ?_; rw [inB]) | refine wpAny_staticBase_exc hC ?_ | refine wpAny_madeBy_exc hC ?_ | (simp only [bne_self_eq_false, Bool.false_eq_true, if_false]) | wp_step)
  exact hq
end
section
variable {prog : Program} {w : World} {A : Around} {E : Value → Shared → Prop} {R : Result → Shared → Prop} {h : Heap} {g : Array GenState} {d : Drawn} {t : Nat} {os : OsState}
variable {nm q : Str} {C N : Addr} {bs bm bmB : List Value} {hd : Bool} {sn : List Str} {sub : List Value} {ab : Bool} {col : Option Bool} {dd : Option Addr} {k0 k1 k2 k3 k5 : Option Value} {B nid iid : String}
/-- the heap behind the making of an exception without arguments -/
abbrev mkd (h : Heap) (C : Addr) : Heap := (h.push (kdv_tup [])).push (excO C h.objs.size)
theorem kw_new (F : ExcBaseFacts B nid iid bmB) (hT : ∀ X : String, bm.contains (.type X) = bmB.contains (.type X)) {kw : List (Str × Value)} (hC : h.get? C = some (excClassObj nm q C N bs bm hd sn sub ab col dd k0 k1 k2 k3 k5 nid))
    (hq : R (.ok (.ret (.ref (h.objs.size + 1)))) ⟨mkd h C, g, d, t, os⟩) : codeAny (model prog w) A (.builtin nid ⟨[.ref C], kw⟩) R ⟨h, g, d, t, os⟩ := by
  have ends := F.ends
  have inB : (Value.ref C :: bm).contains (.type B) = true := (List.contains_cons ..).trans (by rw [hT, F.hasB]; exact Bool.or_true _)
  have noA : (Value.ref C :: bm).contains (.type "AttributeError") = false := (List.contains_cons ..).trans (by rw [hT, F.noAttr]; rfl)
  have noN : (Value.ref C :: bm).contains (.type "NameError") = false := (List.contains_cons ..).trans (by rw [hT, F.noName]; rfl)
  have none0 : ([] : List Value).length ≤ sizeLine := Nat.zero_le _
  refine codeAny_builtinAt F.entry ?_
  unfold Builtin.«BaseException.__new__»
  refine PySem.wpAt_bind ?_
  show PySem.wpAt _ _ _ (stack >>= _) _ _ _
  refine PySem.wpAt_bind (PySem.wpAt_stack fun p below => PySem.wpAt_of_wpAny ?_)
  wp_walk
  refine PySem.wpAt_of_wpAny ?_
  rw [F.owner]
  repeat (first | with_reducible refine wpAny_madeHere_exc F.canon hC ?_ | with_reducible refine wpAny_loadPart_at hC ?_ | (with_reducible refine wpAny_isSubtype_exc hC ?_; first | rw [inB] | rw [noA] | rw [noN]) | wp_step)
  show R _ _
  rw [Heap.size_push]
  exact hq
theorem kw_type (F : ExcBaseFacts B nid iid bmB) (hT : ∀ X : String, bm.contains (.type X) = bmB.contains (.type X)) {kw : List (Str × Value)} {fI : Addr} {Q : Fin → Shared → Prop} (hC : h.get? C = some (excClassObj nm q C N bs bm hd sn sub ab col dd k0 k1 k2 k3 k5 nid))
    (hi : Looks (model prog w) h (typeLookup (.ref C) "__init__") (some (.ref fI))) (hb : ∀ self, Looks (model prog w) h (bindSpecial (.ref fI) self) (.ref fI, [self]))
    (hq : codeAny (model prog w) A (.call (.ref fI) ⟨[.ref (h.objs.size + 1)], kw⟩) (fun r s' => match r with | .ok (.ret v) => v = .none ∧ Q (.done (.ret (.ref (h.objs.size + 1)))) s' | .ok _ => False | .error e => E e s') ⟨mkd h C, g, d, t, os⟩) :
    wpAny (model prog w) A (Builtin.«type.__call__» ⟨[.ref C], kw⟩) Q E ⟨h, g, d, t, os⟩ := by
  repeat (first | with_reducible refine wpAny_loadPart_at hC ?_ | with_reducible refine wpAny_madeBy_exc hC ?_ | wp_step)
  refine codeAny_call_builtin_code (Code.quiet_builtin _ F.quiet) (kw_check F hT hC ?_)
  refine kw_new F hT hC ?_
  show wpAny _ _ _ _ _ _
  have kp : ∀ b o, h.get? b = some o → (mkd h C).get? b = some o := fun b o e => Heap.get?_push_of_some _ (Heap.get?_push_of_some _ e)
  have hC1 := kp _ _ hC
  have get1 : (mkd h C).get? (h.objs.size + 1) = some (excO C h.objs.size) := by heap_get
  have self1 : (Value.ref C :: bm).contains (.ref C) = true := by simp
  have i1 := hi.keeps kp
  have b1 := (hb (.ref (h.objs.size + 1))).keeps kp
  unfold isInstance
  repeat (first | with_reducible refine wpAny_loadPart_at get1 ?_ | (with_reducible refine wpAny_isSubtype_exc hC1 ?_; rw [self1]) | wp_step)
  show wpAny _ _ (typeLookup (.ref C) _) _ _ _
  refine i1.at ?_
  refine wpAny_holding (wpAny_bind (b1.at ?_))
  refine wpAny_bind (wpAny_call (codeAny_mono hq fun r s' z => ?_))
  cases r with
  | error e => exact z
  | ok fl =>
    cases fl with
    | ret v =>
      obtain ⟨rfl, z⟩ := z
      first
        | exact wpAny_pure (wpAny_pure z)
        | (wp_walk; exact z)
    | next => exact z.elim
    | brk => exact z.elim
    | cont => exact z.elim
theorem kw_call (F : ExcBaseFacts B nid iid bmB) (hT : ∀ X : String, bm.contains (.type X) = bmB.contains (.type X)) {kw : List (Str × Value)} {fI : Addr} (hC : h.get? C = some (excClassObj nm q C N bs bm hd sn sub ab col dd k0 k1 k2 k3 k5 nid))
    (hi : Looks (model prog w) h (typeLookup (.ref C) "__init__") (some (.ref fI))) (hb : ∀ self, Looks (model prog w) h (bindSpecial (.ref fI) self) (.ref fI, [self]))
    (hq : codeAny (model prog w) (A.under (.builtin "type.__call__" ⟨[.ref C], kw⟩)) (.call (.ref fI) ⟨[.ref (h.objs.size + 1)], kw⟩) (InitBack (h.objs.size + 1) R) ⟨mkd h C, g, d, t, os⟩) :
    codeAny (model prog w) A (.call (.ref C) ⟨[], kw⟩) R ⟨h, g, d, t, os⟩ := by
  have f1 := tc_lookup
  have f2 := tc_bind (.ref C)
  have tyC : (⟨h, g, d, t, os⟩ : Shared).TypeIs (.ref C) "type" := ⟨_, hC, rfl⟩
  refine codeAny_of_tree ?_
  show wpAny _ _ (callAny (.ref C) _) _ _ _
  repeat (any_goals (first | assumption | with_reducible refine wpAny_loadPart_at hC ?_ | wp_step))
  refine ⟨rfl, ?_⟩
  refine codeAny_call_builtin_at (Code.quiet_builtin _ (by decide +kernel)) entry_typeCall (wpAny_check_type_call_sub hC (kw_type F hT hC hi hb ?_))
  refine codeAny_mono hq fun r s' z => ?_
  cases r with
  | error e => exact z
  | ok fl => cases fl <;> exact z
end
end UX

set_option Elab.async false
set_option linter.all false
set_option maxRecDepth 100000
set_option maxHeartbeats 4000000
namespace U
open PySem L2 PyProof.Rows
open Evl (Ex)
/-! ### errors of the text as values -/
/-- what a class of errors with its own __init__(self, f) says -/
structure ErrC (P : Program) (w : World) (K : PySem.W.Frag) (mg : Str → Option Value) (base : Heap) (x : Str) (C : Addr) (f : Str) : Prop where
  T : OexC K C
  gC : mg x = some (.ref C)
  xf : XfC K C
  no : PySem.W.findIn K (.ref C) f = some none
  init : ∃ (fI : Addr) (fd : FuncData), PySem.W.findIn K (.ref C) "__init__" = some (some (.ref fI)) ∧ PySem.W.typeIn K (.ref fI) = some (.type "function") ∧
    FnOk P w K mg base CX0 1 fI fd ["self", f] (fun vs H Q _ => ∃ (a : Addr) (v : V), vs = [.ref a, v] ∧ H a = some (exo a C none) ∧ ∀ dx, H dx = none → dx ≠ a → Q .non (upd (upd H dx (exd dx [(f, v)])) a (exo a C (some dx)))) ∧
    Binds K fd ["self", f] [] ∧ (∀ (s : Shared) (u v : Value), BindsTo s fd ⟨[u], [(f, v)]⟩ [("self", u), (f, v)])
/-- at a an error of the class at C whose attribute f is v -/
def ErrAt (H : Hp) (a C : Addr) (f : Str) (v : V) : Prop := ∃ d : Addr, H a = some (exo a C (some d)) ∧ H d = some (exd d [(f, v)])
theorem ErrAt.up {H H' : Hp} {a C : Addr} {f : Str} {v : V} (h : ErrAt H a C f v) (e : Ex H H') : ErrAt H' a C f v := by
  obtain ⟨d, h1, h2⟩ := h
  exact ⟨d, e _ _ h1, e _ _ h2⟩
/-- at a an error of the class at C -/
def ErrOf (H : Hp) (a C : Addr) : Prop := (∃ (d : Addr) (fs : List (Str × V)), H a = some (exo a C (some d)) ∧ H d = some (exd d fs)) ∨ H a = some (ExO (.ref C) a)
theorem ErrOf.up {H H' : Hp} {a C : Addr} (h : ErrOf H a C) (e : Ex H H') : ErrOf H' a C := by
  rcases h with ⟨d, fs, h1, h2⟩ | h1
  · exact .inl ⟨d, fs, e _ _ h1, e _ _ h2⟩
  · exact .inr (e _ _ h1)
theorem ErrAt.of {H : Hp} {a C : Addr} {f : Str} {v : V} (h : ErrAt H a C f v) : ErrOf H a C := by
  obtain ⟨d, h1, h2⟩ := h
  exact .inl ⟨d, _, h1, h2⟩
theorem err_laid {H : Hp} {a dx C : Addr} {f : Str} {v : V} (ha : H a = none) (hd : H dx = none) (n : dx ≠ a) :
    Ex H (upd (upd (upd H a (exo a C none)) dx (exd dx [(f, v)])) a (exo a C (some dx))) ∧ ErrAt (upd (upd (upd H a (exo a C none)) dx (exd dx [(f, v)])) a (exo a C (some dx))) a C f v := by
  refine ⟨fun b o e => ?_, dx, upd_same, ?_⟩
  · have n1 : b ≠ a := ne_of_none e ha
    have n2 : b ≠ dx := ne_of_none e hd
    rw [upd_ne n1, upd_ne n2, upd_ne n1]
    exact e
  · rw [upd_ne n, upd_same]
section
variable {X : Cx} {x f : Str} {C : Addr} {e : Expr} {te : TE} {p pos kpos apos : Pos}
/-- X(e): a new error -/
def tErr (C : Addr) (f : Str) (te : TE) : TE := fun σ H Q => te σ H fun v H1 => ∀ a H2, H1 a = none → Ex H1 H2 → ErrAt H2 a C f v → Q (.ref a) H2
theorem err_size {us : List Value} (h : us.length ≤ 1) : us.length ≤ sizeLine := by
  rw [sizeLine_eq]
  omega
theorem pe_err (R : ErrC X.prog X.w X.K X.mg X.base x C f) (hr : Room 2 X.A) (hg : Gl X x) (he : PE X e te) (hdb : (x == ("__debug__" : Str)) = false := by decide)
    (hs : starEach [e] X.env = (false, eval e X.env) :: starEach [] X.env := by rfl) : PE X (.Call (.Name x p) [e] [] pos) (tErr C f te) := by
  refine ⟨fun pins s σ H Q I h => ?_⟩
  obtain ⟨fI, fd, iC, tI, F1, hb, _⟩ := R.init
  obtain ⟨nm, q, N, bs, bm, sn, sub, ab, col, dd, k0, k1, k2, k3, k5, hC, hbm⟩ := R.T.cls
  refine wpAny_Call_Name_kw (ld_glob I hg R.gC ?_ hdb)
  refine PySem.W.callWith_K (h₀ := X.base) I.ok.mod.kin R.T.kC ?_ hs (by rfl)
  rw [hs]
  show wpAny _ _ (spliced ((false, eval e X.env) :: backTo pos (starEach [] X.env))) _ _ s
  refine Calls.spliced_cons (thn (he.run pins s σ H _ I h) fun u s1 ⟨v, H1, I1, r1, q1⟩ => Calls.spliced_nil ⟨I1.kIn, ?_⟩)
  show wpAny _ _ (call (.ref C) [u]) _ _ _
  obtain ⟨hp, g, dr, tk, os⟩ := s1
  have hsz : hp.objs.size ≤ hp.objs.size + 1 := Nat.le_succ _
  have hn : H1 (hp.objs.size + 1) = none := I1.hok.fresh hsz
  have kk : ∀ b o, hp.get? b = some o → ((hp.push (PySem.W.kdv_tup [u])).push (PySem.HandSPX.excO C hp.objs.size)).get? b = some o := fun b o z => Heap.get?_push_of_some _ (Heap.get?_push_of_some _ z)
  have hget : ((hp.push (PySem.W.kdv_tup [u])).push (PySem.HandSPX.excO C hp.objs.size)).get? (hp.objs.size + 1) = some (PySem.HandSPX.excO C hp.objs.size) := by heap_get
  have I2 : Inv X pins σ (upd H1 (hp.objs.size + 1) (exo (hp.objs.size + 1) C none)) ⟨(hp.push (PySem.W.kdv_tup [u])).push (PySem.HandSPX.excO C hp.objs.size), g, dr, tk, os⟩ :=
    I1.laid (t' := tk) (a := hp.objs.size + 1) (o := exo (hp.objs.size + 1) C none) (h' := (hp.push (PySem.W.kdv_tup [u])).push (PySem.HandSPX.excO C hp.objs.size)) kk hsz (exo_ok hget)
  have r2 : Vals [V.ref (hp.objs.size + 1), v] [Value.ref (hp.objs.size + 1), u] := .cons rfl (.cons r1 .nil)
  have bt := hb _ [Value.ref (hp.objs.size + 1), u] I2.kIn rfl
  rw [List.append_nil] at bt
  refine wpAny_call (PySem.HandSPX.call_own PySem.F.excBase_ValueError (fun Y => PySem.HandSPX.refsVE_contains Y bm hbm) (I1.kIn _ _ hC) (PySem.W.looks_findIn I1.kIn iC) (fun self => PySem.W.bind_fn I1.kIn self tI) (err_size (Nat.le_refl 1))
    (codeAny_mono (F1.run _ X.stack _ _ ⟨[Value.ref (hp.objs.size + 1), u], []⟩ [Value.ref (hp.objs.size + 1), u] _ (fun y H2 => y = .non ∧ Q (.ref (hp.objs.size + 1)) H2) (fun _ _ _ => False) (hr.make C [u] []) (I2.env0.make C [u] []) bt r2
      ⟨_, v, rfl, upd_same, fun dx hdx nx => ⟨rfl, ?_⟩⟩) fun r s' hq' => ?_))
  · have hd1 : H1 dx = none := by
      rw [upd_ne nx] at hdx
      exact hdx
    obtain ⟨z1, z2⟩ := err_laid (C := C) (f := f) (v := v) hn hd1 nx
    exact q1 _ _ hn z1 z2
  · cases r with
    | error er => exact False.elim hq'
    | ok fl =>
      cases fl with
      | ret u' =>
        obtain ⟨y, H', I3, ry, ey, q3⟩ := I2.after hq'
        subst ey
        exact ⟨ry, ⟨V.ref (hp.objs.size + 1), H', I3, rfl, q3⟩⟩
      | next => exact False.elim hq'
      | brk => exact False.elim hq'
      | cont => exact False.elim hq'
/-- of a list with one item -/
def only1 (R : V → Hp → Prop) : List V → Hp → Prop
  | [v], H => R v H
  | _, _ => False
theorem only1_is {R : V → Hp → Prop} : ∀ {vs : List V} {H : Hp}, only1 R vs H → ∃ v, vs = [v] ∧ R v H
  | [v], _, h => ⟨v, rfl, h⟩
  | [], _, h => h.elim
  | _ :: _ :: _, _, h => h.elim
/-- X(f=e) -/
theorem pe_errK (R : ErrC X.prog X.w X.K X.mg X.base x C f) (hr : Room 2 X.A) (hg : Gl X x) (he : PE X e te) (hdb : (x == ("__debug__" : Str)) = false := by decide) : PE X (.Call (.Name x p) [] [⟨some f, e, kpos⟩] pos) (tErr C f te) := by
  refine ⟨fun pins s σ H Q I h => ?_⟩
  obtain ⟨fI, fd, iC, tI, F1, _, hb⟩ := R.init
  obtain ⟨nm, q, N, bs, bm, sn, sub, ab, col, dd, k0, k1, k2, k3, k5, hC, hbm⟩ := R.T.cls
  refine wpAny_Call_Name_kw (ld_glob I hg R.gC ?_ hdb)
  have hk : PK X [⟨some f, e, kpos⟩] (tCons te tNil) := pk_cons he pk_nil
  refine PySem.W.callWith_KW0 (h₀ := X.base) I.ok.mod.kin R.T.kC (by rfl) (thn (hk.run pos pins s σ H (only1 fun v H1 => ∀ a H2, H1 a = none → Ex H1 H2 → ErrAt H2 a C f v → Q (.ref a) H2) I h) fun us s1 ⟨vs, H1, I1, r1, q0⟩ => ⟨I1.kIn, ?_⟩)
  obtain ⟨v, ev, q1⟩ := only1_is q0
  subst ev
  obtain ⟨u, eu, r9⟩ := Vals.one r1
  subst eu
  show wpAny _ _ (call (.ref C) [] [(f, u)]) _ _ _
  obtain ⟨hp, g, dr, tk, os⟩ := s1
  have hsz : hp.objs.size ≤ hp.objs.size + 1 := Nat.le_succ _
  have hn : H1 (hp.objs.size + 1) = none := I1.hok.fresh hsz
  have kk : ∀ b o, hp.get? b = some o → (UX.mkd hp C).get? b = some o := fun b o z => Heap.get?_push_of_some _ (Heap.get?_push_of_some _ z)
  have hget : (UX.mkd hp C).get? (hp.objs.size + 1) = some (PySem.HandSPX.excO C hp.objs.size) := by heap_get
  have I2 : Inv X pins σ (upd H1 (hp.objs.size + 1) (exo (hp.objs.size + 1) C none)) ⟨UX.mkd hp C, g, dr, tk, os⟩ :=
    I1.laid (t' := tk) (a := hp.objs.size + 1) (o := exo (hp.objs.size + 1) C none) (h' := UX.mkd hp C) kk hsz (exo_ok hget)
  have r2 : Vals [V.ref (hp.objs.size + 1), v] [Value.ref (hp.objs.size + 1), u] := .cons rfl (.cons r9 .nil)
  have bt := hb ⟨UX.mkd hp C, g, dr, tk, os⟩ (Value.ref (hp.objs.size + 1)) u
  refine wpAny_call (UX.kw_call PySem.F.excBase_ValueError (fun Y => PySem.HandSPX.refsVE_contains Y bm hbm) (I1.kIn _ _ hC) (PySem.W.looks_findIn I1.kIn iC) (fun self => PySem.W.bind_fn I1.kIn self tI)
    (codeAny_mono (F1.run _ X.stack _ _ ⟨[Value.ref (hp.objs.size + 1)], [(f, u)]⟩ [Value.ref (hp.objs.size + 1), u] _ (fun y H2 => y = .non ∧ Q (.ref (hp.objs.size + 1)) H2) (fun _ _ _ => False) (hr.make C [] [(f, u)]) (I2.env0.make C [] [(f, u)]) bt r2
      ⟨_, v, rfl, upd_same, fun dx hdx nx => ⟨rfl, ?_⟩⟩) fun r s' hq' => ?_))
  · have hd1 : H1 dx = none := by
      rw [upd_ne nx] at hdx
      exact hdx
    obtain ⟨z1, z2⟩ := err_laid (C := C) (f := f) (v := v) hn hd1 nx
    exact q1 _ _ hn z1 z2
  · cases r with
    | error er => exact False.elim hq'
    | ok fl =>
      cases fl with
      | ret u' =>
        obtain ⟨y, H', I3, ry, ey, q3⟩ := I2.after hq'
        subst ey
        exact ⟨ry, ⟨V.ref (hp.objs.size + 1), H', I3, rfl, q3⟩⟩
      | next => exact False.elim hq'
      | brk => exact False.elim hq'
      | cont => exact False.elim hq'
/-- e.f, e an error that stands -/
def tErrF (K : PySem.W.Frag) (f : Str) (te : TE) : TE := fun σ H Q => te σ H fun x H1 => ∃ (a C : Addr) (v : V), x = .ref a ∧ XfC K C ∧ PySem.W.findIn K (.ref C) f = some none ∧ ErrAt H1 a C f v ∧ Q v H1
theorem pe_errF (he : PE X e te) (hb : attributeBase e f X.env (eval e X.env) = eval e X.env := by rfl) : PE X (.Attribute e f pos) (tErrF X.K f te) := by
  refine ⟨fun pins s σ H Q I h => ?_⟩
  refine attr_of hb (thn (he.run pins s σ H _ I h) fun u s1 hh => ?_)
  obtain ⟨x, H1, I1, rx, a, C, v, ex, R, hno, ⟨d, ea, ed⟩, q⟩ := hh
  subst ex
  obtain rfl : u = Value.ref a := rx
  obtain ⟨t1, ho⟩ := exo_at I1.hok ea
  obtain ⟨mA, hns, rel⟩ := exd_at I1.hok ed
  obtain ⟨od, hd, hl⟩ := lookIn_ns hns
  have l1 : [(f, v)].lookup f = some v := by simp [List.lookup]
  obtain ⟨y, hy, ry⟩ := RelO.some_of (v := v) (o := mA f) (by rw [← l1]; exact rel f)
  have J : PySem.W.InstAt s1.heap a { cls := .ref C, dict := some d, data := .fields #[.ref t1, .none, .none, .none, .bool false, .none] } C (some od) := ⟨ho, rfl, rfl, hd⟩
  exact HandSPX.exc_get I1.kIn J R.ga R.gg R.exC (PySem.W.findObj_own R.hdC hno rfl (by rw [hl, hy])) (handed_of ry) ⟨v, H1, I1.tok _, ry, q⟩
/-- X(): an error of a class without own __init__ -/
theorem pe_err0 {bmB : List Value} {B nid iid : String} (F : ExcBaseFacts B nid iid bmB) (q : PySem.W.excIn X.K C bmB nid = true) (gC : X.mg x = some (.ref C)) (kC : PySem.W.keepIn X.K (.ref C) = true) (hg : Gl X x) (hdb : (x == ("__debug__" : Str)) = false := by decide) :
    PE X (.Call (.Name x p) [] [] pos) (fun _ H Q => ∀ a, H a = none → Q (.ref a) (upd H a (ExO (.ref C) a))) := by
  refine ⟨fun pins s σ H Q I h => ?_⟩
  refine wpAny_Call_Name_kw (ld_glob I hg gC ?_ hdb)
  refine PySem.W.callWith_K0 I.kIn kC ?_
  show wpAny _ _ (call (.ref C) []) _ _ _
  obtain ⟨bm, N, nm, qn, bs, hdct, sn, sub, ab, col, dd, k0, k1, k2, k3, k5, mN, hC, hN, hni, T⟩ := exc_obj I.kIn q
  refine wpAny_call_exc_subT F T hC hN hni (fun h' a hm => ?_) (Nat.zero_le _)
  have hn : H a = none := I.hok.gone hm.new
  obtain ⟨t, ht, _, _⟩ := hm.there
  exact ⟨.ref a, upd H a (ExO (.ref C) a), I.laidN hm.keeps hm.new hn (exO_ok ht ⟨rfl, rfl⟩ rfl rfl rfl (show 4 < 6 by decide)), rfl, h a hn⟩
/-- what the class D says, so that isinstance asks its instances rightly -/
structure IsiC (K : PySem.W.Frag) (D : Addr) : Prop where
  cl : (PySem.W.clsIn K D).isSome = true
  hg : PySem.W.findIn K (.ref D) "__getattribute__" = some (some (.builtin "BaseException.__getattribute__"))
  hk : PySem.W.findIn K (.ref D) "__getattr__" = some none
  hs : PySem.W.subIn K (.ref D) (.type "BaseException") = some true
  ha : PySem.W.findIn K (.ref D) "__class__" = some (some (.builtin "object.__class__"))
  hn : PySem.W.specialIn K (.builtin "object.__class__") "__get__" = some (some (.builtin "getset_descriptor.__get__"))
  ht : PySem.W.takesIn K (.builtin "object.__class__") = some true
  hm : PySem.W.mroIn K D (.type "object") = some true
/-- isinstance(e, c), e an error that stands -/
def rIsErr (K : PySem.W.Frag) : List V → Hp → VK → Prop := fun xs H Q => ∃ (a D : Addr) (c : V) (cv : Value) (b : Bool), xs = [.ref a, c] ∧ ErrOf H a D ∧ IsiC K D ∧ ClsV c cv ∧ PySem.W.kitOne K (.ref D) cv = some b ∧ Q (.bl b) H
theorem call_isErr : CallR X (.builtin "isinstance") (rIsErr X.K) := by
  intro pins s σ H xs us Q I r h
  obtain ⟨a, D, c, cv, b, rfl, he, Z, hc, e, q⟩ := h
  obtain ⟨u1, u2, rfl, r1, r2⟩ := vals2 r
  have e2 := hc.eq r2
  subst e2
  obtain rfl : u1 = Value.ref a := r1
  have J : ∃ (ox : Obj) (od : Option Obj), PySem.W.InstAt s.heap a ox D od := by
    rcases he with ⟨d, fs, ea, ed⟩ | ea
    · obtain ⟨t1, ho⟩ := exo_at I.hok ea
      obtain ⟨mA, hns, rel⟩ := exd_at I.hok ed
      obtain ⟨od, hd, hl⟩ := lookIn_ns hns
      exact ⟨_, some od, ho, rfl, rfl, hd⟩
    · obtain ⟨⟨oe, vs, h1, h2, h3, _⟩, _, _⟩ := (show ObjOk X.prog X.w H s.heap a (.ext _) from I.hok a _ ea)
      refine ⟨oe, none, h1, h2.1, ?_, ?_⟩
      · unfold PySem.W.notCls
        rw [h3]
      · rw [h2.2]
        trivial
  obtain ⟨ox, od, J⟩ := J
  exact PySem.W.kia_one (PySem.W.kitx_exc Z.cl Z.hg Z.hk Z.hs Z.ha Z.hn Z.ht Z.hm) I.kIn J e (fun z => nomatch z) fun tk => ⟨.bl b, H, I.tok tk, rfl, q⟩
end
end U

set_option Elab.async false
set_option linter.all false
set_option maxRecDepth 100000
set_option maxHeartbeats 4000000
namespace UE
open PySem PySem.Spec PyProof.Rows L2
open AutoSeq1 (wpAny_loadPart')
/-! ### enumerate of a tuple -/
theorem meets_enumT (t : Addr) (its : Array Value) (n : Nat) (dd : Option Addr) (sl : Array (Option Value)) :
    Meets (Builtin.«enumerate.__new__» ⟨[.type "enumerate", .ref t], []⟩) (fun _ R s => s.heap.get? t = some { cls := .type "tuple", dict := dd, data := .seq its n, slots := sl } ∧
      R (.ok (.ret (.ref (s.heap.push { cls := .type "tuple_iterator", data := .fields #[.ref t, .int 0 0] }).objs.size)))
        { s with heap := (s.heap.push { cls := .type "tuple_iterator", data := .fields #[.ref t, .int 0 0] }).push { cls := .type "enumerate", data := .fields #[.none, .bool false, .ref s.heap.objs.size, rawInt 0, .none, .none] } }) :=
  .of_wp fun prog w A R s hyp => by
    obtain ⟨hp, g, d, tk, os⟩ := s
    obtain ⟨ht, hyp⟩ := hyp
    have sub := sub_enumerate
    have hT : Heap.IsTuple (Shared.heap ⟨hp, g, d, tk, os⟩) t its := ⟨_, ht, rfl, n, rfl⟩
    wp_walk using wpAny_loadPart' ht
    refine wpAny_stack_any fun st => wpAny_pure ?_
    split
    · rename_i c _ _ _ _ _
      cases (c == Value.type "enumerate") <;>
      · wp_walk using wpAny_loadPart' ht, wpAny_pyIter_tuple hT
        exact ⟨_, rfl, hyp⟩
    · wp_walk using wpAny_loadPart' ht, wpAny_pyIter_tuple hT
      exact ⟨_, rfl, hyp⟩
section
variable {prog : Program} {w : World} {A : Around} {E : Value → Shared → Prop} {s : Shared}
theorem call_enumT {t : Addr} {its : Array Value} {Q : Value → Shared → Prop} (hT : s.heap.IsTuple t its)
    (hyp : ∀ h', IsEnum h' (s.heap.objs.size + 1) s.heap.objs.size 0 .none → h'.IsTupleIter s.heap.objs.size t 0 → h'.objs.size = s.heap.objs.size + 2 → (∀ b o, s.heap.get? b = some o → h'.get? b = some o) → Q (.ref (s.heap.objs.size + 1)) { s with heap := h' }) :
    wpAny (model prog w) A (call (.type "enumerate") [.ref t]) Q E s := by
  obtain ⟨⟨c, dd, dt, sl⟩, ht, hc, n, hd⟩ := hT
  obtain rfl : c = .type "tuple" := hc
  obtain rfl : dt = .seq its n := hd
  refine callType_new F.called_enumerate (by decide) (F.typeCall_enumerate_1 _) (F.newCall_enumerate_1 _) (fun ob => F.args_object_init_2 ob _) F.entry_enumerate_new (meets_enumT t its n dd sl) ⟨ht, ?_⟩
  have sz : (s.heap.push { cls := .type "tuple_iterator", data := .fields #[.ref t, .int 0 0] }).objs.size = s.heap.objs.size + 1 := Heap.size_push ..
  show _ ∧ _
  rw [sz]
  have he : IsEnum ((s.heap.push { cls := .type "tuple_iterator", data := .fields #[.ref t, .int 0 0] }).push { cls := .type "enumerate", data := .fields #[.none, .bool false, .ref s.heap.objs.size, rawInt 0, .none, .none] }) (s.heap.objs.size + 1) s.heap.objs.size 0 .none := by
    have q := Heap.get?_push_size (s.heap.push { cls := .type "tuple_iterator", data := .fields #[.ref t, .int 0 0] }) (o := { cls := .type "enumerate", data := .fields #[.none, .bool false, .ref s.heap.objs.size, rawInt 0, .none, .none] }) rfl
    rw [sz] at q
    exact q
  exact ⟨⟨_, he, rfl⟩, hyp _ he ⟨_, Heap.get?_push_of_some _ (Heap.get?_push_size _ rfl), rfl, rfl⟩ (by rw [Heap.size_push, sz]) fun b o z => Heap.get?_push_of_some _ (Heap.get?_push_of_some _ z)⟩
end
/-- the tuple at a, each item in a new pair -/
def IteT (K : PySem.W.Frag) (a : Addr) : It :=
  ⟨fun i H => ∃ (xs : List V) (x : V), SqT K H a xs ∧ xs[i]? = some x, fun i H v H' => ∃ T x, v = .ref T ∧ H T = none ∧ H' = upd H T (.tup [.int (i : Nat), x]) ∧ ∀ xs, SqT K H a xs → xs[i]? = some x, fun i H => ∃ xs : List V, SqT K H a xs ∧ xs.length ≤ i⟩
theorem turn_enumT {P : Program} {w : World} {K : PySem.W.Frag} {elts : List Expr} {kk : Nat} {tpos : Pos} (a e it : Addr) :
    Turn P w K (.Tuple elts kk tpos) (IteT K a) [e, it] e (fun i h => (∃ old, IsEnum h e it ((i : Nat) : Int) old) ∧ h.IsTupleIter it a i ∧ e ≠ it ∧ a ≠ it ∧ a ≠ e) where
  mem := by simp
  obj := fun i h st b hb => by
    obtain ⟨⟨old, he⟩, ⟨o, ho, hc, hd⟩, _⟩ := st
    have e' : b = e ∨ b = it := by simpa using hb
    rcases e' with z | z
    · rw [z]
      exact ⟨_, he, fun v q => nomatch q⟩
    · rw [z]
      exact ⟨o, ho, fun v q => by rw [hd] at q; cases q⟩
  keep := fun i h h' st k => by
    obtain ⟨⟨old, he⟩, hi, ne⟩ := st
    exact ⟨⟨old, k e (by simp) _ he⟩, hi.at fun o q => k it (by simp) o q, ne⟩
  item := by
    intro X hP hw hK hc i pins s σ H E I hf st hg
    subst hP hw hK
    obtain ⟨⟨old, he⟩, hit, n1, n2, n3⟩ := st
    obtain ⟨xs, x, hq, hx⟩ := hg
    obtain ⟨its, rv, p, hz⟩ := I.tuple hq
    obtain ⟨u, hu, ru⟩ := rv.get hx
    have le : e < s.heap.objs.size := Heap.lt_size he
    have li : it < s.heap.objs.size := by
      obtain ⟨_, q, _⟩ := hit
      exact Heap.lt_size q
    have hlt : i < its.toArray.size := by
      have z := (List.getElem?_eq_some_iff.mp hu).1
      simpa using z
    have D : Draws X.prog X.w X.A.in1 it [it, a] its.toArray.size (fun i v => its.toArray[i]? = some v) (fun i h => h.IsTupleIter it a i ∧ h.IsTuple a its.toArray) := Draws.tuple (show X.A.in1.handled = none from I.ok.hd hc) it a n2 its.toArray
    refine wpAny_pyNext_enum_itemD D he ⟨hit, p⟩ hlt n1 (by simp [n1, Ne.symm n3]) fun y h' tk hy ho hst hT sz kp => ?_
    obtain rfl : y = u := by
      have z : its.toArray[i]? = some u := by simpa using hu
      rw [hy] at z
      exact Option.some.inj z
    refine ⟨_, rfl, wpAny_letOwnedTupleGo_enum (s := { s with heap := h', toks := tk + 1 }) ho fun h'' he' sb => ?_⟩
    have hT2 : h''.get? s.heap.objs.size = some { cls := .type "tuple", data := .seq #[.int i tk, y] } := (sb.2 _ (Nat.ne_of_gt le)).trans hT
    have new : ObjOk X.prog X.w (upd H s.heap.objs.size (.tup [.int (i : Nat), x])) h'' s.heap.objs.size (.tup [.int (i : Nat), x]) := ⟨by show 2 ≤ sizeLine; decide, [.int i tk, y], .cons ⟨_, rfl⟩ (.cons ru .nil), ⟨_, hT2, rfl, _, rfl⟩⟩
    have I1 : Inv X pins σ (upd H s.heap.objs.size (.tup [.int (i : Nat), x])) { s with heap := h'', toks := tk + 1 } :=
      I.turnedNew (ch := [e, it]) (fun b ob hb q => (sb.2 b (fun z => hb (by simp [z]))).trans (kp b ob (fun z => hb (by simp [z])) (fun z => hb (by simp [z])) q)) hf (Nat.le_refl _) new
    refine ⟨.ref s.heap.objs.size, _, I1, rfl, ⟨_, x, rfl, I.hok.fresh (Nat.le_refl _), rfl, fun ys hy => by rw [I.tuple_inj hy hq]; exact hx⟩, ⟨⟨y, ?_⟩, hst.1.at fun o q => (sb.2 it (Ne.symm n1)).trans q, n1, n2, n3⟩, fun b hb => ?_⟩
    · have e1 : ((i + 1 : Nat) : Int) = (i : Int) + 1 := by omega
      rw [e1]
      exact he'
    · have hb' : b < s.heap.objs.size := by
        have e' : b = e ∨ b = it := by simpa using hb
        rcases e' with z | z
        · rw [z]
          exact le
        · rw [z]
          exact li
      rw [upd_ne (Nat.ne_of_lt hb')]
      exact (hf b hb).1
  done := by
    intro X hP hw hK hc i pins s σ H E I hf st hg
    subst hP hw hK
    obtain ⟨⟨old, he⟩, hit, n1, n2, n3⟩ := st
    obtain ⟨xs, hq, hx⟩ := hg
    obtain ⟨its, rv, p, hz⟩ := I.tuple hq
    obtain ⟨f0, f1, f2, f3, f4, f5⟩ := hf it (by simp)
    have hl := rv.length
    have hA : X.A.in1.handled = none := I.ok.hd hc
    have D : Draws X.prog X.w X.A.in1 it [it, a] i (fun _ _ => True) (fun k h => (h.IsTupleIter it a k ∧ h.IsTuple a its.toArray) ∧ k = i) :=
      { live := fun _ _ st => let ⟨o, ho, _⟩ := st.1.1; ⟨o, ho⟩
        frame := fun _ _ _ st hk => ⟨⟨st.1.1.at fun o e => hk it (by simp) o e, st.1.2.at fun o e => hk a (by simp) o e⟩, st.2⟩
        item := fun k s Q E hi st hQ => absurd st.2 (Nat.ne_of_lt hi)
        done := fun s Q E st hE => wpAny_nextOf_tuple_end hA st.1.1 st.1.2 (by simp; omega) hE }
    exact wpAny_pyNext_enum_endD D he ⟨⟨hit, p⟩, rfl⟩ fun h' eb => ⟨rfl, I.turned (t' := s.toks) (fun b o hb q => eb b o hb q) f0 f1 f3 f4 f5⟩
  self := fun A i s Q E st h => by
    obtain ⟨⟨_, he⟩, _⟩ := st
    exact wpAny_pyIter_enum he h
/-- enumerate of a tuple -/
def iEnumT (K : PySem.W.Frag) (ta : TA) : TI := fun σ H R => ta σ H fun vs H1 => ∃ a xs, vs = [.ref a] ∧ SqT K H1 a xs ∧ R (IteT K a) H1
theorem pi_enumT {X : Cx} {e : Expr} {ta : TA} {p pos tpos : Pos} {elts : List Expr} {kk : Nat} (hg : Gl X "enumerate") (hm : X.mg "enumerate" = none) (ha : PA X [e] ta) (hs : starEach [e] X.env = [(false, eval e X.env)] := by rfl) :
    PI X (.Tuple elts kk tpos) (.Call (.Name "enumerate" p) [e] [] pos) (iEnumT X.K ta) := by
  refine ⟨fun pins s σ H R I h => ?_⟩
  refine Call_ (ld_blt I hg hm boot_enumerate (PyProof.Rows.callWith_type1 (thn (ha.run pos pins s σ H _ I h) fun us s1 ⟨vs, H1, I1, r1, q1⟩ => ?_) hs rfl))
  obtain ⟨a, xs, ex, hq, q⟩ := q1
  subst ex
  cases r1 with
  | cons r rr =>
    cases rr
    cases r
    obtain ⟨its, rv, p', hz⟩ := I1.tuple hq
    obtain ⟨oT, hoT, _⟩ := id p'
    have la : a < s1.heap.objs.size := Heap.lt_size hoT
    refine call_enumT (its := its.toArray) p' fun h' he hit hsz hk => wpAny_pyIter_enum he ?_
    have I2 : Inv X pins σ H1 { s1 with heap := h' } := I1.kept (t' := s1.toks) hk
    refine ⟨s1.heap.objs.size + 1, [s1.heap.objs.size + 1, s1.heap.objs.size], _, _, H1, rfl, I2, turn_enumT a (s1.heap.objs.size + 1) s1.heap.objs.size, ⟨⟨.none, he⟩, hit, Nat.succ_ne_self _, Nat.ne_of_lt la, Nat.ne_of_lt (Nat.lt_succ_of_lt la)⟩, fun b hb => ?_, q⟩
    have e' : b = s1.heap.objs.size + 1 ∨ b = s1.heap.objs.size := by simpa using hb
    have hle : s1.heap.objs.size ≤ b := by
      rcases e' with z | z
      · rw [z]
        exact Nat.le_add_right _ _
      · rw [z]
        exact Nat.le_refl _
    exact I1.fpOk hle (I1.hok.fresh hle)
end UE

set_option Elab.async false
set_option linter.all false
set_option maxRecDepth 100000
set_option maxHeartbeats 4000000
namespace U
open PySem PySem.Spec PyProof.Rows L2
open Evl (Ex)
section
variable {X : Cx} {tg : Expr}
/-- a list or a tuple, item by item -/
def iSeq (K : PySem.W.Frag) (tl : TE) : TI := fun σ H R => tl σ H fun x H1 => ∃ a, x = .ref a ∧ (((∃ xs, SqL K H1 a xs) ∧ R (Itl K a) H1) ∨ ((∃ xs, SqT K H1 a xs) ∧ R (Itt K a) H1))
theorem pi_seq {l : Expr} {tl : TE} (hl : PE X l tl) : PI X tg l (iSeq X.K tl) := by
  refine ⟨fun pins s σ H R I h => ?_⟩
  refine thn (hl.run pins s σ H _ I h) fun v s1 ⟨x, H1, I1, r1, q1⟩ => ?_
  obtain ⟨a, e, q⟩ := q1
  subst e
  cases r1
  have fresh : ∀ b ∈ [s1.heap.objs.size], b = s1.heap.objs.size := fun b hb => by simpa using hb
  rcases q with ⟨⟨xs, hq⟩, q⟩ | ⟨⟨xs, hq⟩, q⟩
  · obtain ⟨its, rv, p, hz⟩ := I1.list hq
    refine wpAny_pyIter_list p.isList ?_
    refine ⟨s1.heap.objs.size, [s1.heap.objs.size], _, _, H1, rfl, I1.kept (t' := s1.toks) fun b o e => Heap.get?_push_of_some _ e, turn_list a _, ⟨_, Heap.get?_push_size _ rfl, rfl, rfl⟩, fun b hb => ?_, q⟩
    rw [fresh b hb]
    exact I1.fpOk (Nat.le_refl _) (I1.hok.fresh (Nat.le_refl _))
  · obtain ⟨its, rv, p, hz⟩ := I1.tuple hq
    refine wpAny_pyIter_tuple (show s1.heap.IsTuple a its.toArray from p) ?_
    refine ⟨s1.heap.objs.size, [s1.heap.objs.size], _, _, H1, rfl, I1.kept (t' := s1.toks) fun b o e => Heap.get?_push_of_some _ e, turn_tuple a _, ⟨_, Heap.get?_push_size _ rfl, rfl, rfl⟩, fun b hb => ?_, q⟩
    rw [fresh b hb]
    exact I1.fpOk (Nat.le_refl _) (I1.hok.fresh (Nat.le_refl _))
/-- enumerate of a list or a tuple -/
def iEnumA (K : PySem.W.Frag) (ta : TA) : TI := fun σ H R => ta σ H fun vs H1 => ∃ a xs, vs = [.ref a] ∧ ((SqL K H1 a xs ∧ R (Ite K a) H1) ∨ (SqT K H1 a xs ∧ R (UE.IteT K a) H1))
theorem pi_enumA {e : Expr} {ta : TA} {p pos tpos : Pos} {elts : List Expr} {kk : Nat} (hg : Gl X "enumerate") (hm : X.mg "enumerate" = none) (ha : PA X [e] ta) (hs : starEach [e] X.env = [(false, eval e X.env)] := by rfl) :
    PI X (.Tuple elts kk tpos) (.Call (.Name "enumerate" p) [e] [] pos) (iEnumA X.K ta) := by
  refine ⟨fun pins s σ H R I h => ?_⟩
  refine Call_ (ld_blt I hg hm boot_enumerate (PyProof.Rows.callWith_type1 (thn (ha.run pos pins s σ H _ I h) fun us s1 ⟨vs, H1, I1, r1, q1⟩ => ?_) hs rfl))
  obtain ⟨a, xs, ex, q⟩ := q1
  subst ex
  have hb2 : ∀ b ∈ [s1.heap.objs.size + 1, s1.heap.objs.size], s1.heap.objs.size ≤ b := fun b hb => by
    have e' : b = s1.heap.objs.size + 1 ∨ b = s1.heap.objs.size := by simpa using hb
    omega
  cases r1 with
  | cons r rr =>
    cases rr
    cases r
    rcases q with ⟨hq, q⟩ | ⟨hq, q⟩
    · obtain ⟨its, rv, p', hz⟩ := I1.list hq
      refine call_enumerate_list p'.isList fun h' he hit hsz hk => wpAny_pyIter_enum he ?_
      have I2 : Inv X pins σ H1 { s1 with heap := h' } := I1.kept (t' := s1.toks) hk
      exact ⟨s1.heap.objs.size + 1, [s1.heap.objs.size + 1, s1.heap.objs.size], _, _, H1, rfl, I2, turn_enum a (s1.heap.objs.size + 1) s1.heap.objs.size, ⟨⟨.none, he⟩, hit, Nat.succ_ne_self _⟩, fun b hb => I1.fpOk (hb2 b hb) (I1.hok.fresh (hb2 b hb)), q⟩
    · obtain ⟨its, rv, p', hz⟩ := I1.tuple hq
      obtain ⟨oT, hoT, _⟩ := id p'
      have la : a < s1.heap.objs.size := Heap.lt_size hoT
      refine UE.call_enumT (its := its.toArray) p' fun h' he hit hsz hk => wpAny_pyIter_enum he ?_
      have I2 : Inv X pins σ H1 { s1 with heap := h' } := I1.kept (t' := s1.toks) hk
      exact ⟨s1.heap.objs.size + 1, [s1.heap.objs.size + 1, s1.heap.objs.size], _, _, H1, rfl, I2, UE.turn_enumT a (s1.heap.objs.size + 1) s1.heap.objs.size, ⟨⟨.none, he⟩, hit, Nat.succ_ne_self _, Nat.ne_of_lt la, Nat.ne_of_lt (Nat.lt_succ_of_lt la)⟩, fun b hb => I1.fpOk (hb2 b hb) (I1.hok.fresh (hb2 b hb)), q⟩
end
section
variable {K : PySem.W.Frag} {a : Addr} {xs : List V}
theorem walk_enumT : Walk (UE.IteT K a) xs.length (fun H => SqT K H a xs) (YPair (fun i => some (.int (i : Nat))) (fun i => xs[i]?)) := by
  refine ⟨fun i _ hi q => ⟨xs, xs[i], q, by simp [hi]⟩, fun _ q => ⟨xs, q, Nat.le_refl _⟩, fun i H v H' _ q y => ?_⟩
  obtain ⟨T, x, h1, h2, h3, h4⟩ := y
  exact ⟨T, .int (i : Nat), x, h1, h2, h3, rfl, h4 xs q⟩
end
/-! ### a comprehension whose items are data -/
section
variable {K : PySem.W.Frag} {L : List Addr} {σ σ2 : L2.St} {H H' H1 H2 : Hp} {te tl : TE} {ta : TA} {tt : TT} {v : V} {d : PyData} {ds : List PyData} {l a Dl : Addr} {xs : List V} {f : Nat → List PyData} {i : Nat}
theorem w_past (hn : H Dl = none) (e : Ex H H') : Ex (W L H) (W (Dl :: L) H') := fun b o h => by
  obtain ⟨h1, n⟩ := w_in h
  have ne : b ≠ Dl := ne_of_none h1 hn
  exact w_of (fun m => (List.mem_cons.mp m).elim ne n) (e b o h1)
/-- evaluates to a new list of data -/
def EvG (K : PySem.W.Frag) (L : List Addr) (te : TE) (σ : L2.St) (H : Hp) (ds : List PyData) : Prop := ∀ H1, Ex H H1 → ∀ Q : VK, (∀ p H2, H1 p = none → Ex H1 H2 → Gr K L H2 p ds → Q (.ref p) H2) → te σ H1 Q
theorem EvG.mono (e : Ex H H') (h : EvG K L te σ H ds) : EvG K L te σ H' ds := fun H1 a Q q => h H1 (e.trans a) Q q
theorem EvG.dat (h : EvG K L te σ H ds) : EvD K L te σ H (.list ds) := fun H1 e Q q => h H1 e _ fun p H2 hp e2 g => q (.ref p) H2 e2 g.dp
def Cmd (K : PySem.W.Frag) (L : List Addr) (H : Hp) (f : Nat → List PyData) (Dl : Addr) (i : Nat) (H' : Hp) : Prop := H Dl = none ∧ Ex H H' ∧ Gr K L H' Dl (f i)
theorem cmd_0 (hL : Hid L H) (hn : H Dl = none) (f0 : f 0 = []) : Cmd K L H f Dl 0 (upd H Dl (.lst [])) := ⟨hn, Ex.new hn, by
  rw [f0]
  exact gr_new hL hn .nil⟩
theorem cmd_yes (p : Cmd K L H f Dl i H') (hz : (f i).length < 100000) (e2 : Ex H' H2) (he : EvD K (Dl :: L) te σ2 H2 d) (hf : f (i + 1) = f i ++ [d]) :
    te σ2 H2 fun y H4 => ∃ acc, H4 Dl = some (.lst acc) ∧ acc.length < sizeLine ∧ Cmd K L H f Dl (i + 1) (upd H4 Dl (.lst (acc ++ [y]))) := by
  obtain ⟨p1, p2, n, acc, p3, p4⟩ := p
  refine he H2 (Ex.refl H2) _ fun y H4 e4 hy => ⟨acc, e4 Dl _ (e2 Dl _ p3), Evl.sz_lt (by rw [dpa_len p4]; exact hz), p1, Evl.Ex.mut ((p2.trans e2).trans e4) p1, ?_⟩
  rw [hf]
  exact gr_app n (e4 Dl _ (e2 Dl _ p3)) (p4.up (w_ex (e2.trans e4))) hy
theorem cmd_no (p : Cmd K L H f Dl i H') (e2 : Ex H' H2) (hf : f (i + 1) = f i) : Cmd K L H f Dl (i + 1) H2 := by
  obtain ⟨p1, p2, p3⟩ := p
  rw [← hf] at p3
  exact ⟨p1, p2.trans e2, p3.up e2⟩
/-- [.. for x in a list or a tuple of data] -/
theorem eg_seq {j : Nat} {vs : List Nat} {g : PyData → PyData} (h : Evl.Ev tl σ H (.ref a)) (hx : SqL K H a xs ∨ SqT K H a xs) (hd : DpAll K (W L H) xs ds) (hL : Hid L H) (hz : ds.length ≤ 50000) (hw : ∀ x, wipe ((wipe σ vs).set j (some x)) vs = wipe σ vs)
    (he : ∀ L' (x : V) d H1, d ∈ ds → Hid L' H1 → Ex H H1 → Dp K (W L' H1) x d → EvD K L' te ((wipe σ vs).set j (some x)) H1 (g d)) : EvG K L (tLc (iSeq K tl) (gName j) tYes te vs) σ H (ds.map g) := fun H0 e0 Q q => h H0 e0 _ fun H1 e1 => by
  have hlen := dpa_len hd
  have turn : ∀ (Dl : Addr) (i : Nat) (x : V) (H2 H3 : Hp), i < xs.length → Cmd K L H1 (fun i => (ds.take i).map g) Dl i H2 → YAt xs i H2 x H3 → gName j x (wipe σ vs) H3 fun σ2 H2 => wipe σ2 vs = wipe σ vs ∧ tYes σ2 H2 fun b H3 =>
      if b = true then te σ2 H3 fun y H4 => ∃ acc, H4 Dl = some (.lst acc) ∧ acc.length < sizeLine ∧ Cmd K L H1 (fun i => (ds.take i).map g) Dl (i + 1) (upd H4 Dl (.lst (acc ++ [y]))) else Cmd K L H1 (fun i => (ds.take i).map g) Dl (i + 1) H3 := by
    intro Dl i x H2 H3 hi p yp
    obtain ⟨rfl, hu⟩ := yp
    obtain ⟨d, hd1, hd2⟩ := dpa_get hd hu
    obtain ⟨p1, p2, p3⟩ := id p
    refine ⟨hw x, ?_⟩
    refine yes_lc (A := fun H3 => te ((wipe σ vs).set j (some x)) H3 fun y H4 => ∃ acc, H4 Dl = some (.lst acc) ∧ acc.length < sizeLine ∧ Cmd K L H1 (fun i => (ds.take i).map g) Dl (i + 1) (upd H4 Dl (.lst (acc ++ [y])))) (B := fun H3 => Cmd K L H1 (fun i => (ds.take i).map g) Dl (i + 1) H3) ?_
    refine cmd_yes p (by simp; omega) (Ex.refl _) (he _ x d _ (List.mem_of_getElem? hd1) ?_ ((e0.trans e1).trans p2) (hd2.up (w_past (Evl.fresh_back (e0.trans e1) p1) ((e0.trans e1).trans p2)))) ?_
    · intro b hb
      rcases List.mem_cons.mp hb with z | z
      · rw [z]
        exact p3.ne
      · exact hid_ex ((e0.trans e1).trans p2) hL b z
    · have hi' : i < ds.length := by omega
      rw [List.take_add_one, hd1]
      simp
  have fin : ∀ Dl H2, Cmd K L H1 (fun i => (ds.take i).map g) Dl xs.length H2 → Q (.ref Dl) H2 := fun Dl H2 p => by
    obtain ⟨p1, p2, p3⟩ := p
    refine q Dl H2 (Evl.fresh_back e1 p1) (e1.trans p2) ?_
    have e : (ds.take xs.length).map g = ds.map g := by rw [hlen, List.take_length]
    rw [← e]
    exact p3
  have hL1 : Hid L H1 := hid_ex (e0.trans e1) hL
  refine ⟨a, rfl, ?_⟩
  rcases hx with x1 | x1
  · refine .inl ⟨⟨xs, Evl.ex_l (e0.trans e1) x1⟩, fun Dl hD => ?_⟩
    exact lc_it (walk_list (xs := xs)) (Cmd K L H1 (fun i => (ds.take i).map g) Dl) (cmd_0 hL1 hD rfl) (fun i H2 _ p => Evl.ex_l ((e0.trans e1).trans p.2.1) x1) (fun i x H2 H3 hi p y => turn Dl i x H2 H3 hi p y) (fun H2 p => fin Dl H2 p)
  · refine .inr ⟨⟨xs, Evl.ex_t (e0.trans e1) x1⟩, fun Dl hD => ?_⟩
    exact lc_it (walk_tup (xs := xs)) (Cmd K L H1 (fun i => (ds.take i).map g) Dl) (cmd_0 hL1 hD rfl) (fun i H2 _ p => Evl.ex_t ((e0.trans e1).trans p.2.1) x1) (fun i x H2 H3 hi p y => turn Dl i x H2 H3 hi p y) (fun H2 p => fin Dl H2 p)
/-- [.. for p, q in a list or a tuple of pairs of data] -/
theorem eg_pairs {j1 j2 : Nat} {vs : List Nat} {g : PyData → PyData} (h : Evl.Ev tl σ H (.ref a)) (hx : SqL K H a xs ∨ SqT K H a xs) (hd : DpAll K (W L H) xs ds) (hL : Hid L H) (hz : ds.length ≤ 50000)
    (h2 : ∀ d ∈ ds, ∃ d1 d2, d = .tuple [d1, d2]) (hw : ∀ x y, wipe (((wipe σ vs).set j1 (some x)).set j2 (some y)) vs = wipe σ vs)
    (he : ∀ L' (x y : V) d1 d2 H1, PyData.tuple [d1, d2] ∈ ds → Hid L' H1 → Ex H H1 → Dp K (W L' H1) x d1 → Dp K (W L' H1) y d2 → EvD K L' te (((wipe σ vs).set j1 (some x)).set j2 (some y)) H1 (g (.tuple [d1, d2]))) :
    EvG K L (tLc (iSeq K tl) (gTup K 2 (gCons (gName j1) (gCons (gName j2) gNil))) tYes te vs) σ H (ds.map g) := fun H0 e0 Q q => h H0 e0 _ fun H1 e1 => by
  have hlen := dpa_len hd
  have turn : ∀ (Dl : Addr) (i : Nat) (x : V) (H2 H3 : Hp), i < xs.length → Cmd K L H1 (fun i => (ds.take i).map g) Dl i H2 → YAt xs i H2 x H3 → gTup K 2 (gCons (gName j1) (gCons (gName j2) gNil)) x (wipe σ vs) H3 fun σ2 H2 => wipe σ2 vs = wipe σ vs ∧ tYes σ2 H2 fun b H3 =>
      if b = true then te σ2 H3 fun y H4 => ∃ acc, H4 Dl = some (.lst acc) ∧ acc.length < sizeLine ∧ Cmd K L H1 (fun i => (ds.take i).map g) Dl (i + 1) (upd H4 Dl (.lst (acc ++ [y]))) else Cmd K L H1 (fun i => (ds.take i).map g) Dl (i + 1) H3 := by
    intro Dl i x H2 H3 hi p yp
    obtain ⟨rfl, hu⟩ := yp
    obtain ⟨d, hd1, hd2⟩ := dpa_get hd hu
    obtain ⟨d1, d2, rfl⟩ := h2 d (List.mem_of_getElem? hd1)
    obtain ⟨p1, p2, p3⟩ := id p
    have hd3 := hd2.up (w_past (Evl.fresh_back (e0.trans e1) p1) ((e0.trans e1).trans p2))
    cases hd3 with
    | @tup T ys _ hT ha =>
      cases ha with
      | @cons u1 us1 _ _ r1 rr =>
        cases rr with
        | @cons u2 us2 _ _ r2 rr2 =>
          cases rr2
          refine ⟨T, [u1, u2], rfl, Evl.ex_t w_sub hT, rfl, u1, [u2], rfl, u2, [], rfl, rfl, hw u1 u2, ?_⟩
          refine yes_lc (A := fun H3 => te ((List.set (wipe σ vs) j1 (some u1)).set j2 (some u2)) H3 fun y H4 => ∃ acc, H4 Dl = some (.lst acc) ∧ acc.length < sizeLine ∧ Cmd K L H1 (fun i => (ds.take i).map g) Dl (i + 1) (upd H4 Dl (.lst (acc ++ [y])))) (B := fun H3 => Cmd K L H1 (fun i => (ds.take i).map g) Dl (i + 1) H3) ?_
          refine cmd_yes p (by simp; omega) (Ex.refl _) (he _ u1 u2 d1 d2 _ (List.mem_of_getElem? hd1) ?_ ((e0.trans e1).trans p2) r1 r2) ?_
          · intro b hb
            rcases List.mem_cons.mp hb with z | z
            · rw [z]
              exact p3.ne
            · exact hid_ex ((e0.trans e1).trans p2) hL b z
          · rw [List.take_add_one, hd1]
            simp
  have fin : ∀ Dl H2, Cmd K L H1 (fun i => (ds.take i).map g) Dl xs.length H2 → Q (.ref Dl) H2 := fun Dl H2 p => by
    obtain ⟨p1, p2, p3⟩ := p
    refine q Dl H2 (Evl.fresh_back e1 p1) (e1.trans p2) ?_
    have e : (ds.take xs.length).map g = ds.map g := by rw [hlen, List.take_length]
    rw [← e]
    exact p3
  have hL1 : Hid L H1 := hid_ex (e0.trans e1) hL
  refine ⟨a, rfl, ?_⟩
  rcases hx with x1 | x1
  · refine .inl ⟨⟨xs, Evl.ex_l (e0.trans e1) x1⟩, fun Dl hD => ?_⟩
    exact lc_it (walk_list (xs := xs)) (Cmd K L H1 (fun i => (ds.take i).map g) Dl) (cmd_0 hL1 hD rfl) (fun i H2 _ p => Evl.ex_l ((e0.trans e1).trans p.2.1) x1) (fun i x H2 H3 hi p y => turn Dl i x H2 H3 hi p y) (fun H2 p => fin Dl H2 p)
  · refine .inr ⟨⟨xs, Evl.ex_t (e0.trans e1) x1⟩, fun Dl hD => ?_⟩
    exact lc_it (walk_tup (xs := xs)) (Cmd K L H1 (fun i => (ds.take i).map g) Dl) (cmd_0 hL1 hD rfl) (fun i H2 _ p => Evl.ex_t ((e0.trans e1).trans p.2.1) x1) (fun i x H2 H3 hi p y => turn Dl i x H2 H3 hi p y) (fun H2 p => fin Dl H2 p)
/-- the items at the places that c names -/
def sel (c : Nat → Bool) (ds : List PyData) (n : Nat) : List PyData := (List.range n).flatMap fun i => if c i then (ds[i]?).toList else []
theorem sel_step {c : Nat → Bool} {n : Nat} : sel c ds (n + 1) = sel c ds n ++ (if c n then (ds[n]?).toList else []) := by
  unfold sel
  rw [List.range_succ, List.flatMap_append]
  simp
theorem sel_len {c : Nat → Bool} : ∀ n, (sel c ds n).length ≤ n
  | 0 => by simp [sel]
  | n + 1 => by
    have q := sel_len (c := c) n
    rw [sel_step, List.length_append]
    have z : (if c n = true then (ds[n]?).toList else []).length ≤ 1 := by
      split
      · cases ds[n]? <;> simp
      · simp
    omega
theorem sel_mem {c : Nat → Bool} {n : Nat} {d : PyData} (h : d ∈ sel c ds n) : d ∈ ds := by
  unfold sel at h
  obtain ⟨i, _, hi⟩ := List.mem_flatMap.mp h
  split at hi
  · exact List.mem_of_getElem? (by simpa using hi)
  · cases hi
/-- [x for i, x in enumerate(a list or a tuple of data) if c i] -/
theorem eg_enum {j1 j2 : Nat} {vs : List Nat} {c : Nat → Bool} (h : Evl.EvA ta σ H [.ref a]) (hx : SqL K H a xs ∨ SqT K H a xs) (hd : DpAll K (W L H) xs ds) (hL : Hid L H) (hz : ds.length ≤ 50000)
    (hw : ∀ x y, wipe (((wipe σ vs).set j1 (some x)).set j2 (some y)) vs = wipe σ vs)
    (ht : ∀ (x : V) (i : Nat) H1, i < ds.length → Ex H H1 → Evl.EvT tt (((wipe σ vs).set j1 (some (.int (i : Int)))).set j2 (some x)) H1 (c i)) (hn : ∀ x y, (((wipe σ vs).set j1 (some x)).set j2 (some y))[j2]? = some (some y)) :
    EvG K L (tLc (iEnumA K ta) (gTup K 2 (gCons (gName j1) (gCons (gName j2) gNil))) tt (tVar j2) vs) σ H (sel c ds ds.length) := fun H0 e0 Q q => h H0 e0 _ fun H1 e1 => by
  have hlen := dpa_len hd
  have turn : ∀ (Dl : Addr) (i : Nat) (x : V) (H2 H3 : Hp), i < xs.length → Cmd K L H1 (sel c ds) Dl i H2 → YPair (fun i => some (.int (i : Nat))) (fun i => xs[i]?) i H2 x H3 → gTup K 2 (gCons (gName j1) (gCons (gName j2) gNil)) x (wipe σ vs) H3 fun σ2 H2 => wipe σ2 vs = wipe σ vs ∧ tt σ2 H2 fun b H3 =>
      if b = true then (tVar j2) σ2 H3 fun y H4 => ∃ acc, H4 Dl = some (.lst acc) ∧ acc.length < sizeLine ∧ Cmd K L H1 (sel c ds) Dl (i + 1) (upd H4 Dl (.lst (acc ++ [y]))) else Cmd K L H1 (sel c ds) Dl (i + 1) H3 := by
    intro Dl i x H2 H3 hi p yp
    obtain ⟨T, u, w, rfl, hT, rfl, hu, hw'⟩ := yp
    have eu : u = .int (i : Int) := (Option.some.inj hu).symm
    subst eu
    have hw2 : xs[i]? = some w := hw'
    obtain ⟨d, hd1, hd2⟩ := dpa_get hd hw2
    obtain ⟨p1, p2, p3⟩ := id p
    refine ⟨T, [.int (i : Int), w], rfl, SqT.of upd_same, rfl, .int (i : Int), [w], rfl, w, [], rfl, rfl, hw _ w, ?_⟩
    have eN := ((e0.trans e1).trans p2).trans (Ex.new (o := .tup [.int (i : Int), w]) hT)
    refine ht w i _ (by omega) eN _ (Ex.refl _) _ fun H4 e4 => ?_
    have e24 : Ex H2 H4 := (Ex.new hT).trans e4
    by_cases hc : c i = true
    · rw [if_pos hc]
      refine cmd_yes (d := d) p (Nat.lt_of_le_of_lt (sel_len i) (by omega)) e24 (evd_var (hn _ w) (hd2.up (w_past (Evl.fresh_back (e0.trans e1) p1) (((e0.trans e1).trans p2).trans e24)))) ?_
      rw [sel_step, if_pos hc, hd1]
      rfl
    · rw [if_neg hc]
      refine cmd_no p e24 ?_
      rw [sel_step, if_neg hc, List.append_nil]
  have fin : ∀ Dl H2, Cmd K L H1 (sel c ds) Dl xs.length H2 → Q (.ref Dl) H2 := fun Dl H2 p => by
    obtain ⟨p1, p2, p3⟩ := p
    refine q Dl H2 (Evl.fresh_back e1 p1) (e1.trans p2) ?_
    rw [hlen] at p3
    exact p3
  have hL1 : Hid L H1 := hid_ex (e0.trans e1) hL
  refine ⟨a, xs, rfl, ?_⟩
  rcases hx with x1 | x1
  · refine .inl ⟨Evl.ex_l (e0.trans e1) x1, fun Dl hD => ?_⟩
    exact lc_it (walk_enum (xs := xs)) (Cmd K L H1 (sel c ds) Dl) (cmd_0 hL1 hD rfl) (fun i H2 _ p => Evl.ex_l ((e0.trans e1).trans p.2.1) x1) (fun i x H2 H3 hi p y => turn Dl i x H2 H3 hi p y) (fun H2 p => fin Dl H2 p)
  · refine .inr ⟨Evl.ex_t (e0.trans e1) x1, fun Dl hD => ?_⟩
    exact lc_it (walk_enumT (xs := xs)) (Cmd K L H1 (sel c ds) Dl) (cmd_0 hL1 hD rfl) (fun i H2 _ p => Evl.ex_t ((e0.trans e1).trans p.2.1) x1) (fun i x H2 H3 hi p y => turn Dl i x H2 H3 hi p y) (fun H2 p => fin Dl H2 p)
/-- tuple(a new list of data) -/
theorem evd_tupG (h : EvG K L te σ H ds) (hL : Hid L H) : EvD K L (tCB (fun xs H Q => ∃ p ys, xs = [.ref p] ∧ ((SqL K H p ys ∧ ∀ l, H l = none → Q (.ref l) (upd H l (.tup ys))) ∨ (SqT K H p ys ∧ Q (.ref p) H))) (tCons te tNil)) σ H (.tuple ds) := fun H1 e Q q =>
  h H1 e _ fun p H2 hp e2 g => by
    obtain ⟨n, ys, g1, g2⟩ := g
    refine ⟨p, ys, rfl, .inl ⟨SqL.of g1, fun r hr => ?_⟩⟩
    exact q (.ref r) _ (e2.trans (Ex.new hr)) (.tup (SqT.of (w_new (hid_ex (e.trans e2) hL) hr)) ((g2.up w_cons).up (w_ex (Ex.new hr))))
/-- tuple(x) of data that are a list or a tuple -/
theorem evd_tupD {x : V} (h : Evl.Ev te σ H x) (hd : Dp K (W L H) x (.list ds) ∨ Dp K (W L H) x (.tuple ds)) (hL : Hid L H) : EvD K L (tCB (fun xs H Q => ∃ p ys, xs = [.ref p] ∧ ((SqL K H p ys ∧ ∀ l, H l = none → Q (.ref l) (upd H l (.tup ys))) ∨ (SqT K H p ys ∧ Q (.ref p) H))) (tCons te tNil)) σ H (.tuple ds) := fun H1 e Q q =>
  h H1 e _ fun H2 e2 => by
    rcases hd with hd | hd
    · cases hd with
      | @lst p ys _ hs ha =>
        refine ⟨p, ys, rfl, .inl ⟨Evl.ex_l (w_sub.trans (e.trans e2)) hs, fun r hr => ?_⟩⟩
        exact q (.ref r) _ (e2.trans (Ex.new hr)) (.tup (SqT.of (w_new (hid_ex (e.trans e2) hL) hr)) (ha.up (w_ex ((e.trans e2).trans (Ex.new hr)))))
    · have hd' := hd
      cases hd with
      | @tup p ys _ hs ha =>
        exact ⟨p, ys, rfl, .inr ⟨Evl.ex_t (w_sub.trans (e.trans e2)) hs, q (.ref p) H2 e2 (hd'.up (w_ex (e.trans e2)))⟩⟩
/-- list(x) of data that are a list or a tuple -/
theorem eg_list {x : V} (h : Evl.Ev te σ H x) (hd : Dp K (W L H) x (.list ds) ∨ Dp K (W L H) x (.tuple ds)) (hL : Hid L H) : EvG K L (tCB (fun xs H Q => ∃ p ys, xs = [.ref p] ∧ (SqL K H p ys ∨ SqT K H p ys) ∧ ∀ l, H l = none → Q (.ref l) (upd H l (.lst ys))) (tCons te tNil)) σ H ds := fun H1 e Q q =>
  h H1 e _ fun H2 e2 => by
    rcases hd with hd | hd
    · cases hd with
      | @lst p ys _ hs ha =>
        refine ⟨p, ys, rfl, .inl (Evl.ex_l (w_sub.trans (e.trans e2)) hs), fun r hr => ?_⟩
        exact q r _ (Evl.fresh_back e2 hr) (e2.trans (Ex.new hr)) (gr_new (hid_ex (e.trans e2) hL) hr (ha.up (w_ex (e.trans e2))))
    · cases hd with
      | @tup p ys _ hs ha =>
        refine ⟨p, ys, rfl, .inr (Evl.ex_t (w_sub.trans (e.trans e2)) hs), fun r hr => ?_⟩
        exact q r _ (Evl.fresh_back e2 hr) (e2.trans (Ex.new hr)) (gr_new (hid_ex (e.trans e2) hL) hr (ha.up (w_ex (e.trans e2))))
end
end U

set_option Elab.async false
set_option linter.all false
set_option maxRecDepth 100000
set_option maxHeartbeats 4000000
namespace U
open PySem L2
open Evl (Ex)
def top (i : Nat) : Stmt := PySem.Challenge.pw_toldenough_k06_rules_said.main.body.getD i (.Pass ⟨0, 0, 0, 0⟩)
abbrev s_source : Stmt := top 16
abbrev sc_source_N : List Str := ["_law_script", "_law_at", "_law_cell"]
theorem sc_source : FnScope sc_source_N ["_law_script", "_law_at"] (defScope s_source) := ⟨rfl, rfl, rfl, by decide +kernel, rfl, by decide +kernel, by decide +kernel⟩
abbrev s_draw : Stmt := top 17
abbrev sc_draw_N : List Str := ["_law_draws", "_law_many", "_law_digit", "_law_seed"]
theorem sc_draw : FnScope sc_draw_N ["_law_draws", "_law_many"] (defScope s_draw) := ⟨rfl, rfl, rfl, by decide +kernel, rfl, by decide +kernel, by decide +kernel⟩
abbrev s_pick : Stmt := top 18
abbrev sc_pick_N : List Str := ["_law_draws", "_law_things"]
theorem sc_pick : FnScope sc_pick_N ["_law_draws", "_law_things"] (defScope s_pick) := ⟨rfl, rfl, rfl, by decide +kernel, rfl, by decide +kernel, by decide +kernel⟩
abbrev s_same : Stmt := top 19
abbrev sc_same_N : List Str := ["_law_found", "_law_due", "_law_left", "_law_right"]
theorem sc_same : FnScope sc_same_N ["_law_found", "_law_due"] (defScope s_same) := ⟨rfl, rfl, rfl, by decide +kernel, rfl, by decide +kernel, by decide +kernel⟩
structure TxB (mg : Str → Option Value) : Prop where
  m_len : mg "len" = none
  m_int : mg "int" = none
  m_isinstance : mg "isinstance" = none
  m_list : mg "list" = none
  m_tuple : mg "tuple" = none
  m_bool : mg "bool" = none
  m_all : mg "all" = none
  m_zip : mg "zip" = none
section
variable {P : Program} {w : World} {K : PySem.W.Frag} {mg : Str → Option Value} {base : Heap}
theorem ok_source {f : Addr} {fd : FuncData} (F : Fun K "_law_source" "_law_source" s_source f fd) (T : TxB mg) : FnOk P w K mg base CX0 1 f fd ["_law_script", "_law_at"] (spSource K) := by
  refine F.ok sc_source (fun vs H Q E h => ?_) (fun cdv A outer s H vs Q E hr h => ?_)
  · obtain ⟨_, _, _, rfl, _⟩ := h
    rfl
  · obtain ⟨sa, ns, i, rfl, hS, hl, hi, k⟩ := h
    refine ⟨_, (pss_cons (ps_set (i := 2) sc_source.nd rfl (by first | exact Or.inl rfl | exact Or.inr rfl) (pe_ifExp (pt_cmpR op_lt (pv 1) (pe_callB call_len_seq (by rfl) T.m_len (by decide +kernel) (pa_cons (pv 0) pa_nil)) (nomark _)) (pe_ix ix_list (pv 0) (pv 1) (fun _ _ => rfl)) (pe_op op_add (pe_op op_mul pe_int (pv 1)) pe_int)))
    (pss_one (ps_ret (pe_lst (pa_cons (pe_ifExp (pt_cmpR op_ge (pv 2) (pe_op op_pow pe_int pe_int) (nomark _)) (pv 2) pe_int) (pa_cons (pe_op op_add (pe_op op_mod (pe_callTy call_int1 (by rfl) T.m_int (by decide +kernel) (pa_cons (pv 2) pa_nil)) pe_int) (pe_op op_mul pe_int (pv 1))) (pa_cons pe_int pa_nil))))))), ?_⟩
    have hlen : (ns.map V.int).length = ns.length := List.length_map ..
    have fin : ∀ (c : Int), ∀ l : Addr, H l = none → Q (.ref l) (upd H l (.lst [.int (if c ≥ 10 ^ 18 then c else 0), .int (c % 2147483647 + 131 * (i : Int)), .int 0])) := fun c l hn => by
      refine k l _ hn ⟨_, _, _, upd_same, ?_, ?_, ?_, by decide, by decide⟩
      · by_cases hc : c ≥ 10 ^ 18
        · rw [if_pos hc]
          omega
        · rw [if_neg hc]
          decide
      · omega
      · omega
    refine ⟨_, rfl, _, rfl, sa, _, rfl, .inl hS, _, _, rfl, rfl, _, rfl, ?_⟩
    refine ite2 (fun hc => ?_) (fun hc => ?_)
    · have hc' : i < ns.length := by
        have q := of_decide_eq_true hc
        rw [hlen] at q
        omega
      refine ⟨_, rfl, _, rfl, sa, _, _, .int ns[i], rfl, rfl, hS, atI_nat (by rw [List.getElem?_map, List.getElem?_eq_getElem hc']; rfl), ?_⟩
      have g := fin (ns[i])
      generalize ns[i] = c at g ⊢
      refine ⟨_, rfl, _, _, rfl, rfl, ⟨by decide, by decide, by decide⟩, _, _, rfl, rfl, _, rfl, ?_⟩
      refine ite2 (fun hc => ?_) (fun hc => ?_)
      · have hc' : c ≥ 10 ^ 18 := of_decide_eq_true hc
        rw [if_pos hc'] at g
        refine ⟨_, rfl, _, rfl, .inl ⟨_, rfl, _, _, rfl, rfl, (by show (0 : Int) < _; decide), _, rfl, _, _, rfl, rfl, .inl ⟨by decide, by decide⟩, _, _, rfl, rfl, by show 3 ≤ sizeLine; decide, fun l hn => ?_⟩⟩
        exact g l hn
      · have hc' : ¬ c ≥ 10 ^ 18 := fun q => hc (decide_eq_true q)
        rw [if_neg hc'] at g
        refine ⟨_, rfl, .inl ⟨_, rfl, _, _, rfl, rfl, (by show (0 : Int) < _; decide), _, rfl, _, _, rfl, rfl, .inl ⟨by decide, by decide⟩, _, _, rfl, rfl, by show 3 ≤ sizeLine; decide, fun l hn => ?_⟩⟩
        exact g l hn
    · have g := fin (11 * (i : Int) + 3)
      refine ⟨_, rfl, _, _, rfl, rfl, .inl ⟨by decide, by decide⟩, _, _, rfl, rfl, ?_⟩
      refine ⟨_, rfl, _, _, rfl, rfl, ⟨by decide, by decide, by decide⟩, _, _, rfl, rfl, _, rfl, ?_⟩
      refine ite2 (fun hc => ?_) (fun hc => ?_)
      · have hc' : 11 * (i : Int) + 3 ≥ 10 ^ 18 := of_decide_eq_true hc
        rw [if_pos hc'] at g
        refine ⟨_, rfl, _, rfl, .inl ⟨_, rfl, _, _, rfl, rfl, (by show (0 : Int) < _; decide), _, rfl, _, _, rfl, rfl, .inl ⟨by decide, by decide⟩, _, _, rfl, rfl, by show 3 ≤ sizeLine; decide, fun l hn => ?_⟩⟩
        exact g l hn
      · have hc' : ¬ 11 * (i : Int) + 3 ≥ 10 ^ 18 := fun q => hc (decide_eq_true q)
        rw [if_neg hc'] at g
        refine ⟨_, rfl, .inl ⟨_, rfl, _, _, rfl, rfl, (by show (0 : Int) < _; decide), _, rfl, _, _, rfl, rfl, .inl ⟨by decide, by decide⟩, _, _, rfl, rfl, by show 3 ≤ sizeLine; decide, fun l hn => ?_⟩⟩
        exact g l hn
theorem ok_draw {f : Addr} {fd : FuncData} (F : Fun K "_law_draw" "_law_draw" s_draw f fd) (T : TxB mg) : FnOk P w K mg base CX0 1 f fd ["_law_draws", "_law_many"] spDraw := by
  refine F.ok sc_draw (fun vs H Q E h => ?_) (fun cdv A outer s H vs Q E hr h => ?_)
  · obtain ⟨_, _, _, rfl, _⟩ := h
    rfl
  · obtain ⟨l, many, n, rfl, ⟨x, y, z, hl, x0, y0, y1, z0, z1⟩, hn, m0, m1, k⟩ := h
    refine ⟨_, (pss_cons (ps_if (pt_cmpR op_gt (pe_ix ix_list (pv 0) pe_int (fun _ _ => rfl)) pe_int (nomark _)) (pss_cons (ps_set (i := 2) sc_draw.nd rfl (by first | exact Or.inl rfl | exact Or.inr rfl) (pe_op op_mod (pe_callTy call_int1 (by rfl) T.m_int (by decide +kernel) (pa_cons (pe_ix ix_list (pv 0) pe_int (fun _ _ => rfl)) pa_nil)) (pv 1)))
      (pss_cons (ps_asg (pe_op op_fdivN (pe_ix ix_list (pv 0) pe_int (fun _ _ => rfl)) (pv 1)) (pg_sub (pv 0) pe_int set_list))
      (pss_one (ps_ret (pv 2))))) pss_nil)
    (pss_cons (ps_asg (pe_op op_add (pe_ix ix_list (pv 0) pe_int (fun _ _ => rfl)) pe_int) (pg_sub (pv 0) pe_int set_list))
    (pss_cons (ps_set (i := 3) sc_draw.nd rfl (by first | exact Or.inl rfl | exact Or.inr rfl) (pe_op op_mod (pe_op op_pow (pe_callTy call_int1 (by rfl) T.m_int (by decide +kernel) (pa_cons (pe_op op_add (pe_op op_add (pe_ix ix_list (pv 0) pe_int (fun _ _ => rfl)) (pe_op op_mul pe_int (pe_ix ix_list (pv 0) pe_int (fun _ _ => rfl)))) pe_int) pa_nil)) pe_int) pe_int))
    (pss_one (ps_ret (pe_op op_mod (pe_op op_mod (pe_op op_pow (pe_callTy call_int1 (by rfl) T.m_int (by decide +kernel) (pa_cons (pe_op op_add (pe_op op_mul (pv 3) pe_int) (pe_op op_mul pe_int (pe_ix ix_list (pv 0) pe_int (fun _ _ => rfl)))) pa_nil)) pe_int) pe_int) (pv 1))))))), ?_⟩
    have i0 : atI [V.int x, V.int y, V.int z] 0 = some (.int x) := rfl
    have i1 : atI [V.int x, V.int y, V.int z] 1 = some (.int y) := rfl
    have i2 : atI [V.int x, V.int y, V.int z] 2 = some (.int z) := rfl
    refine ⟨_, rfl, l, _, _, _, rfl, rfl, SqL.of hl, i0, _, _, rfl, rfl, _, rfl, ?_⟩
    refine ite2 (fun hc => ?_) (fun hc => ?_)
    · refine ⟨_, rfl, l, _, _, _, rfl, rfl, SqL.of hl, i0, .inl ⟨_, rfl, _, rfl, _, _, rfl, rfl, m0, ?_⟩⟩
      refine ⟨_, rfl, l, _, _, _, rfl, rfl, SqL.of hl, i0, _, rfl, _, _, rfl, rfl, ⟨by omega, by omega⟩, _, rfl, l, _, _, 0, rfl, rfl, hl, rfl, ?_⟩
      refine ⟨_, rfl, ?_⟩
      exact k (x % many) _ (Int.emod_nonneg _ (by omega)) (Int.emod_lt_of_pos _ m0) ⟨_, _, _, upd_same, Int.fdiv_nonneg x0 (by omega), y0, y1, z0, by omega⟩
    · have hl2 : (upd H l (.lst [V.int x, V.int y, V.int (z + 1)])) l = some (.lst [V.int x, V.int y, V.int (z + 1)]) := upd_same
      have j1 : atI [V.int x, V.int y, V.int (z + 1)] 1 = some (.int y) := rfl
      have j2 : atI [V.int x, V.int y, V.int (z + 1)] 2 = some (.int (z + 1)) := rfl
      refine ⟨_, rfl, l, _, _, _, rfl, rfl, SqL.of hl, i2, _, _, rfl, rfl, _, rfl, l, _, _, 2, rfl, rfl, hl, rfl, ?_⟩
      refine ⟨_, rfl, l, _, _, _, rfl, rfl, SqL.of hl2, j1, _, rfl, l, _, _, _, rfl, rfl, SqL.of hl2, j2, _, _, rfl, rfl, .inl ⟨by decide, by decide⟩, _, _, rfl, rfl, _, _, rfl, rfl, .inl ⟨_, rfl, _, _, rfl, rfl, ⟨by decide, by decide, ?_⟩, _, _, rfl, rfl, (by show (0 : Int) < _; decide), ?_⟩⟩
      · show (y + 7919 * (z + 1) + 104729).natAbs < 18446744073709551616
        omega
      have e1 : 0 ≤ (y + 7919 * (z + 1) + 104729) ^ (5 : Int).toNat % 2147483629 := Int.emod_nonneg _ (by decide)
      have e2 : (y + 7919 * (z + 1) + 104729) ^ (5 : Int).toNat % 2147483629 < 2147483629 := Int.emod_lt_of_pos _ (by decide)
      have hb : ∀ c : Int, 0 ≤ c → c < 2147483629 → (c * 48271 + 40503 * (z + 1)).natAbs < 18446744073709551616 := fun c _ _ => by omega
      refine ⟨_, rfl, _, _, rfl, rfl, .inr ⟨by decide, by decide⟩, _, rfl, l, _, _, _, rfl, rfl, SqL.of hl2, j2, _, _, rfl, rfl, .inl ⟨by decide, by decide⟩, _, _, rfl, rfl, .inl ⟨_, rfl, _, _, rfl, rfl, ⟨by decide, by decide, ?_⟩, _, _, rfl, rfl, (by show (0 : Int) < _; decide), _, rfl, _, _, rfl, rfl, m0, ?_⟩⟩
      · exact hb _ e1 e2
      exact k _ _ (Int.emod_nonneg _ (by omega)) (Int.emod_lt_of_pos _ m0) ⟨_, _, _, upd_same, x0, y0, y1, by omega, by omega⟩
theorem ok_pick {f : Addr} {fd : FuncData} (F : Fun K "_law_pick" "_law_pick" s_pick f fd) (T : TxB mg) (D_draw : DefAt P w K mg base "_law_draw" 1 ["_law_draws", "_law_many"] spDraw) : FnOk P w K mg base CX0 2 f fd ["_law_draws", "_law_things"] (spPick K) := by
  refine F.ok sc_pick (fun vs H Q E h => ?_) (fun cdv A outer s H vs Q E hr h => ?_)
  · obtain ⟨_, _, _, _, _, rfl, _⟩ := h
    rfl
  · obtain ⟨l, t, ds, n, L, rfl, hd, hn, hL, hp, h0, h1, k⟩ := h
    refine ⟨_, (pss_one (ps_ret (pe_ix ix_list (pv 1) (pe_callD D_draw (by first | exact hr | exact hr.mono (by decide) | exact hr.mono (by omega)) (by rfl) (pa_cons (pv 0) (pa_cons (pe_callB call_len_seq (by rfl) T.m_len (by decide +kernel) (pa_cons (pv 1) pa_nil)) pa_nil))) (fun _ _ => rfl)))), ?_⟩
    cases hp with
    | @lst _ xs _ hs ha =>
      have hlen := dpa_len ha
      refine ⟨_, rfl, _, rfl, _, rfl, t, xs, rfl, .inl (Evl.ex_l w_sub hs), ?_⟩
      refine ⟨l, _, n, rfl, hd, hn, by omega, by omega, fun r o r0 r1 hd' => ?_⟩
      have hr' : r.toNat < xs.length := by omega
      obtain ⟨d, hd1, hd2⟩ := dpa_get ha (List.getElem?_eq_getElem hr')
      have er : ((r.toNat : Nat) : Int) = r := by omega
      refine ⟨t, xs, r, xs[r.toNat], rfl, rfl, Evl.ex_l (w_sub (L := L)) (by rw [w_upd_in hL]; exact hs), ?_, ?_⟩
      · have q := atI_nat (List.getElem?_eq_getElem hr')
        rw [er] at q
        exact q
      · exact k _ d o (List.mem_of_getElem? hd1) (by rw [w_upd_in hL]; exact hd2) hd'
def spPrev (K : PySem.W.Frag) : Nat → Sp
  | 0 => fun _ _ _ _ => False
  | n + 1 => spSame K n
theorem same_body {f : Addr} {fd : FuncData} (F : Fun K "_law_same" "_law_same" s_same f fd) (T : TxB mg) (n : Nat) (D_same : DefAt P w K mg base "_law_same" n ["_law_found", "_law_due"] (spPrev K n)) : FnOk P w K mg base CX0 (n + 1) f fd ["_law_found", "_law_due"] (spSame K n) := by
  refine F.ok sc_same (fun vs H Q E h => ?_) (fun cdv A outer s H vs Q E hr h => ?_)
  · obtain ⟨_, _, _, rfl, _⟩ := h
    rfl
  · obtain ⟨x, y, d, rfl, hx, hy, hf, k⟩ := h
    refine ⟨_, (pss_cons (ps_if (pt_val (pe_callB call_isiT (by rfl) T.m_isinstance (by decide +kernel) (pa_cons (pv 1) (pa_cons (pe_tup (pa_cons (pe_bltn (v := .ty "list") (by rfl) T.m_list (by decide +kernel) rfl) (pa_cons (pe_bltn (v := .ty "tuple") (by rfl) T.m_tuple (by decide +kernel) rfl) pa_nil))) pa_nil)))) (pss_cons (ps_if (PW.pt (pw_or (pt_cmpR op_ne (pe_callB call_isi (by rfl) T.m_isinstance (by decide +kernel) (pa_cons (pv 0) (pa_cons (pe_bltn (v := .ty "list") (by rfl) T.m_list (by decide +kernel) rfl) pa_nil))) (pe_callB call_isi (by rfl) T.m_isinstance (by decide +kernel) (pa_cons (pv 1) (pa_cons (pe_bltn (v := .ty "list") (by rfl) T.m_list (by decide +kernel) rfl) pa_nil))) (nomark _)) (pw_or1 (pt_cmpR op_ne (pe_callB call_isi (by rfl) T.m_isinstance (by decide +kernel) (pa_cons (pv 0) (pa_cons (pe_bltn (v := .ty "tuple") (by rfl) T.m_tuple (by decide +kernel) rfl) pa_nil))) (pe_callB call_isi (by rfl) T.m_isinstance (by decide +kernel) (pa_cons (pv 1) (pa_cons (pe_bltn (v := .ty "tuple") (by rfl) T.m_tuple (by decide +kernel) rfl) pa_nil))) (nomark _))))) (pss_one (ps_ret pe_bl)) pss_nil)
      (pss_one (ps_ret (pe_and (pe_cmpR op_eq (pe_callB call_len_seq (by rfl) T.m_len (by decide +kernel) (pa_cons (pv 0) pa_nil)) (pe_callB call_len_seq (by rfl) T.m_len (by decide +kernel) (pa_cons (pv 1) pa_nil)) (nomark _)) (pe_one (pe_callB (cr_all rfl) (by rfl) T.m_all (by decide +kernel) (pa_cons (pe_lc (own := [("_law_left", 2), ("_law_right", 3)]) (g := gTup K 2 (gCons (gName 2) (gCons (gName 3) (gNil)))) (tt := tYes) (by rfl) sc_same.nd (RZ.pi_zipA (by rfl) T.m_zip (pa_cons (pv 0) (pa_cons (pv 1) pa_nil))) (blkOk_by (N := sc_same_N) (sc := defScope s_same) (by decide +kernel)) (fun _ _ _ _ _ => (pg_tup (by rfl) (pgs_cons (pg_name (i := 2) sc_same.nd rfl (by first | exact Or.inl rfl | exact Or.inr rfl)) (pgs_cons (pg_name (i := 3) sc_same.nd rfl (by first | exact Or.inl rfl | exact Or.inr rfl)) pgs_nil)))) (fun _ _ _ _ _ => pts_nil) (fun _ _ _ _ _ => (pe_callD D_same (by first | exact hr | exact hr.mono (by decide) | exact hr.mono (by omega)) (by rfl) (pa_cons (pv 2) (pa_cons (pv 3) pa_nil))))) pa_nil))))))) pss_nil)
    (pss_cons (ps_if (pt_val (pe_callB call_isiT (by rfl) T.m_isinstance (by decide +kernel) (pa_cons (pv 1) (pa_cons (pe_tup (pa_cons (pe_bltn (v := .ty "bool") (by rfl) T.m_bool (by decide +kernel) rfl) (pa_cons (pe_bltn (v := .ty "int") (by rfl) T.m_int (by decide +kernel) rfl) pa_nil))) pa_nil)))) (pss_one (ps_ret (pe_and (pe_callB call_isi (by rfl) T.m_isinstance (by decide +kernel) (pa_cons (pv 0) (pa_cons (pe_bltn (v := .ty "int") (by rfl) T.m_int (by decide +kernel) rfl) pa_nil))) (pe_and (pe_cmpR op_eq (pe_callB call_isi (by rfl) T.m_isinstance (by decide +kernel) (pa_cons (pv 0) (pa_cons (pe_bltn (v := .ty "bool") (by rfl) T.m_bool (by decide +kernel) rfl) pa_nil))) (pe_callB call_isi (by rfl) T.m_isinstance (by decide +kernel) (pa_cons (pv 1) (pa_cons (pe_bltn (v := .ty "bool") (by rfl) T.m_bool (by decide +kernel) rfl) pa_nil))) (nomark _)) (pe_one (pe_cmpR op_eq (pv 0) (pv 1) (nomark _))))))) pss_nil)
    (pss_one (ps_ret (pe_and (pe_not (pe_callB call_isiT (by rfl) T.m_isinstance (by decide +kernel) (pa_cons (pv 0) (pa_cons (pe_tup (pa_cons (pe_bltn (v := .ty "bool") (by rfl) T.m_bool (by decide +kernel) rfl) (pa_cons (pe_bltn (v := .ty "int") (by rfl) T.m_int (by decide +kernel) rfl) (pa_cons (pe_bltn (v := .ty "list") (by rfl) T.m_list (by decide +kernel) rfl) (pa_cons (pe_bltn (v := .ty "tuple") (by rfl) T.m_tuple (by decide +kernel) rfl) pa_nil))))) pa_nil)))) (pe_one (pe_cmpR op_eq (pv 0) (pv 1) (nomark _)))))))), ?_⟩
    have v0 : Evl.Ev (tVar 0) (start sc_same_N [x, y]) H x := Evl.ev_var rfl
    have v1 : Evl.Ev (tVar 1) (start sc_same_N [x, y]) H y := Evl.ev_var rfl
    -- two lists, two tuples
    have seqs : ∀ (a b : Addr) (xs ys : List V) (ds : List PyData) (m : Nat), n = m + 1 → x = .ref a → y = .ref b → (SqL K H a xs ∧ SqL K H b ys) ∨ (SqT K H a xs ∧ SqT K H b ys) → DpAll K H xs ds → DpAll K H ys ds → (∀ d ∈ ds, fits m d) → xs.length ≤ 40000 →
        ∀ H1, Ex H H1 → Evl.Ev (tAndV (tOp rEq (tCB (fun xs H Q => ∃ p ys, xs = [V.ref p] ∧ (SqL K H p ys ∨ SqT K H p ys) ∧ Q (.int ys.length) H) (tCons (tVar 0) tNil)) (tCB (fun xs H Q => ∃ p ys, xs = [V.ref p] ∧ (SqL K H p ys ∨ SqT K H p ys) ∧ Q (.int ys.length) H) (tCons (tVar 1) tNil)))
          (tCB (rAll K) (tCons (tLc (RZ.iZipA K (tCons (tVar 0) (tCons (tVar 1) tNil))) (gTup K 2 (gCons (gName 2) (gCons (gName 3) gNil))) tYes (tCallD (spPrev K n) (tCons (tVar 2) (tCons (tVar 3) tNil))) [2, 3]) tNil))) (start sc_same_N [x, y]) H1 (.bl true) := by
      rintro a b xs ys ds m rfl rfl rfl hs h1 h2 hd hz H1 e1
      have hl : xs.length = ys.length := (dpa_len h1).trans (dpa_len h2).symm
      have hs1 : SqL K H1 a xs ∨ SqT K H1 a xs := hs.imp (fun q => Evl.ex_l e1 q.1) (fun q => Evl.ex_t e1 q.1)
      have hs2 : SqL K H1 b ys ∨ SqT K H1 b ys := hs.imp (fun q => Evl.ex_l e1 q.2) (fun q => Evl.ex_t e1 q.2)
      refine Evl.ev_is (Evl.ev_andV (a := true) (b := true) (Evl.ev_is (Evl.ev_op (ev_lenS (v0.mono e1) hs1) (ev_lenS (v1.mono e1) hs2) (Evl.rv_eq rfl)) ?_) fun _ => ?_) rfl
      · rw [hl]
        exact congrArg V.bl (decide_eq_true rfl)
      · have z := el_zip (K := K) (v := fun _ => V.bl true) (te := tCallD (spPrev K (m + 1)) (tCons (tVar 2) (tCons (tVar 3) tNil))) (i1 := 2) (i2 := 3) (vs := [2, 3]) (σ := start sc_same_N [V.ref a, V.ref b]) (H := H1) (ta := tCons (tVar 0) (tCons (tVar 1) tNil)) (a := a) (b := b) (xs := xs) (ys := ys)
          (Evl.ea_cons (v0.mono e1) (Evl.ea_cons (v1.mono e1) Evl.ea_nil)) (hs.imp (fun q => ⟨Evl.ex_l e1 q.1, Evl.ex_l e1 q.2⟩) (fun q => ⟨Evl.ex_t e1 q.1, Evl.ex_t e1 q.2⟩)) hl hz (fun _ _ => rfl) (fun i u v H2 e2 hu hv => ?_)
        · have em : (List.range xs.length).map (fun _ => V.bl true) = ((List.range xs.length).map fun _ => true).map V.bl := by
            rw [List.map_map]
            rfl
          rw [em] at z
          exact Evl.ev_is (ev_all z) (congrArg V.bl (by simp))
        · obtain ⟨d, hd1, hd2⟩ := dpa_get h1 hu
          obtain ⟨d', hd3, hd4⟩ := dpa_get h2 hv
          rw [hd1] at hd3
          cases hd3
          exact ev_callD (Evl.ea_cons (Evl.ev_var rfl) (Evl.ea_cons (Evl.ev_var rfl) Evl.ea_nil)) fun H3 e3 Q q => ⟨u, v, d, rfl, hd2.up ((e1.trans e2).trans e3), hd4.up ((e1.trans e2).trans e3), hd d (List.mem_of_getElem? hd1), q⟩
    cases d with
    | none =>
      have exy : x = y := by
        cases hx
        cases hy
        rfl
      refine Evl.q_when (b := false) (Evl.et_B (ev_isi2 v1 hy isi_NoneType_list_tuple)) (fun z => by cases z) (fun _ H1 e1 => ?_)
      refine Evl.q_when (b := false) (Evl.et_B (ev_isi2 (v1.mono e1) (hy.up e1) isi_NoneType_bool_int)) (fun z => by cases z) (fun _ H2 e2 => ?_)
      refine Evl.s_ret (v := .bl true) (Evl.ev_is (Evl.ev_andV (Evl.ev_notV (ev_isi4 (v0.mono (e1.trans e2)) (hx.up (e1.trans e2)) (b := false) isi_NoneType_bool_int_list_tuple)) (fun _ => Evl.ev_is (Evl.ev_op (v0.mono (e1.trans e2)) (v1.mono (e1.trans e2)) (Evl.rv_eq (by cases hx; cases hy; rfl))) (w := .bl true) (by rw [exy]; exact congrArg V.bl (decide_eq_true rfl)))) rfl) (fun H3 e3 => k H3 ((e1.trans e2).trans e3))
    | str z =>
      have exy : x = y := by
        cases hx
        cases hy
        rfl
      refine Evl.q_when (b := false) (Evl.et_B (ev_isi2 v1 hy isi_str_list_tuple)) (fun z => by cases z) (fun _ H1 e1 => ?_)
      refine Evl.q_when (b := false) (Evl.et_B (ev_isi2 (v1.mono e1) (hy.up e1) isi_str_bool_int)) (fun z => by cases z) (fun _ H2 e2 => ?_)
      refine Evl.s_ret (v := .bl true) (Evl.ev_is (Evl.ev_andV (Evl.ev_notV (ev_isi4 (v0.mono (e1.trans e2)) (hx.up (e1.trans e2)) (b := false) isi_str_bool_int_list_tuple)) (fun _ => Evl.ev_is (Evl.ev_op (v0.mono (e1.trans e2)) (v1.mono (e1.trans e2)) (Evl.rv_eq (by cases hx; cases hy; rfl))) (w := .bl true) (by rw [exy]; exact congrArg V.bl (decide_eq_true rfl)))) rfl) (fun H3 e3 => k H3 ((e1.trans e2).trans e3))
    | bool z =>
      have exy : x = y := by
        cases hx
        cases hy
        rfl
      refine Evl.q_when (b := false) (Evl.et_B (ev_isi2 v1 hy isi_bool_list_tuple)) (fun z => by cases z) (fun _ H1 e1 => ?_)
      refine Evl.q_when (b := true) (Evl.et_B (ev_isi2 (v1.mono e1) (hy.up e1) isi_bool_bool_int)) (fun _ H2 e2 => ?_) (fun z => by cases z)
      refine Evl.s_ret (v := .bl true) (Evl.ev_is (Evl.ev_andV (ev_isi (v0.mono (e1.trans e2)) (hx.up (e1.trans e2)) (b := true) isi_bool_int) (fun _ => Evl.ev_andV (a := true) (Evl.ev_is (ev_eqB (ev_isi (v0.mono (e1.trans e2)) (hx.up (e1.trans e2)) (b := true) isi_bool_bool) (ev_isi (v1.mono (e1.trans e2)) (hy.up (e1.trans e2)) (b := true) isi_bool_bool)) (by decide))
        fun _ => Evl.ev_is (Evl.ev_op (v0.mono (e1.trans e2)) (v1.mono (e1.trans e2)) (Evl.rv_eq (by cases hx; cases hy; rfl))) (w := .bl true) (by rw [exy]; exact congrArg V.bl (decide_eq_true rfl)))) rfl) (fun H3 e3 => k H3 ((e1.trans e2).trans e3))
    | int z =>
      have exy : x = y := by
        cases hx
        cases hy
        rfl
      refine Evl.q_when (b := false) (Evl.et_B (ev_isi2 v1 hy isi_int_list_tuple)) (fun z => by cases z) (fun _ H1 e1 => ?_)
      refine Evl.q_when (b := true) (Evl.et_B (ev_isi2 (v1.mono e1) (hy.up e1) isi_int_bool_int)) (fun _ H2 e2 => ?_) (fun z => by cases z)
      refine Evl.s_ret (v := .bl true) (Evl.ev_is (Evl.ev_andV (ev_isi (v0.mono (e1.trans e2)) (hx.up (e1.trans e2)) (b := true) isi_int_int) (fun _ => Evl.ev_andV (a := true) (Evl.ev_is (ev_eqB (ev_isi (v0.mono (e1.trans e2)) (hx.up (e1.trans e2)) (b := false) isi_int_bool) (ev_isi (v1.mono (e1.trans e2)) (hy.up (e1.trans e2)) (b := false) isi_int_bool)) (by decide))
        fun _ => Evl.ev_is (Evl.ev_op (v0.mono (e1.trans e2)) (v1.mono (e1.trans e2)) (Evl.rv_eq (by cases hx; cases hy; rfl))) (w := .bl true) (by rw [exy]; exact congrArg V.bl (decide_eq_true rfl)))) rfl) (fun H3 e3 => k H3 ((e1.trans e2).trans e3))
    | list ds =>
      cases n with
      | zero => exact hf.elim
      | succ m =>
        have hx' := hx
        have hy' := hy
        cases hx with
        | @lst a xs _ hs ha =>
          cases hy with
          | @lst b ys _ hs2 ha2 =>
            refine Evl.q_when (b := true) (Evl.et_B (ev_isi2 v1 hy' isi_list_list_tuple)) (fun _ H1 e1 => ?_) (fun z => by cases z)
            refine Evl.q_when (b := false) (Evl.et_is (Evl.et_or (Evl.et_test (ev_neB (ev_isi (v0.mono e1) (hx'.up e1) (b := true) isi_list_list) (ev_isi (v1.mono e1) (hy'.up e1) (b := true) isi_list_list))) fun _ => Evl.et_test (ev_neB (ev_isi (v0.mono e1) (hx'.up e1) (b := false) isi_list_tuple) (ev_isi (v1.mono e1) (hy'.up e1) (b := false) isi_list_tuple))) (by decide)) (fun z => by cases z) (fun _ H2 e2 => ?_)
            exact Evl.s_ret (v := .bl true) (seqs a b xs ys ds m rfl rfl rfl (.inl ⟨hs, hs2⟩) ha ha2 hf.2 (by rw [dpa_len ha]; exact hf.1) _ (e1.trans e2)) (fun H3 e3 => k H3 ((e1.trans e2).trans e3))
    | tuple ds =>
      cases n with
      | zero => exact hf.elim
      | succ m =>
        have hx' := hx
        have hy' := hy
        cases hx with
        | @tup a xs _ hs ha =>
          cases hy with
          | @tup b ys _ hs2 ha2 =>
            refine Evl.q_when (b := true) (Evl.et_B (ev_isi2 v1 hy' isi_tuple_list_tuple)) (fun _ H1 e1 => ?_) (fun z => by cases z)
            refine Evl.q_when (b := false) (Evl.et_is (Evl.et_or (Evl.et_test (ev_neB (ev_isi (v0.mono e1) (hx'.up e1) (b := false) isi_tuple_list) (ev_isi (v1.mono e1) (hy'.up e1) (b := false) isi_tuple_list))) fun _ => Evl.et_test (ev_neB (ev_isi (v0.mono e1) (hx'.up e1) (b := true) isi_tuple_tuple) (ev_isi (v1.mono e1) (hy'.up e1) (b := true) isi_tuple_tuple))) (by decide)) (fun z => by cases z) (fun _ H2 e2 => ?_)
            exact Evl.s_ret (v := .bl true) (seqs a b xs ys ds m rfl rfl rfl (.inr ⟨hs, hs2⟩) ha ha2 hf.2 (by rw [dpa_len ha]; exact hf.1) _ (e1.trans e2)) (fun H3 e3 => k H3 ((e1.trans e2).trans e3))
    | dict _ => cases hx
end
end U

set_option Elab.async false
set_option linter.all false
/-! Elimination in whole numbers: what it finds does not hang on the order of its columns. Pure arithmetic, for law_k06 and later ones. -/
namespace UM
abbrev Vec := Nat → Int
/-- a r - b h -/
def lc2 (a : Int) (r : Vec) (b : Int) (h : Vec) : Vec := fun k => a * r k - b * h k
inductive Spn (V : Vec → Prop) : Vec → Prop where
  | zero : Spn V (fun _ => 0)
  | mem {v : Vec} : V v → Spn V v
  | add {v w : Vec} : Spn V v → Spn V w → Spn V (fun k => v k + w k)
  | smul {v : Vec} (c : Int) : Spn V v → Spn V (fun k => c * v k)
/-- a multiple of it, not by 0, is a sum of multiples -/
def QS (V : Vec → Prop) (r : Vec) : Prop := ∃ c : Int, c ≠ 0 ∧ Spn V (fun k => c * r k)
section
variable {V W : Vec → Prop} {r r' x h : Vec} {l : Nat}
theorem Spn.of_eq {v w : Vec} (h : Spn V v) (e : ∀ k, v k = w k) : Spn V w := by
  have : v = w := funext e
  rw [← this]
  exact h
theorem QS.mem {v : Vec} (h : V v) : QS V v := ⟨1, by decide, (Spn.mem h).of_eq fun k => by omega⟩
theorem QS.zero : QS V (fun _ => 0) := ⟨1, by decide, Spn.zero.of_eq fun k => (Int.mul_zero 1).symm⟩
theorem QS.add {v w : Vec} (h1 : QS V v) (h2 : QS V w) : QS V (fun k => v k + w k) := by
  obtain ⟨c, c0, h1⟩ := h1
  obtain ⟨d, d0, h2⟩ := h2
  refine ⟨c * d, fun z => (Int.mul_eq_zero.mp z).elim c0 d0, ((h1.smul d).add (h2.smul c)).of_eq fun k => ?_⟩
  show d * (c * v k) + c * (d * w k) = c * d * (v k + w k)
  rw [Int.mul_add, Int.mul_comm c d, Int.mul_assoc, Int.mul_assoc, Int.mul_left_comm d c (w k)]
theorem QS.smul {v : Vec} (a : Int) (h1 : QS V v) : QS V (fun k => a * v k) := by
  obtain ⟨c, c0, h1⟩ := h1
  exact ⟨c, c0, (h1.smul a).of_eq fun k => Int.mul_left_comm ..⟩
theorem QS.div {v : Vec} {a : Int} (a0 : a ≠ 0) (h1 : QS V (fun k => a * v k)) : QS V v := by
  obtain ⟨c, c0, h1⟩ := h1
  exact ⟨c * a, fun z => (Int.mul_eq_zero.mp z).elim c0 a0, h1.of_eq fun k => (Int.mul_assoc ..).symm⟩
theorem QS.of_eq {v w : Vec} (h : QS V v) (e : ∀ k, v k = w k) : QS V w := by
  have : v = w := funext e
  rw [← this]
  exact h
theorem QS.lc2 {a b : Int} {v w : Vec} (h1 : QS V v) (h2 : QS V w) : QS V (lc2 a v b w) := ((h1.smul a).add (h2.smul (-b))).of_eq fun k => by
  show a * v k + -b * w k = a * v k - b * w k
  rw [Int.neg_mul]
  omega
theorem QS.trans (h : QS V x) (g : ∀ v, V v → QS W v) : QS W x := by
  obtain ⟨c, c0, h⟩ := h
  have q : ∀ y, Spn V y → QS W y := fun y hy => by
    induction hy with
    | zero => exact .zero
    | mem hv => exact g _ hv
    | add _ _ a b => exact a.add b
    | smul c _ a => exact a.smul c
  exact (q _ h).div c0
theorem QS.mono (h : QS V x) (g : ∀ v, V v → W v) : QS W x := h.trans fun v hv => .mem (g v hv)
end
/-! ### reducing by heads -/
inductive Red : Vec → List (Nat × Vec) → Vec → Prop where
  | nil {r : Vec} : Red r [] r
  | skip {r r' h : Vec} {l : Nat} {B : List (Nat × Vec)} : r l = 0 → Red r B r' → Red r ((l, h) :: B) r'
  | go {r r' h : Vec} {l : Nat} {B : List (Nat × Vec)} : Red (lc2 (h l) r (r l) h) B r' → Red r ((l, h) :: B) r'
structure Ech (B : List (Nat × Vec)) : Prop where
  pw : B.Pairwise fun a b => b.2 a.1 = 0
  ne : ∀ p ∈ B, p.2 p.1 ≠ 0
def hs (B : List (Nat × Vec)) : Vec → Prop := fun v => ∃ p ∈ B, p.2 = v
section
variable {r r' x h : Vec} {l : Nat} {B : List (Nat × Vec)}
theorem red_keep (h : Red r B r') : (∀ p ∈ B, p.2 l = 0) → r l = 0 → r' l = 0 := by
  induction h with
  | nil => exact fun _ z => z
  | skip _ _ ih => exact fun g z => ih (fun p hp => g p (List.mem_cons_of_mem _ hp)) z
  | @go r r' h l' B _ ih =>
    intro g z
    refine ih (fun p hp => g p (List.mem_cons_of_mem _ hp)) ?_
    have q : h l = 0 := g (l', h) (List.mem_cons_self ..)
    show h l' * r l - r l' * h l = 0
    rw [z, q]
    simp
theorem red_zero (hr : Red r B r') : Ech B → ∀ p ∈ B, r' p.1 = 0 := by
  induction hr with
  | nil => exact fun _ p hp => nomatch hp
  | @skip r r' h l B z hr ih =>
    intro e p hp
    obtain ⟨p1, p2⟩ := List.pairwise_cons.mp e.pw
    rcases List.mem_cons.mp hp with q | q
    · rw [q]
      exact red_keep hr (fun b hb => p1 b hb) z
    · exact ih ⟨p2, fun b hb => e.ne b (List.mem_cons_of_mem _ hb)⟩ p q
  | @go r r' h l B hr ih =>
    intro e p hp
    obtain ⟨p1, p2⟩ := List.pairwise_cons.mp e.pw
    rcases List.mem_cons.mp hp with q | q
    · rw [q]
      refine red_keep hr (fun b hb => p1 b hb) ?_
      show h l * r l - r l * h l = 0
      rw [Int.mul_comm]
      omega
    · exact ih ⟨p2, fun b hb => e.ne b (List.mem_cons_of_mem _ hb)⟩ p q
/-- the row from what is left and the heads, and the other way round -/
theorem red_back (hr : Red r B r') : (∀ p ∈ B, p.2 p.1 ≠ 0) → QS (fun v => hs B v ∨ v = r') r := by
  induction hr with
  | nil => exact fun _ => .mem (.inr rfl)
  | skip _ _ ih =>
    intro g
    exact (ih fun p hp => g p (List.mem_cons_of_mem _ hp)).mono fun v hv => hv.imp (fun ⟨p, hp, e⟩ => ⟨p, List.mem_cons_of_mem _ hp, e⟩) id
  | @go r r' h l B _ ih =>
    intro g
    have q := (ih fun p hp => g p (List.mem_cons_of_mem _ hp)).mono (W := fun v => hs ((l, h) :: B) v ∨ v = r') fun v hv => hv.imp (fun ⟨p, hp, e⟩ => ⟨p, List.mem_cons_of_mem _ hp, e⟩) id
    have hh : QS (fun v => hs ((l, h) :: B) v ∨ v = r') h := .mem (.inl ⟨(l, h), List.mem_cons_self .., rfl⟩)
    refine QS.div (a := h l) (g (l, h) (List.mem_cons_self ..)) ((q.add (hh.smul (r l))).of_eq fun k => ?_)
    show h l * r k - r l * h k + r l * h k = h l * r k
    omega
theorem red_fore (hr : Red r B r') : QS (fun v => hs B v ∨ v = r) r' := by
  induction hr with
  | nil => exact .mem (.inr rfl)
  | skip _ _ ih => exact ih.mono fun v hv => hv.imp (fun ⟨p, hp, e⟩ => ⟨p, List.mem_cons_of_mem _ hp, e⟩) id
  | @go r r' h l B _ ih =>
    refine ih.trans fun v hv => ?_
    rcases hv with ⟨p, hp, e⟩ | e
    · exact .mem (.inl ⟨p, List.mem_cons_of_mem _ hp, e⟩)
    · subst e
      exact QS.lc2 (.mem (.inr rfl)) (.mem (.inl ⟨(l, h), List.mem_cons_self .., rfl⟩))
/-- a sum of multiples of the heads -/
def comb : List Int → List (Nat × Vec) → Vec
  | a :: as, p :: B => fun k => a * p.2 k + comb as B k
  | _, _ => fun _ => 0
theorem comb_at : ∀ {B : List (Nat × Vec)} (a : List Int), (∀ p ∈ B, p.2 l = 0) → comb a B l = 0
  | [], a, _ => by cases a <;> rfl
  | p :: B, [], _ => rfl
  | p :: B, a :: as, g => by
    show a * p.2 l + comb as B l = 0
    rw [g p (List.mem_cons_self ..), comb_at as fun q hq => g q (List.mem_cons_of_mem _ hq)]
    simp
theorem comb_nil : ∀ {B : List (Nat × Vec)}, comb [] B = fun _ => 0
  | [] => rfl
  | _ :: _ => rfl
theorem comb_add : ∀ {B : List (Nat × Vec)} (a b : List Int), ∃ c, ∀ k, comb c B k = comb a B k + comb b B k
  | [], a, b => ⟨[], fun k => by cases a <;> cases b <;> rfl⟩
  | p :: B, [], b => ⟨b, fun k => by rw [comb_nil]; simp⟩
  | p :: B, a :: as, [] => ⟨a :: as, fun k => by rw [comb_nil]; simp⟩
  | p :: B, a :: as, b :: bs => by
    obtain ⟨c, hc⟩ := comb_add (B := B) as bs
    refine ⟨(a + b) :: c, fun k => ?_⟩
    show (a + b) * p.2 k + comb c B k = a * p.2 k + comb as B k + (b * p.2 k + comb bs B k)
    rw [hc k, Int.add_mul]
    omega
theorem comb_smul : ∀ {B : List (Nat × Vec)} (m : Int) (a : List Int), ∃ c, ∀ k, comb c B k = m * comb a B k
  | [], m, a => ⟨[], fun k => by cases a <;> simp [comb]⟩
  | p :: B, m, [] => ⟨[], fun k => by rw [comb_nil]; simp⟩
  | p :: B, m, a :: as => by
    obtain ⟨c, hc⟩ := comb_smul (B := B) m as
    refine ⟨(m * a) :: c, fun k => ?_⟩
    show m * a * p.2 k + comb c B k = m * (a * p.2 k + comb as B k)
    rw [hc k, Int.mul_add, Int.mul_assoc]
theorem comb_mem : ∀ {B : List (Nat × Vec)} {p : Nat × Vec}, p ∈ B → ∃ c, ∀ k, comb c B k = p.2 k
  | q :: B, p, hp => by
    rcases List.mem_cons.mp hp with e | e
    · subst e
      exact ⟨[1], fun k => by show 1 * p.2 k + comb [] B k = p.2 k; rw [comb_nil]; simp⟩
    · obtain ⟨c, hc⟩ := comb_mem e
      exact ⟨0 :: c, fun k => by show 0 * q.2 k + comb c B k = p.2 k; rw [hc k]; simp⟩
theorem spn_comb (hx : Spn (hs B) x) : ∃ a, ∀ k, comb a B k = x k := by
  induction hx with
  | zero => exact ⟨[], fun k => by rw [comb_nil]⟩
  | mem hv =>
    obtain ⟨p, hp, e⟩ := hv
    obtain ⟨c, hc⟩ := comb_mem hp
    exact ⟨c, fun k => by rw [hc k, e]⟩
  | add _ _ i1 i2 =>
    obtain ⟨a, ha⟩ := i1
    obtain ⟨b, hb⟩ := i2
    obtain ⟨c, hc⟩ := comb_add (B := B) a b
    exact ⟨c, fun k => by rw [hc k, ha k, hb k]⟩
  | smul m _ i1 =>
    obtain ⟨a, ha⟩ := i1
    obtain ⟨c, hc⟩ := comb_smul (B := B) m a
    exact ⟨c, fun k => by rw [hc k, ha k]⟩
theorem comb_zero : ∀ {B : List (Nat × Vec)} (a : List Int), Ech B → (∀ p ∈ B, comb a B p.1 = 0) → ∀ k, comb a B k = 0
  | [], a, _, _, k => by cases a <;> rfl
  | p :: B, [], _, _, k => rfl
  | p :: B, a :: as, e, g, k => by
    obtain ⟨p1, p2⟩ := List.pairwise_cons.mp e.pw
    have h0 : a * p.2 p.1 + comb as B p.1 = 0 := g p (List.mem_cons_self ..)
    rw [comb_at as fun q hq => p1 q hq] at h0
    have ha : a = 0 := (Int.mul_eq_zero.mp (by omega)).elim id fun z => absurd z (e.ne p (List.mem_cons_self ..))
    subst ha
    have hz := comb_zero (B := B) as ⟨p2, fun q hq => e.ne q (List.mem_cons_of_mem _ hq)⟩ (fun q hq => by
      have := g q (List.mem_cons_of_mem _ hq)
      have z : (0 : Int) * p.2 q.1 + comb as B q.1 = 0 := this
      simpa using z) k
    show 0 * p.2 k + comb as B k = 0
    rw [hz]
    simp
theorem qs_zero (e : Ech B) (hx : QS (hs B) x) (z : ∀ p ∈ B, x p.1 = 0) : ∀ k, x k = 0 := fun k => by
  obtain ⟨c, c0, hx⟩ := hx
  obtain ⟨a, ha⟩ := spn_comb hx
  have q := comb_zero a e (fun p hp => by rw [ha, z p hp]; simp) k
  rw [ha k] at q
  exact (Int.mul_eq_zero.mp q).elim (fun z => absurd z c0) id
/-- nothing is left exactly of what the heads span -/
theorem red_iff (e : Ech B) (hr : Red r B r') : (∀ k, r' k = 0) ↔ QS (hs B) r := by
  constructor
  · intro z
    refine (red_back hr e.ne).trans fun v hv => ?_
    rcases hv with hv | hv
    · exact .mem hv
    · rw [hv]
      exact QS.zero.of_eq fun k => (z k).symm
  · intro q
    refine qs_zero e ((red_fore hr).trans fun v hv => ?_) (red_zero hr e)
    rcases hv with hv | hv
    · exact .mem hv
    · rw [hv]
      exact q
/-- the heads of a row of rows -/
structure Bas (B : List (Nat × Vec)) (R : Vec → Prop) : Prop where
  ech : Ech B
  to : ∀ v, hs B v → QS R v
  of : ∀ v, R v → QS (hs B) v
theorem Bas.nil : Bas [] (fun _ => False) where
  ech := ⟨.nil, fun _ h => (nomatch h)⟩
  to := fun v hv => by
    obtain ⟨_, h, _⟩ := hv
    cases h
  of := fun _ h => h.elim
theorem Bas.iff {R : Vec → Prop} (b : Bas B R) (hr : Red r B r') : (∀ k, r' k = 0) ↔ QS R r := (red_iff b.ech hr).trans ⟨fun q => q.trans b.to, fun q => q.trans b.of⟩
theorem Bas.skip {R : Vec → Prop} (b : Bas B R) (hr : Red r B r') (z : ∀ k, r' k = 0) : Bas B (fun v => R v ∨ v = r) :=
  ⟨b.ech, fun v hv => (b.to v hv).mono fun _ => .inl, fun v hv => hv.elim (b.of v) fun e => e ▸ (red_iff b.ech hr).mp z⟩
theorem Bas.push {R : Vec → Prop} (b : Bas B R) (hr : Red r B r') (z : r' l ≠ 0) : Bas (B ++ [(l, r')]) (fun v => R v ∨ v = r) := by
  have up : ∀ v, hs B v → hs (B ++ [(l, r')]) v := fun v ⟨p, hp, e⟩ => ⟨p, List.mem_append_left _ hp, e⟩
  have hl : hs (B ++ [(l, r')]) r' := ⟨(l, r'), List.mem_append_right _ (List.mem_singleton.mpr rfl), rfl⟩
  refine ⟨⟨List.pairwise_append.mpr ⟨b.ech.pw, List.pairwise_singleton _ _, fun p hp q hq => ?_⟩, fun p hp => ?_⟩, fun v hv => ?_, fun v hv => ?_⟩
  · rw [List.mem_singleton.mp hq]
    exact red_zero hr b.ech p hp
  · rcases List.mem_append.mp hp with h | h
    · exact b.ech.ne p h
    · rw [List.mem_singleton.mp h]
      exact z
  · obtain ⟨p, hp, e⟩ := hv
    rcases List.mem_append.mp hp with h | h
    · exact (b.to v ⟨p, h, e⟩).mono fun _ => .inl
    · rw [List.mem_singleton.mp h] at e
      rw [← e]
      refine (red_fore hr).trans fun v hv => ?_
      rcases hv with hv | hv
      · exact (b.to v hv).mono fun _ => .inl
      · exact .mem (.inr hv)
  · rcases hv with hv | hv
    · exact (b.of v hv).mono up
    · rw [hv]
      refine (red_back hr b.ech.ne).trans fun v hv => ?_
      rcases hv with hv | hv
      · exact .mem (up v hv)
      · rw [hv]
        exact .mem hl
/-- columns in another order -/
theorem qs_perm {V W : Vec → Prop} (f : Nat → Nat) (hV : ∀ v, V v → W (fun k => v (f k))) (h : QS V x) : QS W (fun k => x (f k)) := by
  obtain ⟨c, c0, h⟩ := h
  have q : ∀ y, Spn V y → Spn W (fun k => y (f k)) := fun y hy => by
    induction hy with
    | zero => exact .zero
    | mem hv => exact .mem (hV _ hv)
    | add _ _ a b => exact a.add b
    | smul c _ a => exact a.smul c
  exact ⟨c, c0, q _ h⟩
end
end UM

set_option Elab.async false
set_option linter.all false
set_option maxRecDepth 100000
set_option maxHeartbeats 4000000
namespace U
open PySem L2
open Evl (Ex)
abbrev s_lead_of : Stmt := top 1
abbrev sc_lead_of_N : List Str := ["row", "index", "entry"]
theorem sc_lead_of : FnScope sc_lead_of_N ["row"] (defScope s_lead_of) := ⟨rfl, rfl, rfl, by decide +kernel, rfl, by decide +kernel, by decide +kernel⟩
abbrev s_reduced : Stmt := top 2
abbrev sc_reduced_N : List Str := ["row", "basis", "rest", "lead", "pivot", "have", "scale", "entry", "less"]
theorem sc_reduced : FnScope sc_reduced_N ["row", "basis"] (defScope s_reduced) := ⟨rfl, rfl, rfl, by decide +kernel, rfl, by decide +kernel, by decide +kernel⟩
abbrev s_basis_of : Stmt := top 3
abbrev sc_basis_of_N : List Str := ["rows", "width", "basis", "row", "rest", "lead"]
theorem sc_basis_of : FnScope sc_basis_of_N ["rows", "width"] (defScope s_basis_of) := ⟨rfl, rfl, rfl, by decide +kernel, rfl, by decide +kernel, by decide +kernel⟩
abbrev s_is_spanned : Stmt := top 4
abbrev sc_is_spanned_N : List Str := ["row", "rows"]
theorem sc_is_spanned : FnScope sc_is_spanned_N ["row", "rows"] (defScope s_is_spanned) := ⟨rfl, rfl, rfl, by decide +kernel, rfl, by decide +kernel, by decide +kernel⟩
def leadF : List Int → Nat → Option Nat
  | [], _ => none
  | x :: r, i => if x = 0 then leadF r (i + 1) else some i
theorem lead_step {row : List Int} {i : Nat} (h : i < row.length) : leadF (row.drop i) i = if row[i] = 0 then leadF (row.drop (i + 1)) (i + 1) else some i := by
  rw [List.drop_eq_getElem_cons h]
  rfl
def leadV (r : List Int) : V := match leadF r 0 with
  | some i => .int (i : Int)
  | none => .non
def stepP (r : List Int) (p : Nat × List Int) : List Int := if r.getD p.1 0 = 0 then r else List.zipWith (fun x y => p.2.getD p.1 0 * x - r.getD p.1 0 * y) r p.2
def redP (r : List Int) (B : List (Nat × List Int)) : List Int := B.foldl stepP r
def basStep (B : List (Nat × List Int)) (row : List Int) : List (Nat × List Int) := match leadF (redP row B) 0 with
  | some l => B ++ [(l, redP row B)]
  | none => B
def basP (rows : List (List Int)) : List (Nat × List Int) := rows.foldl basStep []
def bD (p : Nat × List Int) : PyData := .tuple [.int (p.1 : Int), .list (p.2.map .int)]
def Bits (n : Nat) (r : List Int) : Prop := ∀ x ∈ r, x.natAbs < 2 ^ n
/-- rows of that length, their leads within, of so many bits -/
def BOk (m n : Nat) (B : List (Nat × List Int)) : Prop := ∀ p ∈ B, p.1 < m ∧ p.2.length = m ∧ Bits n p.2
theorem stepP_len {r : List Int} {p : Nat × List Int} (h : p.2.length = r.length) : (stepP r p).length = r.length := by
  unfold stepP
  split
  · rfl
  · rw [List.length_zipWith, h, Nat.min_self]
theorem two_add (a : Nat) : 2 ^ a + 2 ^ a = 2 ^ (a + 1) := by
  rw [Nat.pow_succ]
  omega
theorem getD_bits {n : Nat} {r : List Int} (h : Bits n r) (i : Nat) : (r.getD i 0).natAbs < 2 ^ n := by
  rw [List.getD_eq_getElem?_getD]
  cases q : r[i]? with
  | none => exact Nat.two_pow_pos n
  | some x => exact h x (List.mem_of_getElem? q)
theorem stepP_bits {n k : Nat} {r : List Int} {p : Nat × List Int} (h1 : Bits k r) (h2 : Bits n p.2) : Bits (n + k + 1) (stepP r p) := by
  unfold stepP
  have a := getD_bits h2 p.1
  have b := getD_bits h1 p.1
  split
  · intro x hx
    exact Nat.lt_of_lt_of_le (h1 x hx) (Nat.pow_le_pow_right (by decide) (by omega))
  · intro x hx
    obtain ⟨i, hi, e⟩ := List.getElem_of_mem hx
    rw [List.getElem_zipWith] at e
    rw [List.length_zipWith] at hi
    have q1 := h1 _ (List.getElem_mem (l := r) (n := i) (by omega))
    have q2 := h2 _ (List.getElem_mem (l := p.2) (n := i) (by omega))
    have m1 := wide_lt a q1
    have m2 := wide_lt b q2
    rw [Nat.add_comm k n] at m2
    have := two_add (n + k)
    rw [← e]
    omega
def bitsAt (n : Nat) : Nat → Nat
  | 0 => n
  | i + 1 => n + bitsAt n i + 1
theorem bitsAt_le (n : Nat) : ∀ i, bitsAt n i = n * (i + 1) + i
  | 0 => by show n = n * 1 + 0; omega
  | i + 1 => by
    show n + bitsAt n i + 1 = n * (i + 1 + 1) + (i + 1)
    rw [bitsAt_le n i, Nat.mul_add n (i + 1) 1]
    omega
theorem redP_take {row : List Int} {B : List (Nat × List Int)} {i : Nat} (h : i < B.length) : redP row (B.take (i + 1)) = stepP (redP row (B.take i)) B[i] := by
  unfold redP
  rw [List.take_add_one, List.getElem?_eq_getElem h, List.foldl_append]
  rfl
theorem redP_ok {m n : Nat} {row : List Int} {B : List (Nat × List Int)} (hl : row.length = m) (hb : Bits n row) (hB : BOk m n B) : ∀ i, i ≤ B.length → (redP row (B.take i)).length = m ∧ Bits (bitsAt n i) (redP row (B.take i))
  | 0, _ => ⟨hl, hb⟩
  | i + 1, hi => by
    obtain ⟨h1, h2⟩ := redP_ok hl hb hB i (by omega)
    obtain ⟨_, q2, q3⟩ := hB B[i] (List.getElem_mem (by omega))
    rw [redP_take (by omega)]
    exact ⟨by rw [stepP_len (by omega), h1], stepP_bits h2 q3⟩
def spLead (K : PySem.W.Frag) : Sp := fun vs H Q _ => ∃ v r, vs = [v] ∧ Dp K H v (.list ((r : List Int).map .int)) ∧ r.length ≤ 1000 ∧ ∀ H', Ex H H' → Q (leadV r) H'
def spRed (K : PySem.W.Frag) : Sp := fun vs H Q _ => ∃ v w row B n L, vs = [v, w] ∧ Hid L H ∧ Dp K (W L H) v (.list ((row : List Int).map .int)) ∧ Dp K (W L H) w (.list ((B : List (Nat × List Int)).map bD)) ∧ row.length ≤ 1000 ∧ B.length ≤ 10 ∧ n ≤ 1000 ∧ Bits n row ∧ BOk row.length n B ∧
  ∀ t H', H t = none → Ex H H' → Gr K L H' t ((redP row B).map .int) → Q (.ref t) H'
structure TxP (mg : Str → Option Value) : Prop extends TxB mg where
  m_range : mg "range" = none
  m_enumerate : mg "enumerate" = none
section
variable {P : Program} {w : World} {K : PySem.W.Frag} {mg : Str → Option Value} {base : Heap}
theorem dpi_inv {H : Hp} {vs : List V} {ns : List Int} (h : DpAll K H vs (ns.map PyData.int)) : vs = ns.map V.int := by
  induction ns generalizing vs with
  | nil =>
    cases h
    rfl
  | cons n ns ih =>
    cases h with
    | cons r rr =>
      cases r
      rw [ih rr]
      rfl
theorem dpi_of {H : Hp} : ∀ ns : List Int, DpAll K H (ns.map V.int) (ns.map PyData.int)
  | [] => .nil
  | n :: ns => .cons (.int n) (dpi_of ns)
theorem q_asgG6 {L : List Addr} {te : TE} {σ : L2.St} {H : Hp} {ds : List PyData} {D : Ends} {tz : TS} {i : Nat} (h : EvG K L te σ H ds) (k : ∀ u H1, H u = none → Ex H H1 → Gr K L H1 u ds → tz D (σ.set i (some (.ref u))) H1) : tSeq (tAsg te (gName i)) tz D σ H := h H (Ex.refl H) _ fun u H1 hu e g => k u H1 hu e g
theorem ev_notN {σ : L2.St} {H : Hp} {te : TE} {v : V} (h : Evl.Ev te σ H v) : Evl.Ev (tNotN te) σ H (.bl (!decide (v = .non))) := fun H1 e _ q => h H1 e _ fun H2 e2 => q H2 e2
theorem ev_isN {σ : L2.St} {H : Hp} {te : TE} {v : V} (h : Evl.Ev te σ H v) : Evl.Ev (tIsN te) σ H (.bl (decide (v = .non))) := fun H1 e _ q => h H1 e _ fun H2 e2 => q H2 e2
theorem ev_lead {σ : L2.St} {H : Hp} {te : TE} {v : V} {r : List Int} (h : Evl.Ev te σ H v) (hd : Dp K H v (.list (r.map .int))) (hz : r.length ≤ 1000) : Evl.Ev (tCallD (spLead K) (tCons te tNil)) σ H (leadV r) :=
  ev_callD (Evl.ea_cons h Evl.ea_nil) fun H1 e1 Q q => ⟨v, r, rfl, hd.up e1, hz, q⟩
theorem ev_leadL {σ : L2.St} {H : Hp} {te : TE} {r : List Int} (h : Evl.EvL te σ H (r.map V.int)) (hz : r.length ≤ 1000) : Evl.Ev (tCallD (spLead K) (tCons te tNil)) σ H (leadV r) :=
  fun H1 e1 Q q => h H1 e1 _ fun p H2 hp e2 h2 => ⟨.ref p, r, rfl, .lst (SqL.of h2) (dpi_of _), hz, fun H3 e3 => q H3 (e2.trans e3)⟩
theorem cut_all {xs : List V} {m : Nat} (h : xs.length = m) : cutV xs none (some (m : Int)) = xs := by
  unfold cutV
  have e1 : HT.sIx xs.length 0 none = 0 := rfl
  have e2 : HT.sIx xs.length xs.length (some (m : Int)) = xs.length := by
    rw [HT.sIx_nat, h, Nat.min_self]
  rw [e1, e2, List.drop_zero, Nat.sub_zero, List.take_length]
theorem ok_lead {f : Addr} {fd : FuncData} (F : Fun K "lead_of" "lead_of" s_lead_of f fd) (T : TxP mg) : FnOk P w K mg base CX0 1 f fd ["row"] (spLead K) := by
  refine F.ok sc_lead_of (fun vs H Q E h => ?_) (fun cdv A outer s H vs Q E hr h => ?_)
  · obtain ⟨_, _, rfl, _⟩ := h
    rfl
  · obtain ⟨v, r, rfl, hd, hz, k⟩ := h
    refine ⟨_, (pss_cons (ps_for PassesOwn.never rfl (pi_enum (by rfl) T.m_enumerate (pa_cons (pv 0) pa_nil)) (pg_tup (by rfl) (pgs_cons (pg_name (i := 1) sc_lead_of.nd rfl (by first | exact Or.inl rfl | exact Or.inr rfl)) (pgs_cons (pg_name (i := 2) sc_lead_of.nd rfl (by first | exact Or.inl rfl | exact Or.inr rfl)) pgs_nil)))
      (pss_one (ps_if (pt_cmpR op_ne (pv 2) pe_int (nomark _)) (pss_one (ps_ret (pv 1))) pss_nil)))
    (pss_one (ps_ret pe_non))), ?_⟩
    cases hd with
    | @lst a xs _ hs ha =>
      have ex := dpi_inv ha
      subst ex
      let Pv : Nat → L2.St → Hp → Prop := fun i σ' H' => Ex H H' ∧ leadF r 0 = leadF (r.drop i) i ∧ ∃ s1 s2, σ' = [some (.ref a), s1, s2]
      refine ⟨_, rfl, a, _, rfl, hs, for_it (walk_enum (xs := r.map V.int)) Pv ⟨Ex.refl _, rfl, none, none, rfl⟩ (fun i σ' H' _ pv => Evl.ex_l pv.1 hs) (fun i y σ' H1 H2 hi pv yp => ?_) (fun σ' H1 pv => ?_)⟩
      · obtain ⟨e1, hl, s1, s2, rfl⟩ := pv
        obtain ⟨Tt, u1, u2, rfl, hT, rfl, hu1, hu2⟩ := yp
        have hi' : i < r.length := by simpa using hi
        have eu1 : u1 = .int (i : Int) := (Option.some.inj hu1).symm
        have hu2' : (r.map V.int)[i]? = some u2 := hu2
        rw [List.getElem?_map, List.getElem?_eq_getElem hi'] at hu2'
        have eu2 : u2 = .int r[i] := (Option.some.inj hu2').symm
        subst eu1 eu2
        rw [lead_step hi'] at hl
        have e2 := e1.trans (Ex.new (o := .tup [.int (i : Int), .int r[i]]) hT)
        refine ⟨Tt, [.int (i : Int), .int r[i]], rfl, SqT.of upd_same, rfl, .int (i : Int), [.int r[i]], rfl, .int r[i], [], rfl, rfl, ?_⟩
        refine Evl.s_when (b := !decide (V.int r[i] = V.int 0)) (Evl.et_test (Evl.ev_op (Evl.ev_var rfl) Evl.ev_c (Evl.rv_ne rfl))) (fun z H3 e3 => ?_) (fun z H3 e3 => ?_)
        · have hne : ¬ r[i] = 0 := by
            intro q
            rw [q] at z
            simp at z
          rw [if_neg hne] at hl
          have ev : leadV r = .int (i : Int) := by
            unfold leadV
            rw [hl]
          refine Evl.s_ret (Evl.ev_var (v := .int (i : Int)) rfl) fun H4 e4 => ?_
          rw [← ev]
          exact k H4 ((e2.trans e3).trans e4)
        · have he : r[i] = 0 := by simpa using z
          rw [if_pos he] at hl
          exact ⟨e2.trans e3, hl, _, _, rfl⟩
      · obtain ⟨e1, hl, s1, s2, rfl⟩ := pv
        rw [List.length_map, List.drop_length] at hl
        have ev : leadV r = .non := by
          unfold leadV
          rw [hl]
          rfl
        have kk : ∀ H2, Ex H1 H2 → Q .non H2 := fun H2 e2 => by
          rw [← ev]
          exact k H2 (e1.trans e2)
        show tRet (tC .non) { nx := fun _ H' => Q .non H', rt := Q } [some (.ref a), s1, s2] H1
        exact Evl.s_ret Evl.ev_c kk
theorem ok_reduced {f : Addr} {fd : FuncData} (F : Fun K "reduced" "reduced" s_reduced f fd) (T : TxP mg) : FnOk P w K mg base CX0 1 f fd ["row", "basis"] (spRed K) := by
  refine F.ok sc_reduced (fun vs H Q E h => ?_) (fun cdv A outer s H vs Q E hr h => ?_)
  · obtain ⟨_, _, _, _, _, _, rfl, _⟩ := h
    rfl
  · obtain ⟨v, w, row, B, n, L, rfl, hL, hd, hdB, hz, hB10, hn, hb, hB, k⟩ := h
    refine ⟨_, (pss_cons (ps_set (i := 2) sc_reduced.nd rfl (by first | exact Or.inl rfl | exact Or.inr rfl) (pe_callTy call_list_of (by rfl) T.m_list (by decide +kernel) (pa_cons (pv 0) pa_nil)))
    (pss_cons (ps_for PassesOwn.never rfl (pi_list (pv 1)) (pg_tup (by rfl) (pgs_cons (pg_name (i := 3) sc_reduced.nd rfl (by first | exact Or.inl rfl | exact Or.inr rfl)) (pgs_cons (pg_name (i := 4) sc_reduced.nd rfl (by first | exact Or.inl rfl | exact Or.inr rfl)) pgs_nil)))
      (pss_cons (ps_set (i := 5) sc_reduced.nd rfl (by first | exact Or.inl rfl | exact Or.inr rfl) (pe_ix ix_list (pv 2) (pv 3) (fun _ _ => rfl)))
      (pss_one (ps_if (pt_cmpR op_ne (pv 5) pe_int (nomark _)) (pss_cons (ps_set (i := 6) sc_reduced.nd rfl (by first | exact Or.inl rfl | exact Or.inr rfl) (pe_ix ix_list (pv 4) (pv 3) (fun _ _ => rfl)))
        (pss_one (ps_setLc (i := 2) (own := [("entry", 7), ("less", 8)]) (g := gTup K 2 (gCons (gName 7) (gCons (gName 8) (gNil)))) (tt := tYes) (by rfl) sc_reduced.nd rfl rfl (sw_true rfl rfl rfl (by decide +kernel)) (RZ.pi_zipA (by rfl) T.m_zip (pa_cons (pv 2) (pa_cons (pv 4) pa_nil))) (blkOk_by (N := sc_reduced_N) (sc := defScope s_reduced) (by decide +kernel)) (fun _ _ _ _ _ => (pg_tup (by rfl) (pgs_cons (pg_name (i := 7) sc_reduced.nd rfl (by first | exact Or.inl rfl | exact Or.inr rfl)) (pgs_cons (pg_name (i := 8) sc_reduced.nd rfl (by first | exact Or.inl rfl | exact Or.inr rfl)) pgs_nil)))) (fun _ _ _ _ _ => pts_nil) (fun _ _ _ _ _ => (pe_op op_sub (pe_op op_mulW (pv 6) (pv 7)) (pe_op op_mulW (pv 5) (pv 8))))))) pss_nil))))
    (pss_one (ps_ret (pv 2))))), ?_⟩
    cases hdB with
    | @lst b ys _ hsB haB =>
      have hlB := dpa_len haB
      rw [List.length_map] at hlB
      have hsB' := Evl.ex_l (w_sub (L := L)) hsB
      refine q_asgG6 (K := K) (L := L) (eg_list (Evl.ev_var rfl) (.inl hd) hL) fun t H1 ht e1 g1 => ?_
      let Pv : Nat → L2.St → Hp → Prop := fun i σ' H' => Ex H H' ∧ ∃ t s3 s4 s5 s6 s7 s8, H t = none ∧ Gr K L H' t ((redP row (B.take i)).map .int) ∧ σ' = [some v, some (.ref b), some (.ref t), s3, s4, s5, s6, s7, s8]
      refine ⟨_, rfl, b, rfl, ⟨ys, Evl.ex_l e1 hsB'⟩, for_it (walk_list (xs := ys)) Pv ⟨e1, t, none, none, none, none, none, none, ht, g1, rfl⟩ (fun i σ' H' _ pv => Evl.ex_l pv.1 hsB') (fun i y σ' H2 H3 hi pv yp => ?_) (fun σ' H2 pv => ?_)⟩
      · obtain ⟨e2, t, s3, s4, s5, s6, s7, s8, ht, g2, rfl⟩ := pv
        obtain ⟨rfl, hy⟩ := yp
        have hi' : i < B.length := by omega
        obtain ⟨d, hd1, hd2⟩ := dpa_get haB hy
        rw [List.getElem?_map, List.getElem?_eq_getElem hi'] at hd1
        have ed : d = bD B[i] := (Option.some.inj hd1).symm
        subst ed
        obtain ⟨p1, p2, p3⟩ := hB B[i] (List.getElem_mem hi')
        obtain ⟨rl, rb⟩ := redP_ok rfl hb hB i (by omega)
        have hred := redP_take (row := row) hi'
        generalize hr' : redP row (B.take i) = r at g2 rl rb hred
        generalize hBi : B[i] = pr at hd2 p1 p2 p3 hred
        obtain ⟨l, pv⟩ := pr
        have hll : l < r.length := by omega
        have hpl : pv.length = r.length := by
          have : pv.length = row.length := p2
          omega
        have hd3 := hd2.up (w_ex e2)
        cases hd3 with
        | @tup a4 zs _ hs4 ha4 =>
          cases ha4 with
          | @cons u1 _ _ _ r1 rr1 =>
            cases r1
            cases rr1 with
            | @cons u2 _ _ _ r2 rr2 =>
              cases rr2
              cases r2 with
              | @lst c cs _ hsc hac =>
                have ex := dpi_inv hac
                subst ex
                obtain ⟨nt, xs, hx, hxa⟩ := id g2
                have ex2 := dpi_inv hxa
                subst ex2
                have ixr : atI (r.map V.int) (l : Int) = some (.int r[l]) := atI_nat (by rw [List.getElem?_map, List.getElem?_eq_getElem hll]; rfl)
                have ixp : atI (pv.map V.int) (l : Int) = some (.int (pv[l]'(by omega))) := atI_nat (by rw [List.getElem?_map, List.getElem?_eq_getElem (by omega)]; rfl)
                refine ⟨a4, [.int (l : Int), .ref c], rfl, Evl.ex_t w_sub hs4, rfl, .int (l : Int), [.ref c], rfl, .ref c, [], rfl, rfl, ?_⟩
                refine Evl.q_asg (v := .int r[l]) (Evl.ev_op (Evl.ev_var (v := .ref t) rfl) (Evl.ev_var (v := .int (l : Int)) rfl) (Evl.rv_ixL (SqL.of hx) ixr)) fun H4 e4 => ?_
                have hstep : stepP r (l, pv) = if r[l] = 0 then r else List.zipWith (fun x y => (pv[l]'(by omega)) * x - r[l] * y) r pv := by
                  unfold stepP
                  show (if r.getD l 0 = 0 then r else List.zipWith (fun x y => pv.getD l 0 * x - r.getD l 0 * y) r pv) = _
                  rw [List.getD_eq_getElem?_getD, List.getD_eq_getElem?_getD, List.getElem?_eq_getElem hll, List.getElem?_eq_getElem (show l < pv.length by omega)]
                  rfl
                refine Evl.s_when (b := !decide (V.int r[l] = V.int 0)) (Evl.et_test (Evl.ev_op (Evl.ev_var rfl) Evl.ev_c (Evl.rv_ne rfl))) (fun z H5 e5 => ?_) (fun z H5 e5 => ?_)
                · have hne : ¬ r[l] = 0 := by
                    intro q
                    rw [q] at z
                    simp at z
                  rw [if_neg hne] at hstep
                  have e45 := e4.trans e5
                  refine Evl.q_asg (v := .int (pv[l]'(by omega))) (Evl.ev_op (Evl.ev_var (v := .ref c) rfl) (Evl.ev_var (v := .int (l : Int)) rfl) (Evl.rv_ixL (Evl.ex_l e45 (Evl.ex_l w_sub hsc)) ixp)) fun H6 e6 => ?_
                  have e46 := e45.trans e6
                  have bh := rb _ (List.getElem_mem hll)
                  have bs := p3 _ (List.getElem_mem (l := pv) (n := l) (by omega))
                  have bl := bitsAt_le n i
                  have bmax : bitsAt n i ≤ 20000 := by
                    rw [bl]
                    have : n * (i + 1) ≤ 1000 * 11 := Nat.mul_le_mul hn (by omega)
                    omega
                  have n1 : 0 < n + 1 := by omega
                  have up1 : ∀ x : Int, x.natAbs < 2 ^ n → x.natAbs < 2 ^ (n + 1) := fun x h => Nat.lt_of_lt_of_le h (Nat.pow_le_pow_right (by decide) (by omega))
                  have up2 : ∀ x : Int, x.natAbs < 2 ^ bitsAt n i → x.natAbs < 2 ^ (bitsAt n i + 1) := fun x h => Nat.lt_of_lt_of_le h (Nat.pow_le_pow_right (by decide) (by omega))
                  refine Evl.s_asgL (xs := (List.range (r.map V.int).length).map fun j => .int ((pv[l]'(by omega)) * r.getD j 0 - r[l] * pv.getD j 0)) (el_zip (K := K) (xs := r.map V.int) (ys := pv.map V.int) (Evl.ea_cons (Evl.ev_var (v := .ref t) rfl) (Evl.ea_cons (Evl.ev_var (v := .ref c) rfl) Evl.ea_nil)) (.inl ⟨SqL.of (e46 t _ hx), Evl.ex_l e46 (Evl.ex_l w_sub hsc)⟩) (by rw [List.length_map, List.length_map, hpl]) (by rw [List.length_map]; omega) (fun _ _ => rfl)
                    (fun j x y H7 e7 hx1 hy1 => ?_)) fun t' H7 ht' e7 h7 => ?_
                  · have hj : j < r.length := by
                      have := (List.getElem?_eq_some_iff.mp hx1).1
                      rwa [List.length_map] at this
                    rw [List.getElem?_map, List.getElem?_eq_getElem hj] at hx1
                    rw [List.getElem?_map, List.getElem?_eq_getElem (show j < pv.length by omega)] at hy1
                    have e1' : x = .int r[j] := (Option.some.inj hx1).symm
                    have e2' : y = .int (pv[j]'(by omega)) := (Option.some.inj hy1).symm
                    subst e1' e2'
                    have g1 : r.getD j 0 = r[j] := by rw [List.getD_eq_getElem?_getD, List.getElem?_eq_getElem hj]; rfl
                    have g2' : pv.getD j 0 = pv[j]'(by omega) := by rw [List.getD_eq_getElem?_getD, List.getElem?_eq_getElem (show j < pv.length by omega)]; rfl
                    rw [g1, g2']
                    have b1 := rb _ (List.getElem_mem hj)
                    have b2 := p3 _ (List.getElem_mem (l := pv) (n := j) (by omega))
                    exact Evl.ev_op (Evl.ev_op (Evl.ev_var rfl) (Evl.ev_var rfl) (Evl.rv_I (C := CMulW) (g := fun a b => .int (a * b)) (wide_mul (up1 _ bs) (up2 _ b1) (by omega) (by omega) (by omega)))) (Evl.ev_op (Evl.ev_var rfl) (Evl.ev_var rfl) (Evl.rv_I (C := CMulW) (g := fun a b => .int (a * b)) (wide_mul (up2 _ bh) (up1 _ b2) (by omega) (by omega) (by omega)))) (Evl.rv_I0 (g := fun a b => .int (a - b)))
                  · have ez : ((List.range (r.map V.int).length).map fun j => V.int ((pv[l]'(by omega)) * r.getD j 0 - r[l] * pv.getD j 0)) = (stepP r (l, pv)).map V.int := by
                      rw [hstep]
                      apply List.ext_getElem
                      · simp [hpl]
                      · intro j h1 h2
                        have hj : j < r.length := by simpa using h1
                        have hj2 : j < pv.length := by omega
                        simp [hj, hj2]
                    rw [ez] at h7
                    have eA := (e2.trans e46).trans e7
                    refine ⟨eA, t', _, _, _, _, _, _, Evl.fresh_back (e2.trans e46) ht', ?_, rfl⟩
                    rw [hred]
                    exact ⟨hid_not (hid_ex (e2.trans e46) hL) ht', _, h7, dpi_of _⟩
                · have he : r[l] = 0 := by simpa using z
                  rw [if_pos he] at hstep
                  refine ⟨(e2.trans e4).trans e5, t, _, _, _, _, _, _, ht, ?_, rfl⟩
                  rw [hred, hstep]
                  exact (g2.up e4).up e5
      · obtain ⟨e2, t, s3, s4, s5, s6, s7, s8, ht, g2, rfl⟩ := pv
        rw [hlB, List.take_length] at g2
        exact Evl.s_ret (Evl.ev_var rfl) fun H3 e3 => k t H3 ht (e2.trans e3) (g2.up e3)
/-- the bits behind so many rows -/
def bitsB (n : Nat) : Nat → Nat
  | 0 => n
  | i + 1 => bitsAt (bitsB n i) i
def rD (r : List Int) : PyData := .list (r.map .int)
theorem bas_take {rows : List (List Int)} {i : Nat} (h : i < rows.length) : basP (rows.take (i + 1)) = basStep (basP (rows.take i)) rows[i] := by
  unfold basP
  rw [List.take_add_one, List.getElem?_eq_getElem h, List.foldl_append]
  rfl
theorem leadF_lt : ∀ {r : List Int} {i l : Nat}, leadF r i = some l → i ≤ l ∧ l < i + r.length ∧ r.getD (l - i) 0 ≠ 0
  | [], _, _, h => by cases h
  | x :: r, i, l, h => by
    unfold leadF at h
    split at h
    · obtain ⟨h1, h2, h3⟩ := leadF_lt h
      refine ⟨by omega, by rw [List.length_cons]; omega, ?_⟩
      obtain ⟨m, hm⟩ : ∃ m, l - i = m + 1 := ⟨l - i - 1, by omega⟩
      rw [hm, List.getD_cons_succ]
      have : l - (i + 1) = m := by omega
      rw [this] at h3
      exact h3
    · cases h
      exact ⟨Nat.le_refl _, by rw [List.length_cons]; omega, by rw [Nat.sub_self, List.getD_cons_zero]; assumption⟩
theorem leadF_none : ∀ {r : List Int} {i : Nat}, leadF r i = none → ∀ x ∈ r, x = 0
  | [], _, _, _, hx => by cases hx
  | y :: r, i, h, x, hx => by
    unfold leadF at h
    split at h
    · rename_i z
      rcases List.mem_cons.mp hx with q | q
      · rw [q, z]
      · exact leadF_none h x q
    · cases h
theorem bits_up {n m : Nat} {r : List Int} (h : Bits n r) (e : n ≤ m) : Bits m r := fun x hx => Nat.lt_of_lt_of_le (h x hx) (Nat.pow_le_pow_right (by decide) e)
theorem bOk_up {m n k : Nat} {B : List (Nat × List Int)} (h : BOk m n B) (e : n ≤ k) : BOk m k B := fun p hp => ⟨(h p hp).1, (h p hp).2.1, bits_up (h p hp).2.2 e⟩
theorem bitsB_up (n : Nat) (i : Nat) : bitsB n i ≤ bitsB n (i + 1) := by
  show bitsB n i ≤ bitsAt (bitsB n i) i
  rw [bitsAt_le]
  have : bitsB n i * 1 ≤ bitsB n i * (i + 1) := Nat.mul_le_mul_left _ (by omega)
  omega
theorem bitsB_le (n : Nat) : ∀ i, n ≤ bitsB n i
  | 0 => Nat.le_refl _
  | i + 1 => Nat.le_trans (bitsB_le n i) (bitsB_up n i)
theorem bas_ok {m n : Nat} {rows : List (List Int)} (hl : ∀ r ∈ rows, r.length = m) (hb : ∀ r ∈ rows, Bits n r) : ∀ i, i ≤ rows.length → (basP (rows.take i)).length ≤ i ∧ BOk m (bitsB n i) (basP (rows.take i))
  | 0, _ => ⟨Nat.le_refl _, fun p hp => (nomatch hp)⟩
  | i + 1, hi => by
    obtain ⟨h1, h2⟩ := bas_ok hl hb i (by omega)
    have hm : rows[i] ∈ rows := List.getElem_mem (by omega)
    obtain ⟨q1, q2⟩ := redP_ok (hl _ hm) (bits_up (hb _ hm) (bitsB_le n i)) h2 _ (Nat.le_refl _)
    rw [List.take_length] at q1 q2
    rw [bas_take (by omega)]
    have hb2 : Bits (bitsB n (i + 1)) (redP rows[i] (basP (rows.take i))) := by
      refine bits_up q2 ?_
      show bitsAt (bitsB n i) _ ≤ bitsAt (bitsB n i) i
      rw [bitsAt_le, bitsAt_le]
      have := Nat.mul_le_mul_left (bitsB n i) (show (basP (rows.take i)).length + 1 ≤ i + 1 by omega)
      omega
    unfold basStep
    split
    · rename_i l hlead
      obtain ⟨_, l2, _⟩ := leadF_lt hlead
      refine ⟨by rw [List.length_append]; simp; omega, fun p hp => ?_⟩
      rcases List.mem_append.mp hp with z | z
      · exact bOk_up h2 (bitsB_up n i) p z
      · rw [List.mem_singleton.mp z]
        exact ⟨by omega, q1, hb2⟩
    · exact ⟨by omega, bOk_up h2 (bitsB_up n i)⟩
def spBas (K : PySem.W.Frag) : Sp := fun vs H Q _ => ∃ v rows m L, vs = [v, .int ((m : Nat) : Int)] ∧ Hid L H ∧ Dp K (W L H) v (.list ((rows : List (List Int)).map rD)) ∧ m ≤ 1000 ∧ rows.length ≤ 3 ∧ (∀ r ∈ rows, r.length = m) ∧ (∀ r ∈ rows, Bits 60 r) ∧
  ∀ t H', H t = none → Ex H H' → Gr K L H' t ((basP rows).map bD) → Q (.ref t) H'
def spSpan (K : PySem.W.Frag) : Sp := fun vs H Q _ => ∃ v w row rows L, vs = [v, w] ∧ Hid L H ∧ Dp K (W L H) v (rD row) ∧ Dp K (W L H) w (.list ((rows : List (List Int)).map rD)) ∧ row.length ≤ 1000 ∧ rows.length ≤ 3 ∧ (∀ r ∈ rows, r.length = row.length) ∧ (∀ r ∈ rows, Bits 60 r) ∧ Bits 60 row ∧
  ∀ H', Ex H H' → Q (.bl (leadF (redP row (basP rows)) 0).isNone) H'
theorem bitsB_3 : bitsB 60 3 ≤ 1000 ∧ bitsB 60 2 ≤ 1000 ∧ bitsB 60 1 ≤ 1000 ∧ bitsB 60 0 ≤ 1000 := by decide
theorem bitsB_small {i : Nat} (h : i ≤ 3) : bitsB 60 i ≤ 1000 := match i, h with
  | 0, _ => bitsB_3.2.2.2
  | 1, _ => bitsB_3.2.2.1
  | 2, _ => bitsB_3.2.1
  | 3, _ => bitsB_3.1
theorem leadCut {L : List Addr} {σ : L2.St} {H : Hp} {te tw : TE} {t : Addr} {m : Nat} {r : List Int} (h : Evl.Ev te σ H (.ref t)) (hw : Evl.Ev tw σ H (.int ((m : Nat) : Int))) (g : Gr K L H t (r.map .int)) (hm : r.length = m) (hz : m ≤ 1000) :
    Evl.Ev (tCallD (spLead K) (tCons (tSl (rSlL K) te tNoPart (tPart tw)) tNil)) σ H (leadV r) := by
  obtain ⟨nt, xs, hx, hxa⟩ := id g
  have ex2 := dpi_inv hxa
  subst ex2
  have q := Evl.el_sl (K := K) h Evl.eo_none (Evl.eo_some hw) (SqL.of hx)
  rw [cut_all (by rw [List.length_map, hm])] at q
  exact ev_leadL q (by omega)
theorem ok_basis {f : Addr} {fd : FuncData} (F : Fun K "basis_of" "basis_of" s_basis_of f fd) (T : TxP mg) (D_lead_of : DefAt P w K mg base "lead_of" 1 ["row"] (spLead K)) (D_reduced : DefAt P w K mg base "reduced" 1 ["row", "basis"] (spRed K)) : FnOk P w K mg base CX0 2 f fd ["rows", "width"] (spBas K) := by
  refine F.ok sc_basis_of (fun vs H Q E h => ?_) (fun cdv A outer s H vs Q E hr h => ?_)
  · obtain ⟨_, _, _, _, rfl, _⟩ := h
    rfl
  · obtain ⟨v, rows, m, L, rfl, hL, hd, hm, h3, hl, hb, k⟩ := h
    refine ⟨_, (pss_cons (ps_set (i := 2) sc_basis_of.nd rfl (by first | exact Or.inl rfl | exact Or.inr rfl) (pe_lst pa_nil))
    (pss_cons (ps_for PassesOwn.never rfl (pi_list (pv 0)) (pg_name (i := 3) sc_basis_of.nd rfl (by first | exact Or.inl rfl | exact Or.inr rfl))
      (pss_cons (ps_set (i := 4) sc_basis_of.nd rfl (by first | exact Or.inl rfl | exact Or.inr rfl) (pe_callD D_reduced (by first | exact hr | exact hr.mono (by decide) | exact hr.mono (by omega)) (by rfl) (pa_cons (pv 3) (pa_cons (pv 2) pa_nil))))
      (pss_cons (ps_set (i := 5) sc_basis_of.nd rfl (by first | exact Or.inl rfl | exact Or.inr rfl) (pe_callD D_lead_of (by first | exact hr | exact hr.mono (by decide) | exact hr.mono (by omega)) (by rfl) (pa_cons (pe_slice sl_list (pv 4) po_none (po_some (pv 1))) pa_nil)))
      (pss_one (ps_if (pt_cmp (pc_notN (pv 5)) rfl) (pss_one (ps_expr (pe_bm PySem.F.plainAttrs_list PySem.F.slot_list_append PySem.F.type_list_append mt_append (pv 2) (pa_cons (pe_tup (pa_cons (pv 5) (pa_cons (pv 4) pa_nil))) pa_nil)))) pss_nil)))))
    (pss_one (ps_ret (pv 2))))), ?_⟩
    cases hd with
    | @lst a ys _ hs ha =>
      have hly := dpa_len ha
      rw [List.length_map] at hly
      have hs' := Evl.ex_l (w_sub (L := L)) hs
      refine qd_lst (K := K) (L := L) (ds := []) hL evds_nil (by decide) fun b H1 hb0 e1 g1 => ?_
      let Pv : Nat → L2.St → Hp → Prop := fun i σ' H' => Ex H H' ∧ Gr K L H' b ((basP (rows.take i)).map bD) ∧ ∃ s2 s3 s4, σ' = [some (.ref a), some (.int ((m : Nat) : Int)), some (.ref b), s2, s3, s4]
      refine ⟨_, rfl, a, rfl, ⟨ys, Evl.ex_l e1 hs'⟩, for_it (walk_list (xs := ys)) Pv ⟨e1, g1, none, none, none, rfl⟩ (fun i σ' H' _ pv => Evl.ex_l pv.1 hs') (fun i y σ' H2 H3 hi pv yp => ?_) (fun σ' H2 pv => ?_)⟩
      · obtain ⟨e2, g2, s2, s3, s4, rfl⟩ := pv
        obtain ⟨rfl, hy⟩ := yp
        have hi' : i < rows.length := by omega
        obtain ⟨d, hd1, hd2⟩ := dpa_get ha hy
        rw [List.getElem?_map, List.getElem?_eq_getElem hi'] at hd1
        have ed : d = rD rows[i] := (Option.some.inj hd1).symm
        subst ed
        have hmem : rows[i] ∈ rows := List.getElem_mem hi'
        obtain ⟨o1, o2⟩ := bas_ok hl hb i (by omega)
        have hstep := bas_take hi'
        have hlen := hl _ hmem
        refine ⟨_, rfl, _, rfl, y, .ref b, rows[i], basP (rows.take i), bitsB 60 i, L, rfl, hid_ex e2 hL, hd2.up (w_ex e2), g2.dp, by omega, by omega, bitsB_small (by omega), bits_up (hb _ hmem) (bitsB_le 60 i), by rw [hlen]; exact o2, fun t H4 ht e4 g4 => ?_⟩
        obtain ⟨q1, q2⟩ := redP_ok hlen (bits_up (hb _ hmem) (bitsB_le 60 i)) o2 _ (Nat.le_refl _)
        rw [List.take_length] at q1 q2
        refine Evl.q_asg (v := leadV (redP rows[i] (basP (rows.take i)))) (leadCut (K := K) (m := m) (Evl.ev_var (v := .ref t) rfl) (Evl.ev_var (v := .int ((m : Nat) : Int)) rfl) g4 (by omega) (by omega)) fun H5 e5 => ?_
        have e25 := (e2.trans e4).trans e5
        have tb : t ≠ b := fun e => g2.ne (by rw [← e]; exact ht)
        unfold basStep at hstep
        cases hq : leadF (redP rows[i] (basP (rows.take i))) 0 with
        | none =>
          rw [hq] at hstep
          have ev : leadV (redP rows[i] (basP (rows.take i))) = .non := by
            unfold leadV
            rw [hq]
          rw [ev]
          refine Evl.s_when (b := false) (Evl.et_is (Evl.et_B (ev_notN (Evl.ev_var (v := .non) rfl))) rfl) (fun z => nomatch z) (fun _ H7 e7 => ?_)
          refine ⟨e25.trans e7, ?_, _, _, _, rfl⟩
          rw [hstep]
          exact ((g2.up e4).up e5).up e7
        | some l =>
          rw [hq] at hstep
          have ev : leadV (redP rows[i] (basP (rows.take i))) = .int (l : Int) := by
            unfold leadV
            rw [hq]
          rw [ev]
          refine Evl.s_when (b := true) (Evl.et_is (Evl.et_B (ev_notN (Evl.ev_var (v := .int (l : Int)) rfl))) rfl) (fun _ H7 e7 => ?_) (fun z => nomatch z)
          have g7 := ((g2.up e4).up e5).up e7
          have hLb : Hid (b :: L) H7 := fun c hc => (List.mem_cons.mp hc).elim (fun z => by rw [z]; exact g7.ne) fun z => hid_ex (e25.trans e7) hL c z
          have ht7 : Dp K (W (b :: L) H7) (.ref t) (rD (redP rows[i] (basP (rows.take i)))) := by
            obtain ⟨_, xs, hx, hxa⟩ := (g4.up e5).up e7
            have ex := dpi_inv hxa
            subst ex
            refine .lst (SqL.of (w_of (fun hm => ?_) hx)) (dpi_of _)
            rcases List.mem_cons.mp hm with z | z
            · exact tb z
            · exact (hid_ex e2 hL) t z ht
          refine d_app (K := K) (L := L) (d := bD (l, redP rows[i] (basP (rows.take i)))) g7 (Evl.ev_var rfl) (evd_tup hLb (evds_cons (evd_evI (Evl.ev_var rfl)) (evds_cons (evd_var rfl ht7) evds_nil)) (by show 2 ≤ 100000; omega)) (by rw [List.length_map]; omega) fun o H8 e8 g8 => ?_
          refine ⟨Evl.Ex.mut ((e25.trans e7).trans e8) hb0, ?_, _, _, _, rfl⟩
          rw [hstep, List.map_append]
          exact g8
      · obtain ⟨e2, g2, s2, s3, s4, rfl⟩ := pv
        rw [hly, List.take_length] at g2
        exact Evl.s_ret (Evl.ev_var rfl) fun H3 e3 => k b H3 hb0 (e2.trans e3) (g2.up e3)
theorem lenD {L : List Addr} {σ : L2.St} {H : Hp} {te : TE} {v : V} {r : List Int} {Q : VK} (h : Evl.Ev te σ H v) (hd : Dp K (W L H) v (rD r)) (k : ∀ H1, Ex H H1 → Q (.int ((r.length : Nat) : Int)) H1) :
    tCB (fun xs H Q => ∃ p ys, xs = [.ref p] ∧ (SqL K H p ys ∨ SqT K H p ys) ∧ Q (.int ys.length) H) (tCons te tNil) σ H Q := by
  have q : ∀ p ys, v = .ref p → SqL K (W L H) p ys → DpAll K (W L H) ys (r.map .int) → _ := fun p ys e hs ha => (by
    subst e
    have l := dpa_len ha
    rw [List.length_map] at l
    have z := (ev_lenS h (.inl (Evl.ex_l (w_sub (L := L)) hs))) H (Ex.refl H) Q (fun H1 e1 => by rw [l]; exact k H1 e1)
    exact z : tCB (fun xs H Q => ∃ p ys, xs = [.ref p] ∧ (SqL K H p ys ∨ SqT K H p ys) ∧ Q (.int ys.length) H) (tCons te tNil) σ H Q)
  cases hd with
  | lst hs ha => exact q _ _ rfl hs ha
theorem ok_spanned {f : Addr} {fd : FuncData} (F : Fun K "is_spanned" "is_spanned" s_is_spanned f fd) (T : TxP mg) (D_lead_of : DefAt P w K mg base "lead_of" 1 ["row"] (spLead K)) (D_reduced : DefAt P w K mg base "reduced" 1 ["row", "basis"] (spRed K)) (D_basis_of : DefAt P w K mg base "basis_of" 2 ["rows", "width"] (spBas K)) : FnOk P w K mg base CX0 3 f fd ["row", "rows"] (spSpan K) := by
  refine F.ok sc_is_spanned (fun vs H Q E h => ?_) (fun cdv A outer s H vs Q E hr h => ?_)
  · obtain ⟨_, _, _, _, _, rfl, _⟩ := h
    rfl
  · obtain ⟨v, w, row, rows, L, rfl, hL, hd, hdr, hm, h3, hl, hb, hbr, k⟩ := h
    refine ⟨_, (pss_one (ps_ret (pe_cmp (pc_isN (pe_callD D_lead_of (by first | exact hr | exact hr.mono (by decide) | exact hr.mono (by omega)) (by rfl) (pa_cons (pe_callD D_reduced (by first | exact hr | exact hr.mono (by decide) | exact hr.mono (by omega)) (by rfl) (pa_cons (pv 0) (pa_cons (pe_callD D_basis_of (by first | exact hr | exact hr.mono (by decide) | exact hr.mono (by omega)) (by rfl) (pa_cons (pv 1) (pa_cons (pe_callB call_len_seq (by rfl) T.m_len (by decide +kernel) (pa_cons (pv 0) pa_nil)) pa_nil))) pa_nil))) pa_nil))) rfl))), ?_⟩
    obtain ⟨o1, o2⟩ := bas_ok hl hb rows.length (Nat.le_refl _)
    rw [List.take_length] at o1 o2
    refine ⟨_, rfl, _, rfl, ?_⟩
    refine lenD (K := K) (L := L) (Evl.ev_var (v := v) rfl) hd fun H0 e0 => ?_
    replace hdr := hdr.up (w_ex e0)
    replace hL := hid_ex e0 hL
    replace hd := hd.up (w_ex e0)
    replace k := fun H' e => k H' (e0.trans e)
    refine ⟨w, rows, row.length, L, rfl, hL, hdr, hm, h3, hl, hb, fun t H1 ht e1 g1 => ?_⟩
    refine ⟨v, .ref t, row, basP rows, bitsB 60 rows.length, L, rfl, hid_ex e1 hL, hd.up (w_ex e1), g1.dp, hm, by omega, bitsB_small h3, bits_up hbr (bitsB_le 60 _), o2, fun u H2 hu e2 g2 => ?_⟩
    obtain ⟨q1, q2⟩ := redP_ok rfl (bits_up hbr (bitsB_le 60 _)) o2 _ (Nat.le_refl _)
    rw [List.take_length] at q1 q2
    refine ⟨.ref u, redP row (basP rows), rfl, g2.dp.up w_sub, by omega, fun H3 e3 => ?_⟩
    have ev : decide (leadV (redP row (basP rows)) = .non) = (leadF (redP row (basP rows)) 0).isNone := by
      unfold leadV
      cases leadF (redP row (basP rows)) 0 with
      | none => rfl
      | some l => rfl
    have q := k H3 ((e1.trans e2).trans e3)
    rw [← ev] at q
    exact q
end
end U

set_option Elab.async false
set_option linter.all false
set_option maxRecDepth 100000
set_option maxHeartbeats 4000000
namespace U
open UM
/-- the first m entries -/
def vec (m : Nat) (r : List Int) : Vec := fun k => if k < m then r.getD k 0 else 0
def toV (m : Nat) (p : Nat × List Int) : Nat × Vec := (p.1, vec m p.2)
theorem zw_get {f : Int → Int → Int} {r h : List Int} {k : Nat} (h1 : k < r.length) (h2 : k < h.length) : (List.zipWith f r h).getD k 0 = f (r.getD k 0) (h.getD k 0) := by
  have hz : k < (List.zipWith f r h).length := by rw [List.length_zipWith]; omega
  rw [List.getD_eq_getElem?_getD, List.getD_eq_getElem?_getD, List.getD_eq_getElem?_getD, List.getElem?_eq_getElem hz, List.getElem?_eq_getElem h1, List.getElem?_eq_getElem h2]
  simp
theorem vec_zw {m : Nat} {f : Int → Int → Int} {r h : List Int} (h1 : m ≤ r.length) (h2 : m ≤ h.length) (f0 : f 0 0 = 0) : ∀ k, vec m (List.zipWith f r h) k = f (vec m r k) (vec m h k) := fun k => by
  unfold vec
  by_cases hk : k < m
  · rw [if_pos hk, if_pos hk, if_pos hk, zw_get (by omega) (by omega)]
  · rw [if_neg hk, if_neg hk, if_neg hk, f0]
theorem vec_at {m : Nat} {r : List Int} {k : Nat} (h : k < m) : vec m r k = r.getD k 0 := if_pos h
theorem red_step {m : Nat} {r : List Int} {p : Nat × List Int} {B : List (Nat × Vec)} {x : Vec} (hp : p.1 < m) (h1 : m ≤ r.length) (h2 : m ≤ p.2.length) (h : Red (vec m (stepP r p)) B x) : Red (vec m r) (toV m p :: B) x := by
  unfold stepP at h
  split at h
  · rename_i z
    exact .skip (by rw [vec_at hp]; exact z) h
  · refine .go ?_
    have e : lc2 (vec m p.2 p.1) (vec m r) (vec m r p.1) (vec m p.2) = vec m (List.zipWith (fun x y => p.2.getD p.1 0 * x - r.getD p.1 0 * y) r p.2) := by
      funext k
      rw [vec_zw h1 h2 (by simp), vec_at hp, vec_at hp]
      rfl
    show Red (lc2 (vec m p.2 p.1) (vec m r) (vec m r p.1) (vec m p.2)) B x
    rw [e]
    exact h
theorem redP_red {m : Nat} : ∀ {B : List (Nat × List Int)} {r : List Int}, r.length = m → (∀ p ∈ B, p.1 < m ∧ p.2.length = m) → Red (vec m r) (B.map (toV m)) (vec m (redP r B))
  | [], r, _, _ => .nil
  | p :: B, r, hr, hB => by
    obtain ⟨q1, q2⟩ := hB p (List.mem_cons_self ..)
    exact red_step q1 (by omega) (by omega) (redP_red (by rw [stepP_len (by omega)]; exact hr) fun q hq => hB q (List.mem_cons_of_mem _ hq))
theorem redP_len {m : Nat} : ∀ {B : List (Nat × List Int)} {r : List Int}, r.length = m → (∀ p ∈ B, p.1 < m ∧ p.2.length = m) → (redP r B).length = m
  | [], r, hr, _ => hr
  | p :: B, r, hr, hB => by
    obtain ⟨q1, q2⟩ := hB p (List.mem_cons_self ..)
    exact redP_len (B := B) (by rw [stepP_len (by omega)]; exact hr) fun q hq => hB q (List.mem_cons_of_mem _ hq)
theorem zero_iff {m : Nat} {r : List Int} (h : r.length = m) : (leadF r 0).isNone = true ↔ ∀ k, vec m r k = 0 := by
  constructor
  · intro q k
    have hn : leadF r 0 = none := Option.isNone_iff_eq_none.mp q
    unfold vec
    by_cases hk : k < m
    · rw [if_pos hk, List.getD_eq_getElem?_getD, List.getElem?_eq_getElem (by omega)]
      exact leadF_none hn _ (List.getElem_mem (by omega))
    · rw [if_neg hk]
  · intro q
    cases e : leadF r 0 with
    | none => rfl
    | some l =>
      obtain ⟨_, h2, h3⟩ := leadF_lt e
      have := q l
      rw [vec_at (by omega)] at this
      rw [Nat.sub_zero] at h3
      exact absurd this h3
theorem bas_fold {m : Nat} : ∀ {rows : List (List Int)} {B : List (Nat × List Int)} {R : Vec → Prop}, (∀ r ∈ rows, r.length = m) → (∀ p ∈ B, p.1 < m ∧ p.2.length = m) → Bas (B.map (toV m)) R →
    Bas ((rows.foldl basStep B).map (toV m)) (fun v => R v ∨ ∃ r ∈ rows, v = vec m r) ∧ ∀ p ∈ rows.foldl basStep B, p.1 < m ∧ p.2.length = m
  | [], B, R, _, hB, b => ⟨⟨b.ech, fun v hv => (b.to v hv).mono fun _ => .inl, fun v hv => by
      rcases hv with hv | ⟨_, h, _⟩
      · exact b.of v hv
      · cases h⟩, hB⟩
  | r :: rows, B, R, hl, hB, b => by
    have hr := hl r (List.mem_cons_self ..)
    have red := redP_red hr hB
    have rl := redP_len hr hB
    have out : ∀ {B' : List (Nat × List Int)}, (∀ p ∈ B', p.1 < m ∧ p.2.length = m) → Bas (B'.map (toV m)) (fun v => R v ∨ v = vec m r) →
        Bas ((rows.foldl basStep B').map (toV m)) (fun v => R v ∨ ∃ q ∈ r :: rows, v = vec m q) ∧ ∀ p ∈ rows.foldl basStep B', p.1 < m ∧ p.2.length = m := fun hB' b' => by
      obtain ⟨c1, c2⟩ := bas_fold (fun q hq => hl q (List.mem_cons_of_mem _ hq)) hB' b'
      refine ⟨⟨c1.ech, fun v hv => (c1.to v hv).mono fun x hx => ?_, fun v hv => c1.of v ?_⟩, c2⟩
      · rcases hx with (hx | hx) | ⟨q, hq, e⟩
        · exact .inl hx
        · exact .inr ⟨r, List.mem_cons_self .., hx⟩
        · exact .inr ⟨q, List.mem_cons_of_mem _ hq, e⟩
      · rcases hv with hv | ⟨q, hq, e⟩
        · exact .inl (.inl hv)
        · rcases List.mem_cons.mp hq with z | z
          · exact .inl (.inr (by rw [e, z]))
          · exact .inr ⟨q, z, e⟩
    show Bas ((rows.foldl basStep (basStep B r)).map (toV m)) _ ∧ ∀ p ∈ rows.foldl basStep (basStep B r), p.1 < m ∧ p.2.length = m
    unfold basStep
    cases e : leadF (redP r B) 0 with
    | none => exact out hB (b.skip red ((zero_iff rl).mp (by rw [e]; rfl)))
    | some l =>
      obtain ⟨_, l2, l3⟩ := leadF_lt e
      rw [Nat.sub_zero] at l3
      refine out (fun p hp => ?_) ?_
      · rcases List.mem_append.mp hp with z | z
        · exact hB p z
        · rw [List.mem_singleton.mp z]
          exact ⟨by omega, rl⟩
      · rw [List.map_append]
        exact b.push red (by rw [vec_at (by omega)]; exact l3)
/-- the program's answer: spanned -/
theorem spanned_iff {m : Nat} {row : List Int} {rows : List (List Int)} (hr : row.length = m) (hl : ∀ r ∈ rows, r.length = m) : (leadF (redP row (basP rows)) 0).isNone = true ↔ QS (fun v => ∃ r ∈ rows, v = vec m r) (vec m row) := by
  obtain ⟨b, hB⟩ := bas_fold (rows := rows) (B := []) hl (fun p hp => (nomatch hp)) Bas.nil
  refine (zero_iff (redP_len hr hB)).trans ?_
  refine (b.iff (redP_red hr hB)).trans ⟨fun q => q.mono fun v hv => hv.elim (fun z => z.elim) id, fun q => q.mono fun v hv => .inr hv⟩
/-! ### the law's own way -/
def stepL (r : List Int) (p : Nat × List Int) : List Int := List.zipWith (fun x y => x * p.2.getD p.1 0 - r.getD p.1 0 * y) r p.2
def redL (r : List Int) (B : List (Nat × List Int)) : List Int := B.foldl stepL r
def relStep (m : Nat) (s : List (Nat × List Int) × List (List Int)) (row : List Int) : List (Nat × List Int) × List (List Int) := match leadF ((redL row s.1).take m) 0 with
  | none => (s.1, s.2 ++ [(redL row s.1).drop m])
  | some l => (s.1 ++ [(l, redL row s.1)], s.2)
theorem stepL_len {r : List Int} {p : Nat × List Int} (h : p.2.length = r.length) : (stepL r p).length = r.length := by
  unfold stepL
  rw [List.length_zipWith, h, Nat.min_self]
theorem redL_len {n : Nat} : ∀ {B : List (Nat × List Int)} {r : List Int}, r.length = n → (∀ p ∈ B, p.2.length = n) → (redL r B).length = n
  | [], r, hr, _ => hr
  | p :: B, r, hr, hB => by
    have q := hB p (List.mem_cons_self ..)
    exact redL_len (B := B) (by rw [stepL_len (by omega)]; exact hr) fun q hq => hB q (List.mem_cons_of_mem _ hq)
theorem redL_red {m n : Nat} (hmn : m ≤ n) : ∀ {B : List (Nat × List Int)} {r : List Int}, r.length = n → (∀ p ∈ B, p.1 < m ∧ p.2.length = n) → Red (vec m r) (B.map (toV m)) (vec m (redL r B))
  | [], r, _, _ => .nil
  | p :: B, r, hr, hB => by
    obtain ⟨q1, q2⟩ := hB p (List.mem_cons_self ..)
    have ih := redL_red hmn (B := B) (r := stepL r p) (by rw [stepL_len (by omega)]; exact hr) fun q hq => hB q (List.mem_cons_of_mem _ hq)
    refine .go ?_
    have e : lc2 (vec m p.2 p.1) (vec m r) (vec m r p.1) (vec m p.2) = vec m (stepL r p) := by
      funext k
      unfold stepL
      rw [vec_zw (by omega) (by omega) (by simp), vec_at q1, vec_at q1]
      show p.2.getD p.1 0 * vec m r k - r.getD p.1 0 * vec m p.2 k = vec m r k * p.2.getD p.1 0 - r.getD p.1 0 * vec m p.2 k
      rw [Int.mul_comm (vec m r k)]
    show Red (lc2 (vec m p.2 p.1) (vec m r) (vec m r p.1) (vec m p.2)) _ _
    rw [e]
    exact ih
theorem vec_take {m : Nat} {r : List Int} : vec m (r.take m) = vec m r := by
  funext k
  unfold vec
  by_cases hk : k < m
  · rw [if_pos hk, if_pos hk, List.getD_eq_getElem?_getD, List.getD_eq_getElem?_getD, List.getElem?_take, if_pos hk]
  · rw [if_neg hk, if_neg hk]
open Classical in
/-- how many of them hang on those before -/
noncomputable def cntQ (R : Vec → Prop) : List Vec → Nat
  | [] => 0
  | v :: vs => (if QS R v then 1 else 0) + cntQ (fun x => R x ∨ x = v) vs
theorem qs_congr {V W : Vec → Prop} {x : Vec} (h : ∀ v, V v ↔ W v) : QS V x ↔ QS W x := ⟨fun q => q.mono fun v => (h v).mp, fun q => q.mono fun v => (h v).mpr⟩
open Classical in
theorem cntQ_app {v : Vec} : ∀ {vs : List Vec} {R : Vec → Prop}, cntQ R (vs ++ [v]) = cntQ R vs + (if QS (fun x => R x ∨ x ∈ vs) v then 1 else 0)
  | [], R => by
    show (if QS R v then 1 else 0) + 0 = 0 + _
    have e : QS R v ↔ QS (fun x => R x ∨ x ∈ ([] : List Vec)) v := qs_congr fun x => ⟨.inl, fun h => h.elim id fun z => (nomatch z)⟩
    by_cases h : QS R v
    · rw [if_pos h, if_pos (e.mp h)]
    · rw [if_neg h, if_neg fun z => h (e.mpr z)]
  | u :: vs, R => by
    show (if QS R u then 1 else 0) + cntQ (fun x => R x ∨ x = u) (vs ++ [v]) = (if QS R u then 1 else 0) + cntQ (fun x => R x ∨ x = u) vs + _
    rw [cntQ_app]
    have e : QS (fun x => (R x ∨ x = u) ∨ x ∈ vs) v ↔ QS (fun x => R x ∨ x ∈ u :: vs) v := qs_congr fun x => by
      rw [List.mem_cons]
      exact or_assoc
    by_cases h : QS (fun x => (R x ∨ x = u) ∨ x ∈ vs) v
    · rw [if_pos h, if_pos (e.mp h)]
      omega
    · rw [if_neg h, if_neg fun z => h (e.mpr z)]
      omega
open Classical in
theorem rel_count {m n : Nat} (hmn : m ≤ n) : ∀ {rows : List (List Int)} {B : List (Nat × List Int)} {fo : List (List Int)} {R : Vec → Prop}, (∀ r ∈ rows, r.length = n) → (∀ p ∈ B, p.1 < m ∧ p.2.length = n) → Bas (B.map (toV m)) R →
    (rows.foldl (relStep m) (B, fo)).2.length = fo.length + cntQ R (rows.map (vec m))
  | [], B, fo, R, _, _, _ => rfl
  | r :: rows, B, fo, R, hl, hB, b => by
    have hr := hl r (List.mem_cons_self ..)
    have red := redL_red hmn hr hB
    have rl := redL_len hr fun p hp => (hB p hp).2
    have tl : ((redL r B).take m).length = m := by rw [List.length_take]; omega
    have zi := zero_iff tl
    rw [vec_take] at zi
    have hl' : ∀ q ∈ rows, q.length = n := fun q hq => hl q (List.mem_cons_of_mem _ hq)
    show (rows.foldl (relStep m) (relStep m (B, fo) r)).2.length = fo.length + ((if QS R (vec m r) then 1 else 0) + cntQ (fun x => R x ∨ x = vec m r) (rows.map (vec m)))
    unfold relStep
    show (rows.foldl (relStep m) (match leadF ((redL r B).take m) 0 with | none => (B, fo ++ [(redL r B).drop m]) | some l => (B ++ [(l, redL r B)], fo))).2.length = _
    cases e : leadF ((redL r B).take m) 0 with
    | none =>
      have z := zi.mp (by rw [e]; rfl)
      rw [if_pos ((b.iff red).mp z), rel_count hmn hl' hB (b.skip red z), List.length_append]
      simp
      omega
    | some l =>
      obtain ⟨_, l2, l3⟩ := leadF_lt e
      rw [Nat.sub_zero] at l3
      have lm : l < m := by omega
      have nz : vec m (redL r B) l ≠ 0 := by
        rw [← vec_take, vec_at lm]
        exact l3
      rw [if_neg fun q => nz ((b.iff red).mpr q l)]
      rw [rel_count hmn hl' (fun p hp => ?_) (R := fun x => R x ∨ x = vec m r) (by rw [List.map_append]; exact b.push red nz)]
      · omega
      · rcases List.mem_append.mp hp with z | z
        · exact hB p z
        · rw [List.mem_singleton.mp z]
          exact ⟨lm, rl⟩
/-- how many relations the law finds: the heads that it begins with are none -/
def relN (m : Nat) (rows : List (List Int)) : Nat := (rows.foldl (relStep m) ([], [])).2.length
theorem relN_is {m n : Nat} (hmn : m ≤ n) {rows : List (List Int)} (hl : ∀ r ∈ rows, r.length = n) : relN m rows = cntQ (fun _ => False) (rows.map (vec m)) := by
  have q := rel_count hmn (B := []) (fo := []) (R := fun _ => False) hl (fun p hp => (nomatch hp)) Bas.nil
  rw [List.length_nil, Nat.zero_add] at q
  exact q
/-- the points' rows, the 1 ahead and the 1 behind -/
def rowP (x : List Int) : List Int := 1 :: x
def rowL (n : Nat) (i : Nat) (x : List Int) : List Int := x ++ [1] ++ (List.range n).map fun k => if k = i then 1 else 0
def rowsL (n : Nat) : List (List Int) → Nat → List (List Int)
  | [], _ => []
  | x :: ps, i => rowL n i x :: rowsL n ps (i + 1)
theorem rowsL_len {n d : Nat} : ∀ {ps : List (List Int)} {i : Nat}, (∀ x ∈ ps, x.length = d) → ∀ r ∈ rowsL n ps i, r.length = d + 1 + n
  | [], _, _, r, hr => by cases hr
  | x :: ps, i, h, r, hr => by
    rcases List.mem_cons.mp hr with z | z
    · rw [z]
      unfold rowL
      rw [List.length_append, List.length_append, h x (List.mem_cons_self ..)]
      simp
    · exact rowsL_len (fun y hy => h y (List.mem_cons_of_mem _ hy)) r z
/-- the 1 behind -/
def vL (d : Nat) (x : List Int) : Vec := vec (d + 1) (x ++ [1])
theorem rowL_vec {n d i : Nat} {x : List Int} (h : x.length = d) : vec (d + 1) (rowL n i x) = vL d x := by
  funext k
  unfold vL vec rowL
  by_cases hk : k < d + 1
  · rw [if_pos hk, if_pos hk, List.getD_eq_getElem?_getD, List.getD_eq_getElem?_getD, List.getElem?_append_left (by rw [List.length_append, h]; simpa using hk)]
  · rw [if_neg hk, if_neg hk]
theorem rowsL_vec {n d : Nat} : ∀ {ps : List (List Int)} {i : Nat}, (∀ x ∈ ps, x.length = d) → (rowsL n ps i).map (vec (d + 1)) = ps.map (vL d)
  | [], _, _ => rfl
  | x :: ps, i, h => by
    show vec (d + 1) (rowL n i x) :: (rowsL n ps (i + 1)).map (vec (d + 1)) = vL d x :: ps.map (vL d)
    rw [rowL_vec (h x (List.mem_cons_self ..)), rowsL_vec fun y hy => h y (List.mem_cons_of_mem _ hy)]
/-- from the one order of columns to the other -/
def colL (d k : Nat) : Nat := if k < d then k + 1 else if k = d then 0 else k
def colP (d k : Nat) : Nat := if k = 0 then d else if k ≤ d then k - 1 else k
theorem vL_col {d : Nat} {x : List Int} (h : x.length = d) : vL d x = fun k => vec (d + 1) (rowP x) (colL d k) := by
  funext k
  unfold vL vec colL rowP
  by_cases h1 : k < d
  · rw [if_pos h1, if_pos (by omega), if_pos (by omega), List.getD_cons_succ, List.getD_eq_getElem?_getD, List.getD_eq_getElem?_getD, List.getElem?_append_left (by omega)]
  · rw [if_neg h1]
    by_cases h2 : k = d
    · rw [if_pos h2, if_pos (by omega), if_pos (by omega), List.getD_cons_zero, List.getD_eq_getElem?_getD, List.getElem?_append_right (by omega)]
      have e : k - x.length = 0 := by omega
      rw [e]
      rfl
    · rw [if_neg h2, if_neg (by omega), if_neg (by omega)]
theorem vP_col {d : Nat} {x : List Int} (h : x.length = d) : vec (d + 1) (rowP x) = fun k => vL d x (colP d k) := by
  funext k
  rw [vL_col h]
  show _ = vec (d + 1) (rowP x) (colL d (colP d k))
  unfold colL colP
  by_cases h1 : k = 0
  · rw [if_pos h1, if_neg (by omega), if_pos rfl, h1]
  · rw [if_neg h1]
    by_cases h2 : k ≤ d
    · rw [if_pos h2, if_pos (by omega)]
      have e : k - 1 + 1 = k := by omega
      rw [e]
    · rw [if_neg h2, if_neg (by omega), if_neg (by omega)]
open Classical in
/-- both ways say the same of a point and a flat -/
theorem flat_both {d : Nat} {ps : List (List Int)} {x : List Int} (hps : ∀ y ∈ ps, y.length = d) (hx : x.length = d) :
    (leadF (redP (rowP x) (basP (ps.map rowP))) 0).isNone = decide (relN (d + 1) (rowsL (ps.length + 1) (ps ++ [x]) 0) > relN (d + 1) (rowsL ps.length ps 0)) := by
  have hall : ∀ y ∈ ps ++ [x], y.length = d := fun y hy => (List.mem_append.mp hy).elim (hps y) fun z => by rw [List.mem_singleton.mp z]; exact hx
  rw [relN_is (n := d + 1 + (ps.length + 1)) (by omega) (rowsL_len hall), relN_is (n := d + 1 + ps.length) (by omega) (rowsL_len hps), rowsL_vec hall, rowsL_vec hps, List.map_append, List.map_singleton, cntQ_app]
  have key : ((leadF (redP (rowP x) (basP (ps.map rowP))) 0).isNone = true) ↔ QS (fun v => False ∨ v ∈ ps.map (vL d)) (vL d x) := by
    refine (spanned_iff (m := d + 1) (show (rowP x).length = d + 1 by show x.length + 1 = d + 1; omega) fun r hr => ?_).trans ⟨fun q => ?_, fun q => ?_⟩
    · obtain ⟨y, hy, rfl⟩ := List.mem_map.mp hr
      show y.length + 1 = d + 1
      rw [hps y hy]
    · rw [vL_col hx]
      refine qs_perm (colL d) (fun v hv => ?_) q
      obtain ⟨r, hr, rfl⟩ := hv
      obtain ⟨y, hy, rfl⟩ := List.mem_map.mp hr
      exact .inr (List.mem_map.mpr ⟨y, hy, vL_col (hps y hy)⟩)
    · rw [vP_col hx]
      refine qs_perm (colP d) (fun v hv => ?_) q
      rcases hv with hv | hv
      · exact hv.elim
      · obtain ⟨y, hy, rfl⟩ := List.mem_map.mp hv
        exact ⟨rowP y, List.mem_map.mpr ⟨y, hy, rfl⟩, (vP_col (hps y hy)).symm⟩
  by_cases h : QS (fun v => False ∨ v ∈ ps.map (vL d)) (vL d x)
  · rw [if_pos h, key.mpr h]
    exact (decide_eq_true (by omega)).symm
  · rw [if_neg h]
    have hf : (leadF (redP (rowP x) (basP (ps.map rowP))) 0).isNone = false := by
      cases q : (leadF (redP (rowP x) (basP (ps.map rowP))) 0).isNone with
      | false => rfl
      | true => exact absurd (key.mp q) h
    rw [hf]
    exact (decide_eq_false (by omega)).symm
end U

set_option Elab.async false
set_option linter.all false
set_option maxRecDepth 100000
set_option maxHeartbeats 4000000
namespace U
open PySem L2
open Evl (Ex)
open StX (pa_star)
abbrev s_half_says : Stmt := top 6
abbrev sc_half_says_N : List Str := ["rule", "point", "_", "weights", "bound", "weight", "entry"]
theorem sc_half_says : FnScope sc_half_says_N ["rule", "point"] (defScope s_half_says) := ⟨rfl, rfl, rfl, by decide +kernel, rfl, by decide +kernel, by decide +kernel⟩
abbrev s_lies_between : Stmt := top 8
abbrev sc_lies_between_N : List Str := ["entry", "low", "high"]
theorem sc_lies_between : FnScope sc_lies_between_N ["entry", "low", "high"] (defScope s_lies_between) := ⟨rfl, rfl, rfl, by decide +kernel, rfl, by decide +kernel, by decide +kernel⟩
abbrev s_box_says : Stmt := top 7
abbrev sc_box_says_N : List Str := ["rule", "point", "_", "ranges", "entry", "low", "high"]
theorem sc_box_says : FnScope sc_box_says_N ["rule", "point"] (defScope s_box_says) := ⟨rfl, rfl, rfl, by decide +kernel, rfl, by decide +kernel, by decide +kernel⟩
abbrev s_lies_above : Stmt := top 10
abbrev sc_lies_above_N : List Str := ["point", "corner", "entry", "low"]
theorem sc_lies_above : FnScope sc_lies_above_N ["point", "corner"] (defScope s_lies_above) := ⟨rfl, rfl, rfl, by decide +kernel, rfl, by decide +kernel, by decide +kernel⟩
abbrev s_rise_says : Stmt := top 9
abbrev sc_rise_says_N : List Str := ["rule", "point", "_", "corners", "corner"]
theorem sc_rise_says : FnScope sc_rise_says_N ["rule", "point"] (defScope s_rise_says) := ⟨rfl, rfl, rfl, by decide +kernel, rfl, by decide +kernel, by decide +kernel⟩
abbrev s_flat_says : Stmt := top 11
abbrev sc_flat_says_N : List Str := ["rule", "point", "_", "points", "other"]
theorem sc_flat_says : FnScope sc_flat_says_N ["rule", "point"] (defScope s_flat_says) := ⟨rfl, rfl, rfl, by decide +kernel, rfl, by decide +kernel, by decide +kernel⟩
abbrev s_turns_says : Stmt := top 12
abbrev sc_turns_says_N : List Str := ["rule", "point", "_", "label", "changes", "change"]
theorem sc_turns_says : FnScope sc_turns_says_N ["rule", "point"] (defScope s_turns_says) := ⟨rfl, rfl, rfl, by decide +kernel, rfl, by decide +kernel, by decide +kernel⟩
/-- x[i] of a list or a tuple -/
def rIxA (K : PySem.W.Frag) : R2 := fun x y H Q => rIxL K x y H Q ∨ rIxT K x y H Q
theorem ix_seq {X : Cx} : IxR X (rIxA X.K) := IxR.or ix_list ix_tup
theorem ev_ixAR {K : PySem.W.Frag} {σ : L2.St} {H : Hp} {te : TE} {a : Addr} {xs : List V} {v : V} {i : Int} (h : Evl.Ev te σ H (.ref a)) (hx : SqL K H a xs ∨ SqT K H a xs) (hv : atI xs i = some v) : Evl.Ev (tOp (rIxA K) te (tC (.int i))) σ H v := fun H1 e Q q =>
  h H1 e _ fun H2 e2 => by
    show rIxA K (.ref a) (.int i) H2 Q
    rcases hx with hx | hx
    · exact .inl ⟨a, xs, i, v, rfl, rfl, Evl.ex_l (e.trans e2) hx, hv, q H2 e2⟩
    · exact .inr ⟨a, xs, i, v, rfl, rfl, Evl.ex_t (e.trans e2) hx, hv, q H2 e2⟩
/-! ### targets that take a tuple or a list -/
def gSq (K : PySem.W.Frag) (n : Nat) (t : TGs) : TG := fun v σ H Q => gTup K n t v σ H Q ∨ gLst K n t v σ H Q
theorem pg_sq {X : Cx} {pos : Pos} {es : List Expr} {k : Nat} {t : TGs} {n : Nat} (hc : X.calm = true) (h : PGs X es t)
    (hn : (assignEach es X.env).length = n := by rfl) (hst : (assignEach es X.env).findIdx? (·.1) = none := by rfl) : PG X (.Tuple es k pos) (gSq X.K n t) :=
  ⟨fun pins s σ H v u Q I r hw => hw.elim (fun z => (pg_tup hc h hn hst).run pins s σ H v u Q I r z) fun z => (pg_lst hc h hn hst).run pins s σ H v u Q I r z⟩
/-- a tuple (t) or a list -/
def sq (t : Bool) (ds : List PyData) : PyData := if t then .tuple ds else .list ds
def SqA (K : PySem.W.Frag) (H : Hp) (t : Bool) (a : Addr) (xs : List V) : Prop := if t then SqT K H a xs else SqL K H a xs
section
variable {K : PySem.W.Frag} {H H' : Hp} {t : Bool} {a : Addr} {xs : List V} {v : V} {ds : List PyData}
theorem SqA.or (h : SqA K H t a xs) : SqL K H a xs ∨ SqT K H a xs := by
  cases t with
  | true => exact .inr h
  | false => exact .inl h
theorem SqA.up (h : SqA K H t a xs) (e : Ex H H') : SqA K H' t a xs := by
  cases t with
  | true => exact Evl.ex_t e h
  | false => exact Evl.ex_l e h
theorem sq_inv (h : Dp K H v (sq t ds)) : ∃ a xs, v = .ref a ∧ SqA K H t a xs ∧ DpAll K H xs ds := by
  cases t with
  | true =>
    cases h with
    | @tup a xs _ hs ha => exact ⟨a, xs, rfl, hs, ha⟩
  | false =>
    cases h with
    | @lst a xs _ hs ha => exact ⟨a, xs, rfl, hs, ha⟩
theorem sqA_gsq {n : Nat} {tg : TGs} {σ : L2.St} {Q : L2.St → Hp → Prop} (h : SqA K H t a xs) (hn : xs.length = n) (q : tg xs σ H Q) : gSq K n tg (.ref a) σ H Q := by
  cases t with
  | true => exact .inl ⟨a, xs, rfl, h, hn, q⟩
  | false => exact .inr ⟨a, xs, rfl, h, hn, q⟩
theorem SqA.both {b : Addr} {ys : List V} (h : SqA K H t a xs) (h2 : SqA K H t b ys) : (SqL K H a xs ∧ SqL K H b ys) ∨ (SqT K H a xs ∧ SqT K H b ys) := by
  cases t with
  | true => exact .inr ⟨h, h2⟩
  | false => exact .inl ⟨h, h2⟩
end
def oD : Option Int → PyData
  | none => .none
  | some i => .int i
def oV : Option Int → V
  | none => .non
  | some i => .int i
theorem oD_inv {K : PySem.W.Frag} {H : Hp} {v : V} {o : Option Int} (h : Dp K H v (oD o)) : v = oV o := by
  cases o <;> (cases h; rfl)
/-- low is none or at most it | high is none or at least it -/
def geO (x : Int) : Option Int → Bool
  | none => true
  | some i => decide (x ≥ i)
def leO (x : Int) : Option Int → Bool
  | none => true
  | some i => decide (x ≤ i)
def smallE (x : List Int) : Prop := ∀ e ∈ x, -(2 ^ 64) < e ∧ e < 2 ^ 64
def dot (ws x : List Int) : Int := (List.zipWith (fun a b => a * b) ws x).sum
def spHalf (K : PySem.W.Frag) : Sp := fun vs H Q _ => ∃ v w t ws b x, vs = [v, w] ∧ Dp K H v (sq t [.str "half", sq t ((ws : List Int).map .int), .int b]) ∧ Dp K H w (sq t ((x : List Int).map .int)) ∧ ws.length = x.length ∧ x.length ≤ 100 ∧ smallE ws ∧ ∀ H', Ex H H' → Q (.bl (decide (dot ws x ≥ b))) H'
def spBetween : Sp := fun vs H Q _ => ∃ (x : Int) (lo hi : Option Int), vs = [.int x, oV lo, oV hi] ∧ ∀ H', Ex H H' → Q (.bl (geO x lo && leO x hi)) H'
def rgD (t : Bool) (p : Option Int × Option Int) : PyData := sq t [oD p.1, oD p.2]
def boxR (rs : List (Option Int × Option Int)) (x : List Int) : Bool := (List.zipWith (fun e (p : Option Int × Option Int) => geO e p.1 && leO e p.2) x rs).all id
def spBox (K : PySem.W.Frag) : Sp := fun vs H Q _ => ∃ v w t rs x, vs = [v, w] ∧ Dp K H v (sq t [.str "box", sq t ((rs : List (Option Int × Option Int)).map (rgD t))]) ∧ Dp K H w (sq t ((x : List Int).map .int)) ∧ rs.length = x.length ∧ x.length ≤ 100 ∧ ∀ H', Ex H H' → Q (.bl (boxR rs x)) H'
def aboveR (x : List Int) (c : List (Option Int)) : Bool := (List.zipWith geO x c).all id
def spAbove (K : PySem.W.Frag) : Sp := fun vs H Q _ => ∃ v w t x c, vs = [v, w] ∧ Dp K H v (sq t ((x : List Int).map .int)) ∧ Dp K H w (sq t ((c : List (Option Int)).map oD)) ∧ c.length = x.length ∧ x.length ≤ 100 ∧ ∀ H', Ex H H' → Q (.bl (aboveR x c)) H'
def spRise (K : PySem.W.Frag) : Sp := fun vs H Q _ => ∃ v w t cs x, vs = [v, w] ∧ Dp K H v (sq t [.str "rise", sq t ((cs : List (List (Option Int))).map fun c => sq t (c.map oD))]) ∧ Dp K H w (sq t ((x : List Int).map .int)) ∧ (∀ c ∈ cs, c.length = x.length) ∧ x.length ≤ 100 ∧ cs.length ≤ 1000 ∧ ∀ H', Ex H H' → Q (.bl (cs.any (aboveR x))) H'
def turnsR (f : Bool) (cs : List Int) (x0 : Int) : Bool := cs.foldl (fun l c => if c ≤ x0 then !l else l) f
def spTurns (K : PySem.W.Frag) : Sp := fun vs H Q _ => ∃ v w t f cs x0, vs = [v, w] ∧ Dp K H v (sq t [.str "turns", .bool f, sq t ((cs : List Int).map .int)]) ∧ Dp K H w (sq t [.int x0]) ∧ cs.length ≤ 1000 ∧ ∀ H', Ex H H' → Q (.bl (turnsR f cs x0)) H'
def flatR (ps : List (List Int)) (x : List Int) : Bool := (leadF (redP (rowP x) (basP (ps.map rowP))) 0).isNone
def spFlat (K : PySem.W.Frag) : Sp := fun vs H Q _ => ∃ v w t ps x, vs = [v, w] ∧ Dp K H v (sq t [.str "flat", sq t ((ps : List (List Int)).map fun y => sq t (y.map .int))]) ∧ Dp K H w (sq t ((x : List Int).map .int)) ∧ (∀ y ∈ ps, y.length = x.length) ∧ x.length ≤ 100 ∧ ps.length ≤ 3 ∧ (∀ y ∈ ps, Bits 60 y) ∧ Bits 60 x ∧ ∀ H', Ex H H' → Q (.bl (flatR ps x)) H'
structure TxR (mg : Str → Option Value) : Prop extends TxP mg where
  m_sum : mg "sum" = none
  m_any : mg "any" = none
section
variable {P : Program} {w : World} {K : PySem.W.Frag} {mg : Str → Option Value} {base : Heap}
theorem rng_zw {α β : Type} {f : α → β → V} {xs : List α} {ys : List β} (h : ys.length = xs.length) (g : Nat → V) (hg : ∀ i (h1 : i < xs.length) (h2 : i < ys.length), g i = f xs[i] ys[i]) : (List.range xs.length).map g = List.zipWith f xs ys := by
  apply List.ext_getElem
  · simp [h]
  · intro i h1 h2
    have hi : i < xs.length := by simpa using h1
    rw [List.getElem_map, List.getElem_range, List.getElem_zipWith]
    exact hg i hi (by omega)
theorem ev_sum {te : TE} {σ : L2.St} {H : Hp} {ns : List Int} (h : Evl.EvL te σ H (ns.map V.int)) : Evl.Ev (tCB (rSum K) (tCons te tNil)) σ H (.int ns.sum) := fun H1 e1 Q q =>
  h H1 e1 _ fun p H2 hp e2 h2 => ⟨p, ns, rfl, SqL.of h2, q H2 e2⟩
theorem el_star1 {te : TE} {σ : L2.St} {H : Hp} {a : Addr} {xs : List V} (h : Evl.Ev te σ H (.ref a)) (hx : SqL K H a xs ∨ SqT K H a xs) (hz : xs.length ≤ 1000) : Evl.EvL (tLst (tCons (tC (.int 1)) (StX.tStar K te tNil))) σ H (.int 1 :: xs) := fun H1 e1 Q q =>
  h H1 e1 _ fun H2 e2 => ⟨a, xs, rfl, hx.symm.imp (Evl.ex_t (e1.trans e2)) (Evl.ex_l (e1.trans e2)), by
    show (V.int 1 :: (xs ++ [])).length ≤ sizeLine ∧ ∀ p, H2 p = none → Q (.ref p) (upd H2 p (.lst (V.int 1 :: (xs ++ []))))
    rw [List.append_nil]
    exact ⟨Evl.sz_of (by rw [List.length_cons]; omega), fun p hp => q p _ (Evl.fresh_back e2 hp) (e2.trans (Ex.new hp)) upd_same⟩⟩
theorem ev_call2 {sp : Sp} {te1 te2 : TE} {L : List Addr} {σ : L2.St} {H : Hp} {xs : List V} {ds : List PyData} {z : V} (h1 : Evl.EvL te1 σ H xs) (h2 : EvG K L te2 σ H ds) (k : ∀ p1 p2 H2, Ex H H2 → H2 p1 = some (.lst xs) → Gr K L H2 p2 ds → ∀ Q : VK, (∀ H3, Ex H2 H3 → Q z H3) → sp [.ref p1, .ref p2] H2 Q E0) : Evl.Ev (tCallD sp (tCons te1 (tCons te2 tNil))) σ H z := fun H1 e Q q =>
  h1 H1 e _ fun p1 H2 hp1 e2 hx => h2 H2 (e.trans e2) _ fun p2 H3 hp2 e3 g => k p1 p2 H3 ((e.trans e2).trans e3) (e3 _ _ hx) g Q fun H4 e4 => q H4 ((e2.trans e3).trans e4)
theorem el_seqX {α : Type} {te tl : TE} {σ : L2.St} {H : Hp} {a : Addr} {xs : List V} {cs : List α} {D : α → PyData} {f : α → Bool} {j : Nat} {vs : List Nat} (h : Evl.Ev tl σ H (.ref a)) (hx : SqL K H a xs ∨ SqT K H a xs) (hd : DpAll K H xs (cs.map D)) (hz : cs.length ≤ 40000) (hw : ∀ x, wipe ((wipe σ vs).set j (some x)) vs = wipe σ vs)
    (he : ∀ (x : V) c H1, c ∈ cs → Ex H H1 → Dp K H1 x (D c) → Evl.Ev te ((wipe σ vs).set j (some x)) H1 (.bl (f c))) : Evl.EvL (tLc (iSeq K tl) (gName j) tYes te vs) σ H ((cs.map f).map V.bl) := fun H0 e0 Q q => h H0 e0 _ fun H1 e1 => by
  have hlen := dpa_len hd
  rw [List.length_map] at hlen
  let w : Nat → V := fun i => (cs[i]?).elim .non fun c => .bl (f c)
  have turn : ∀ (Dl : Addr) (i : Nat) (x : V) (H2 H3 : Hp), i < xs.length → Cm H1 w Dl i H2 → YAt xs i H2 x H3 → gName j x (wipe σ vs) H3 fun σ2 H2 => wipe σ2 vs = wipe σ vs ∧ tYes σ2 H2 fun b H3 =>
      if b = true then te σ2 H3 fun y H4 => ∃ acc, H4 Dl = some (.lst acc) ∧ acc.length < sizeLine ∧ Cm H1 w Dl (i + 1) (upd H4 Dl (.lst (acc ++ [y]))) else Cm H1 w Dl (i + 1) H3 := by
    intro Dl i x H2 H3 hi p yp
    obtain ⟨rfl, hu⟩ := yp
    have hi' : i < cs.length := by omega
    obtain ⟨d, hd1, hd2⟩ := dpa_get hd hu
    rw [List.getElem?_map, List.getElem?_eq_getElem hi'] at hd1
    have ed : d = D cs[i] := (Option.some.inj hd1).symm
    subst ed
    refine ⟨hw x, ?_⟩
    refine yes_lc (A := fun H3 => te ((wipe σ vs).set j (some x)) H3 fun y H4 => ∃ acc, H4 Dl = some (.lst acc) ∧ acc.length < sizeLine ∧ Cm H1 w Dl (i + 1) (upd H4 Dl (.lst (acc ++ [y])))) (B := fun H3 => Cm H1 w Dl (i + 1) H3) ?_
    have ew : w i = .bl (f cs[i]) := by
      show (cs[i]?).elim V.non (fun c => V.bl (f c)) = _
      rw [List.getElem?_eq_getElem hi']
      rfl
    refine cm_turn p (by omega) _ (Ex.refl _) ?_
    rw [ew]
    exact he x _ _ (List.getElem_mem hi') (e0.trans e1) (hd2.up (e0.trans e1))
  have fin : ∀ Dl H2, Cm H1 w Dl xs.length H2 → Q (.ref Dl) H2 := fun Dl H2 p => by
    refine q Dl H2 (Evl.fresh_back e1 p.1) (e1.trans p.2.1) ?_
    rw [p.2.2, hlen]
    congr 2
    apply List.ext_getElem
    · simp
    · intro i h1 h2
      have h3 : i < cs.length := by simpa using h1
      simp [w, h3]
  refine ⟨a, rfl, ?_⟩
  rcases hx with x1 | x1
  · refine .inl ⟨⟨xs, Evl.ex_l (e0.trans e1) x1⟩, fun Dl hD => ?_⟩
    exact lc_it (walk_list (xs := xs)) (Cm H1 w Dl) (cm_0 hD) (fun i H2 _ p => Evl.ex_l ((e0.trans e1).trans p.2.1) x1) (fun i x H2 H3 hi p y => turn Dl i x H2 H3 hi p y) (fun H2 p => fin Dl H2 p)
  · refine .inr ⟨⟨xs, Evl.ex_t (e0.trans e1) x1⟩, fun Dl hD => ?_⟩
    exact lc_it (walk_tup (xs := xs)) (Cm H1 w Dl) (cm_0 hD) (fun i H2 _ p => Evl.ex_t ((e0.trans e1).trans p.2.1) x1) (fun i x H2 H3 hi p y => turn Dl i x H2 H3 hi p y) (fun H2 p => fin Dl H2 p)
theorem ok_between {f : Addr} {fd : FuncData} (F : Fun K "_lies_between" "_lies_between" s_lies_between f fd) (T : TxR mg) : FnOk P w K mg base CX0 1 f fd ["entry", "low", "high"] spBetween := by
  refine F.ok sc_lies_between (fun vs H Q E h => ?_) (fun cdv A outer s H vs Q E hr h => ?_)
  · obtain ⟨_, _, _, rfl, _⟩ := h
    rfl
  · obtain ⟨x, lo, hi, rfl, k⟩ := h
    refine ⟨_, (pss_one (ps_ret (pe_and (pe_or (pe_cmp (pc_isN (pv 1)) rfl) (pe_one (pe_cmpR op_ge (pv 0) (pv 1) (nomark _)))) (pe_one (pe_or (pe_cmp (pc_isN (pv 2)) rfl) (pe_one (pe_cmpR op_le (pv 0) (pv 2) (nomark _)))))))), ?_⟩
    have v0 : Evl.Ev (tVar 0) (start sc_lies_between_N [.int x, oV lo, oV hi]) H (.int x) := Evl.ev_var rfl
    have v1 : Evl.Ev (tVar 1) (start sc_lies_between_N [.int x, oV lo, oV hi]) H (oV lo) := Evl.ev_var rfl
    have v2 : Evl.Ev (tVar 2) (start sc_lies_between_N [.int x, oV lo, oV hi]) H (oV hi) := Evl.ev_var rfl
    have a1 : Evl.Ev (tOrV (tIsN (tVar 1)) (tOp (rI0 fun i j => .bl (decide (i ≥ j))) (tVar 0) (tVar 1))) (start sc_lies_between_N [.int x, oV lo, oV hi]) H (.bl (geO x lo)) := by
      cases lo with
      | none => exact Evl.ev_orV (a := true) (b := true) (ev_isN v1) fun z => nomatch z
      | some i => exact Evl.ev_orV (a := false) (ev_isN v1) fun _ => Evl.ev_op v0 v1 (Evl.rv_I0 (g := fun i j => .bl (decide (i ≥ j))))
    have a2 : Evl.Ev (tOrV (tIsN (tVar 2)) (tOp (rI0 fun i j => .bl (decide (i ≤ j))) (tVar 0) (tVar 2))) (start sc_lies_between_N [.int x, oV lo, oV hi]) H (.bl (leO x hi)) := by
      cases hi with
      | none => exact Evl.ev_orV (a := true) (b := true) (ev_isN v2) fun z => nomatch z
      | some i => exact Evl.ev_orV (a := false) (ev_isN v2) fun _ => Evl.ev_op v0 v2 (Evl.rv_I0 (g := fun i j => .bl (decide (i ≤ j))))
    exact Evl.s_ret (Evl.ev_andV a1 fun _ => a2) k
theorem ok_above {f : Addr} {fd : FuncData} (F : Fun K "_lies_above" "_lies_above" s_lies_above f fd) (T : TxR mg) : FnOk P w K mg base CX0 1 f fd ["point", "corner"] (spAbove K) := by
  refine F.ok sc_lies_above (fun vs H Q E h => ?_) (fun cdv A outer s H vs Q E hr h => ?_)
  · obtain ⟨_, _, _, _, _, rfl, _⟩ := h
    rfl
  · obtain ⟨v, w, t, x, c, rfl, hx, hc, hl, hz, k⟩ := h
    refine ⟨_, (pss_one (ps_ret (pe_callB (cr_all rfl) (by rfl) T.m_all (by decide +kernel) (pa_cons (pe_lc (own := [("entry", 2), ("low", 3)]) (g := gTup K 2 (gCons (gName 2) (gCons (gName 3) (gNil)))) (tt := tYes) (by rfl) sc_lies_above.nd (RZ.pi_zipA (by rfl) T.m_zip (pa_cons (pv 0) (pa_cons (pv 1) pa_nil))) (blkOk_by (N := sc_lies_above_N) (sc := defScope s_lies_above) (by decide +kernel)) (fun _ _ _ _ _ => (pg_tup (by rfl) (pgs_cons (pg_name (i := 2) sc_lies_above.nd rfl (by first | exact Or.inl rfl | exact Or.inr rfl)) (pgs_cons (pg_name (i := 3) sc_lies_above.nd rfl (by first | exact Or.inl rfl | exact Or.inr rfl)) pgs_nil)))) (fun _ _ _ _ _ => pts_nil) (fun _ _ _ _ _ => (pe_or (pe_cmp (pc_isN (pv 3)) rfl) (pe_one (pe_cmpR op_ge (pv 2) (pv 3) (nomark _)))))) pa_nil)))), ?_⟩
    obtain ⟨a, xs, rfl, sa, xa⟩ := sq_inv hx
    obtain ⟨b, ys, rfl, sb, yb⟩ := sq_inv hc
    have ex := dpi_inv xa
    subst ex
    have ly := dpa_len yb
    rw [List.length_map] at ly
    have z := el_zip (K := K) (te := tOrV (tIsN (tVar 3)) (tOp (rI0 fun i j => .bl (decide (i ≥ j))) (tVar 2) (tVar 3))) (ta := tCons (tVar 0) (tCons (tVar 1) tNil)) (i1 := 2) (i2 := 3) (vs := [2, 3]) (σ := start sc_lies_above_N [V.ref a, V.ref b]) (H := H) (v := fun i => .bl (geO (x.getD i 0) (c.getD i none))) (Evl.ea_cons (Evl.ev_var (v := .ref a) rfl) (Evl.ea_cons (Evl.ev_var (v := .ref b) rfl) Evl.ea_nil)) (sa.both sb) (by rw [List.length_map]; omega) (by rw [List.length_map]; omega) (fun _ _ => rfl)
      (fun i u q H1 e1 hu hq => ?_)
    · refine Evl.s_ret (v := .bl (aboveR x c)) (Evl.ev_is (ev_all (bs := List.zipWith geO x c) ?_) rfl) k
      have e : (List.range (x.map V.int).length).map (fun i => V.bl (geO (x.getD i 0) (c.getD i none))) = (List.zipWith geO x c).map V.bl := by
        rw [List.length_map, List.map_zipWith]
        refine rng_zw (by omega) _ fun i h1 h2 => ?_
        rw [List.getD_eq_getElem?_getD, List.getD_eq_getElem?_getD, List.getElem?_eq_getElem h1, List.getElem?_eq_getElem h2]
        rfl
      rw [← e]
      exact z
    · obtain ⟨d, hd1, hd2⟩ := dpa_get yb hq
      have hi : i < x.length := by
        have := (List.getElem?_eq_some_iff.mp hu).1
        rwa [List.length_map] at this
      have hi2 : i < c.length := by omega
      rw [List.getElem?_map, List.getElem?_eq_getElem hi] at hu
      rw [List.getElem?_map, List.getElem?_eq_getElem hi2] at hd1
      have eu : u = .int x[i] := (Option.some.inj hu).symm
      have ed : d = oD c[i] := (Option.some.inj hd1).symm
      subst eu ed
      have eq := oD_inv hd2
      subst eq
      rw [List.getD_eq_getElem?_getD, List.getD_eq_getElem?_getD, List.getElem?_eq_getElem hi, List.getElem?_eq_getElem hi2]
      show Evl.Ev _ _ _ (.bl (geO x[i] c[i]))
      cases c[i] with
      | none => exact Evl.ev_orV (a := true) (b := true) (ev_isN (Evl.ev_var (v := .non) rfl)) fun z => nomatch z
      | some j => exact Evl.ev_orV (a := false) (ev_isN (Evl.ev_var (v := .int j) rfl)) fun _ => Evl.ev_op (Evl.ev_var rfl) (Evl.ev_var rfl) (Evl.rv_I0 (g := fun i j => .bl (decide (i ≥ j))))
theorem ok_half {f : Addr} {fd : FuncData} (F : Fun K "_half_says" "_half_says" s_half_says f fd) (T : TxR mg) : FnOk P w K mg base CX0 1 f fd ["rule", "point"] (spHalf K) := by
  refine F.ok sc_half_says (fun vs H Q E h => ?_) (fun cdv A outer s H vs Q E hr h => ?_)
  · obtain ⟨_, _, _, _, _, _, rfl, _⟩ := h
    rfl
  · obtain ⟨v, w, t, ws, b, x, rfl, hv, hx, hl, hz, hs, k⟩ := h
    refine ⟨_, (pss_cons (ps_asg (pv 0) (pg_sq (by rfl) (pgs_cons (pg_name (i := 2) sc_half_says.nd rfl (by first | exact Or.inl rfl | exact Or.inr rfl)) (pgs_cons (pg_name (i := 3) sc_half_says.nd rfl (by first | exact Or.inl rfl | exact Or.inr rfl)) (pgs_cons (pg_name (i := 4) sc_half_says.nd rfl (by first | exact Or.inl rfl | exact Or.inr rfl)) pgs_nil)))))
    (pss_one (ps_ret (pe_cmpR op_ge (pe_callB (cr_sum rfl) (by rfl) T.m_sum (by decide +kernel) (pa_cons (pe_lc (own := [("weight", 5), ("entry", 6)]) (g := gTup K 2 (gCons (gName 5) (gCons (gName 6) (gNil)))) (tt := tYes) (by rfl) sc_half_says.nd (RZ.pi_zipA (by rfl) T.m_zip (pa_cons (pv 3) (pa_cons (pv 1) pa_nil))) (blkOk_by (N := sc_half_says_N) (sc := defScope s_half_says) (by decide +kernel)) (fun _ _ _ _ _ => (pg_tup (by rfl) (pgs_cons (pg_name (i := 5) sc_half_says.nd rfl (by first | exact Or.inl rfl | exact Or.inr rfl)) (pgs_cons (pg_name (i := 6) sc_half_says.nd rfl (by first | exact Or.inl rfl | exact Or.inr rfl)) pgs_nil)))) (fun _ _ _ _ _ => pts_nil) (fun _ _ _ _ _ => (pe_op op_mul (pv 5) (pv 6)))) pa_nil)) (pv 4) (nomark _))))), ?_⟩
    obtain ⟨a, ys, rfl, sa, ya⟩ := sq_inv hv
    obtain ⟨c, xs, rfl, sc, xc⟩ := sq_inv hx
    have ex := dpi_inv xc
    subst ex
    cases ya with
    | @cons u1 _ _ _ r1 q1 =>
      cases q1 with
      | @cons u2 _ _ _ r2 q2 =>
        cases q2 with
        | @cons u3 _ _ _ r3 q3 =>
          cases q3
          cases r3
          obtain ⟨e, zs, rfl, se, ze⟩ := sq_inv r2
          have ex := dpi_inv ze
          subst ex
          refine ⟨_, rfl, sqA_gsq sa rfl ⟨u1, _, rfl, .ref e, _, rfl, .int b, [], rfl, rfl, ?_⟩⟩
          have z := el_zip (K := K) (te := tOp (rI CMul fun i j => .int (i * j)) (tVar 5) (tVar 6)) (ta := tCons (tVar 3) (tCons (tVar 1) tNil)) (i1 := 5) (i2 := 6) (vs := [5, 6]) (σ := [some (V.ref a), some (V.ref c), some u1, some (V.ref e), some (V.int b), none, none]) (H := H) (v := fun i => .int (ws.getD i 0 * x.getD i 0)) (a := e) (b := c) (Evl.ea_cons (Evl.ev_var (v := .ref e) rfl) (Evl.ea_cons (Evl.ev_var (v := .ref c) rfl) Evl.ea_nil)) (se.both sc) (by rw [List.length_map, List.length_map]; omega) (by rw [List.length_map]; omega) (fun _ _ => rfl)
            (fun i u q H1 e1 hu hq => ?_)
          · have ee : (List.range (ws.map V.int).length).map (fun i => V.int (ws.getD i 0 * x.getD i 0)) = (List.zipWith (fun a b => a * b) ws x).map V.int := by
              rw [List.length_map, List.map_zipWith]
              refine rng_zw (by omega) _ fun i h1 h2 => ?_
              rw [List.getD_eq_getElem?_getD, List.getD_eq_getElem?_getD, List.getElem?_eq_getElem h1, List.getElem?_eq_getElem h2]
              rfl
            rw [ee] at z
            have v4 : Evl.Ev (tVar 4) [some (V.ref a), some (V.ref c), some u1, some (V.ref e), some (V.int b), none, none] H (.int b) := Evl.ev_var rfl
            exact Evl.s_ret (D := { nx := fun _ H' => Q .non H', rt := Q }) (v := .bl (decide (dot ws x ≥ b))) (Evl.ev_op (ev_sum z) v4 (Evl.rv_I0 (g := fun i j => .bl (decide (i ≥ j))))) k
          · have hi : i < ws.length := by
              have := (List.getElem?_eq_some_iff.mp hu).1
              rwa [List.length_map] at this
            have hi2 : i < x.length := by omega
            rw [List.getElem?_map, List.getElem?_eq_getElem hi] at hu
            rw [List.getElem?_map, List.getElem?_eq_getElem hi2] at hq
            have eu : u = .int ws[i] := (Option.some.inj hu).symm
            have eq : q = .int x[i] := (Option.some.inj hq).symm
            subst eu eq
            rw [List.getD_eq_getElem?_getD, List.getD_eq_getElem?_getD, List.getElem?_eq_getElem hi, List.getElem?_eq_getElem hi2]
            exact Evl.ev_op (Evl.ev_var rfl) (Evl.ev_var rfl) (Evl.rv_I (C := CMul) (g := fun a b => .int (a * b)) (.inl (hs _ (List.getElem_mem hi))))
theorem ok_rise {f : Addr} {fd : FuncData} (F : Fun K "_rise_says" "_rise_says" s_rise_says f fd) (T : TxR mg) (D_lies_above : DefAt P w K mg base "_lies_above" 1 ["point", "corner"] (spAbove K)) : FnOk P w K mg base CX0 2 f fd ["rule", "point"] (spRise K) := by
  refine F.ok sc_rise_says (fun vs H Q E h => ?_) (fun cdv A outer s H vs Q E hr h => ?_)
  · obtain ⟨_, _, _, _, _, rfl, _⟩ := h
    rfl
  · obtain ⟨v, w, t, cs, x, rfl, hv, hx, hl, hz, hcs, k⟩ := h
    refine ⟨_, (pss_cons (ps_asg (pv 0) (pg_sq (by rfl) (pgs_cons (pg_name (i := 2) sc_rise_says.nd rfl (by first | exact Or.inl rfl | exact Or.inr rfl)) (pgs_cons (pg_name (i := 3) sc_rise_says.nd rfl (by first | exact Or.inl rfl | exact Or.inr rfl)) pgs_nil))))
    (pss_one (ps_ret (pe_callB (cr_any rfl) (by rfl) T.m_any (by decide +kernel) (pa_cons (pe_lc (own := [("corner", 4)]) (g := gName 4) (tt := tYes) (by rfl) sc_rise_says.nd (pi_seq (pv 3)) (blkOk_by (N := sc_rise_says_N) (sc := defScope s_rise_says) (by decide +kernel)) (fun _ _ _ _ _ => (pg_name (i := 4) sc_rise_says.nd rfl (by first | exact Or.inl rfl | exact Or.inr rfl))) (fun _ _ _ _ _ => pts_nil) (fun _ _ _ _ _ => (pe_callD D_lies_above (by first | exact hr | exact hr.mono (by decide) | exact hr.mono (by omega)) (by rfl) (pa_cons (pv 1) (pa_cons (pv 4) pa_nil))))) pa_nil))))), ?_⟩
    obtain ⟨a, ys, rfl, sa, ya⟩ := sq_inv hv
    cases ya with
    | @cons u1 _ _ _ r1 q1 =>
      cases q1 with
      | @cons u2 _ _ _ r2 q2 =>
        cases q2
        obtain ⟨e, zs, rfl, se, ze⟩ := sq_inv r2
        refine ⟨_, rfl, sqA_gsq sa rfl ⟨u1, _, rfl, .ref e, [], rfl, rfl, ?_⟩⟩
        have z := el_seqX (K := K) (te := tCallD (spAbove K) (tCons (tVar 1) (tCons (tVar 4) tNil))) (tl := tVar 3) (j := 4) (vs := [4]) (σ := [some (V.ref a), some w, some u1, some (V.ref e), none]) (H := H) (a := e) (cs := cs) (D := fun c => sq t (c.map oD)) (f := aboveR x) (Evl.ev_var (v := .ref e) rfl) se.or ze (by omega) (fun _ => rfl)
          (fun u c H1 hc e1 hu => ev_callD (Evl.ea_cons (Evl.ev_var (v := w) rfl) (Evl.ea_cons (Evl.ev_var (v := u) rfl) Evl.ea_nil)) fun H2 e2 Q q => ⟨w, u, t, x, c, rfl, hx.up (e1.trans e2), hu.up e2, hl c hc, hz, q⟩)
        exact Evl.s_ret (v := .bl (cs.any (aboveR x))) (Evl.ev_is (ev_any z) (congrArg V.bl (by rw [List.any_map]; rfl))) k
theorem ok_turnsS {f : Addr} {fd : FuncData} (F : Fun K "_turns_says" "_turns_says" s_turns_says f fd) (T : TxR mg) : FnOk P w K mg base CX0 1 f fd ["rule", "point"] (spTurns K) := by
  refine F.ok sc_turns_says (fun vs H Q E h => ?_) (fun cdv A outer s H vs Q E hr h => ?_)
  · obtain ⟨_, _, _, _, _, _, rfl, _⟩ := h
    rfl
  · obtain ⟨v, w, t, f0, cs, x0, rfl, hv, hx, hcs, k⟩ := h
    refine ⟨_, (pss_cons (ps_asg (pv 0) (pg_sq (by rfl) (pgs_cons (pg_name (i := 2) sc_turns_says.nd rfl (by first | exact Or.inl rfl | exact Or.inr rfl)) (pgs_cons (pg_name (i := 3) sc_turns_says.nd rfl (by first | exact Or.inl rfl | exact Or.inr rfl)) (pgs_cons (pg_name (i := 4) sc_turns_says.nd rfl (by first | exact Or.inl rfl | exact Or.inr rfl)) pgs_nil)))))
    (pss_cons (ps_for PassesOwn.never rfl (pi_seq (pv 4)) (pg_name (i := 5) sc_turns_says.nd rfl (by first | exact Or.inl rfl | exact Or.inr rfl))
      (pss_one (ps_if (pt_cmpR op_le (pv 5) (pe_ix ix_seq (pv 1) pe_int (fun _ _ => rfl)) (nomark _)) (pss_one (ps_set (i := 3) sc_turns_says.nd rfl (by first | exact Or.inl rfl | exact Or.inr rfl) (pe_not (pv 3)))) pss_nil)))
    (pss_one (ps_ret (pv 3))))), ?_⟩
    obtain ⟨a, ys, rfl, sa, ya⟩ := sq_inv hv
    obtain ⟨c, xs, rfl, sc, xc⟩ := sq_inv hx
    have ex := dpi_inv (ns := [x0]) xc
    subst ex
    cases ya with
    | @cons u1 _ _ _ r1 q1 =>
      cases q1 with
      | @cons u2 _ _ _ r2 q2 =>
        cases q2 with
        | @cons u3 _ _ _ r3 q3 =>
          cases q3
          cases r2
          obtain ⟨e, zs, rfl, se, ze⟩ := sq_inv r3
          have ex := dpi_inv ze
          subst ex
          refine ⟨_, rfl, sqA_gsq sa rfl ⟨u1, _, rfl, .bl f0, _, rfl, .ref e, [], rfl, rfl, ?_⟩⟩
          let Pv : Nat → L2.St → Hp → Prop := fun i σ' H' => Ex H H' ∧ ∃ s5, σ' = [some (.ref a), some (.ref c), some u1, some (.bl (turnsR f0 (cs.take i) x0)), some (.ref e), s5]
          have turn : ∀ (i : Nat) (y : V) (σ' : L2.St) (H3 H4 : Hp) (D : Ends), i < (cs.map V.int).length → Pv i σ' H3 → YAt (cs.map V.int) i H3 y H4 → gName 5 y σ' H4 fun σ2 H5 =>
              tIfS (tTest (tOp (rI0 fun i j => .bl (decide (i ≤ j))) (tVar 5) (tOp (rIxA K) (tVar 1) (tC (.int 0))))) (tAsg (tNotV (tVar 3)) (gName 3)) tNext { D with nx := Pv (i + 1), ct := Pv (i + 1), bk := D.nx } σ2 H5 := by
            intro i y σ' H3 H4 D hi pv yp
            obtain ⟨e3, s5, rfl⟩ := pv
            obtain ⟨rfl, hy⟩ := yp
            rw [List.length_map] at hi
            rw [List.getElem?_map, List.getElem?_eq_getElem hi] at hy
            have ey : y = .int cs[i] := (Option.some.inj hy).symm
            subst ey
            have estep : turnsR f0 (cs.take (i + 1)) x0 = if cs[i] ≤ x0 then !turnsR f0 (cs.take i) x0 else turnsR f0 (cs.take i) x0 := by
              unfold turnsR
              rw [List.take_add_one, List.getElem?_eq_getElem hi, List.foldl_append]
              rfl
            refine Evl.s_when (b := decide (cs[i] ≤ x0)) (Evl.et_test (Evl.ev_op (Evl.ev_var (v := .int cs[i]) rfl) (ev_ixAR (Evl.ev_var (v := .ref c) rfl) (sc.up e3).or rfl) (Evl.rv_I0 (g := fun i j => .bl (decide (i ≤ j)))))) (fun z H5 e5 => ?_) (fun z H5 e5 => ?_)
            · rw [if_pos (of_decide_eq_true z)] at estep
              refine Evl.s_asg (v := .bl (!turnsR f0 (cs.take i) x0)) (Evl.ev_notV (Evl.ev_var rfl)) fun H6 e6 => ?_
              refine ⟨(e3.trans e5).trans e6, some (.int cs[i]), ?_⟩
              rw [estep]
              rfl
            · rw [if_neg (of_decide_eq_false z)] at estep
              refine ⟨e3.trans e5, some (.int cs[i]), ?_⟩
              rw [estep]
              rfl
          have fin : ∀ σ' H3, Pv (cs.map V.int).length σ' H3 → tRet (tVar 3) { nx := fun _ H' => Q .non H', rt := Q } σ' H3 := by
            rintro σ' H3 ⟨e3, s5, rfl⟩
            rw [List.length_map, List.take_length]
            exact Evl.s_ret (v := .bl (turnsR f0 cs x0)) (Evl.ev_var rfl) fun H4 e4 => k H4 (e3.trans e4)
          refine ⟨_, rfl, e, rfl, ?_⟩
          rcases se.or with x1 | x1
          · exact .inl ⟨⟨_, x1⟩, for_it (walk_list (xs := cs.map V.int)) Pv ⟨Ex.refl _, none, rfl⟩ (fun i σ' H3 _ pv => Evl.ex_l pv.1 x1) (fun i y σ' H3 H4 hi pv yp => turn i y σ' H3 H4 _ hi pv yp) fin⟩
          · exact .inr ⟨⟨_, x1⟩, for_it (walk_tup (xs := cs.map V.int)) Pv ⟨Ex.refl _, none, rfl⟩ (fun i σ' H3 _ pv => Evl.ex_t pv.1 x1) (fun i y σ' H3 H4 hi pv yp => turn i y σ' H3 H4 _ hi pv yp) fin⟩
theorem ok_flat {f : Addr} {fd : FuncData} (F : Fun K "_flat_says" "_flat_says" s_flat_says f fd) (T : TxR mg) (D_is_spanned : DefAt P w K mg base "is_spanned" 3 ["row", "rows"] (spSpan K)) : FnOk P w K mg base CX0 4 f fd ["rule", "point"] (spFlat K) := by
  refine F.ok sc_flat_says (fun vs H Q E h => ?_) (fun cdv A outer s H vs Q E hr h => ?_)
  · obtain ⟨_, _, _, _, _, rfl, _⟩ := h
    rfl
  · obtain ⟨v, w, t, ps, x, rfl, hv, hx, hl, hz, hps, hb, hbx, k⟩ := h
    refine ⟨_, (pss_cons (ps_asg (pv 0) (pg_sq (by rfl) (pgs_cons (pg_name (i := 2) sc_flat_says.nd rfl (by first | exact Or.inl rfl | exact Or.inr rfl)) (pgs_cons (pg_name (i := 3) sc_flat_says.nd rfl (by first | exact Or.inl rfl | exact Or.inr rfl)) pgs_nil))))
    (pss_one (ps_ret (pe_callD D_is_spanned (by first | exact hr | exact hr.mono (by decide) | exact hr.mono (by omega)) (by rfl) (pa_cons (pe_lst (pa_cons pe_int (pa_star (pv 1) pa_nil))) (pa_cons (pe_lc (own := [("other", 4)]) (g := gName 4) (tt := tYes) (te := tLst (tCons (tC (.int 1)) (StX.tStar K (tVar 4) tNil))) (by rfl) sc_flat_says.nd (pi_seq (pv 3)) (blkOk_by (N := sc_flat_says_N) (sc := defScope s_flat_says) (by decide +kernel)) (fun _ _ _ _ _ => (pg_name (i := 4) sc_flat_says.nd rfl (by first | exact Or.inl rfl | exact Or.inr rfl))) (fun _ _ _ _ _ => pts_nil) (fun _ _ _ _ _ => (pe_lst (pa_cons pe_int (pa_star (pv 4) pa_nil))))) pa_nil)))))), ?_⟩
    obtain ⟨a, ys, rfl, sa, ya⟩ := sq_inv hv
    obtain ⟨c, xs, rfl, sc, xc⟩ := sq_inv hx
    have ex := dpi_inv xc
    subst ex
    cases ya with
    | @cons u1 _ _ _ r1 q1 =>
      cases q1 with
      | @cons u2 _ _ _ r2 q2 =>
        cases q2
        obtain ⟨e, zs, rfl, se, ze⟩ := sq_inv r2
        refine ⟨_, rfl, sqA_gsq sa rfl ⟨u1, _, rfl, .ref e, [], rfl, rfl, ?_⟩⟩
        have w0 : W [] H = H := w_nil
        have hnil : Hid [] H := fun _ h => (nomatch h)
        have z := eg_seq (K := K) (L := []) (te := tLst (tCons (tC (.int 1)) (StX.tStar K (tVar 4) tNil))) (tl := tVar 3) (j := 4) (vs := [4]) (σ := [some (V.ref a), some (V.ref c), some u1, some (V.ref e), none]) (H := H) (a := e) (xs := zs) (ds := ps.map fun y => sq t (y.map .int)) (g := fun d => match d with | .list ds => .list (.int 1 :: ds) | .tuple ds => .list (.int 1 :: ds) | d => d)
          (Evl.ev_var (v := .ref e) rfl) se.or (by rw [w0]; exact ze) hnil (by rw [List.length_map]; omega) (fun _ => rfl) (fun L' u d H1 hd hL' e1 hu => ?_)
        · have hbit : ∀ y : List Int, Bits 60 y → Bits 60 (rowP y) := fun y hy q hq => (List.mem_cons.mp hq).elim (fun z => by rw [z]; decide) fun z => hy q z
          have em : ((ps.map fun y => sq t (y.map PyData.int)).map fun d => match d with | .list ds => PyData.list (.int 1 :: ds) | .tuple ds => .list (.int 1 :: ds) | d => d) = (ps.map rowP).map rD := by
            rw [List.map_map, List.map_map]
            refine List.map_congr_left fun y _ => ?_
            cases t <;> rfl
          rw [em] at z
          have v1 : Evl.Ev (tVar 1) [some (V.ref a), some (V.ref c), some u1, some (V.ref e), none] H (.ref c) := Evl.ev_var rfl
          refine Evl.s_ret (D := { nx := fun _ H' => Q .non H', rt := Q }) (v := .bl (flatR ps x)) (ev_call2 (el_star1 v1 sc.or (by rw [List.length_map]; omega)) z fun p1 p2 H2 e2 h1 g2 Q2 q2 => ?_) k
          refine ⟨.ref p1, .ref p2, rowP x, ps.map rowP, [], rfl, fun _ h => (nomatch h), ?_, g2.dp, by show x.length + 1 ≤ 1000; omega, by rw [List.length_map]; exact hps, fun r hr => ?_, fun r hr => ?_, hbit x hbx, q2⟩
          · rw [w_nil]
            exact .lst (SqL.of h1) (dpi_of (1 :: x))
          · obtain ⟨y, hy, rfl⟩ := List.mem_map.mp hr
            show y.length + 1 = x.length + 1
            rw [hl y hy]
          · obtain ⟨y, hy, rfl⟩ := List.mem_map.mp hr
            exact hbit y (hb y hy)
        · obtain ⟨y, hy, rfl⟩ := List.mem_map.mp hd
          obtain ⟨b, us, rfl, sb, ub⟩ := sq_inv hu
          have ex := dpi_inv ub
          subst ex
          have g0 : (match sq t (y.map PyData.int) with | .list ds => PyData.list (.int 1 :: ds) | .tuple ds => .list (.int 1 :: ds) | d => d) = rD (rowP y) := by
            cases t <;> rfl
          have yl := hl y hy
          intro H2 e2 Q2 q2
          refine el_star1 (Evl.ev_var (v := .ref b) rfl) (sb.or.imp (fun z => Evl.ex_l (w_sub.trans e2) z) (fun z => Evl.ex_t (w_sub.trans e2) z)) (by rw [List.length_map]; omega) H2 (Ex.refl H2) _ fun p1 H3 hp1 e3 h3 => q2 _ H3 e3 ?_
          show Dp K (W L' H3) (.ref p1) (match sq t (y.map PyData.int) with | .list ds => PyData.list (.int 1 :: ds) | .tuple ds => .list (.int 1 :: ds) | d => d)
          rw [g0]
          exact .lst (SqL.of (w_of (fun m => hid_ex e2 hL' p1 m hp1) h3)) (dpi_of (1 :: y))
end
end U

set_option Elab.async false
set_option linter.all false
set_option maxRecDepth 100000
set_option maxHeartbeats 4000000
namespace U
open PySem L2
open Evl (Ex)
section
variable {K : PySem.W.Frag} {σ : L2.St} {H : Hp} {ta : TA} {te : TE} {j1 j2 j3 : Nat} {vs : List Nat} {t : Bool} {a b : Addr} {x : List Int} {rs : List (Option Int × Option Int)} {ys : List V} {f : Int → (Option Int × Option Int) → Bool}
theorem el_zipB (h : Evl.EvA ta σ H [.ref a, .ref b]) (sa : SqA K H t a (x.map V.int)) (sb : SqA K H t b ys) (yb : DpAll K H ys (rs.map (rgD t))) (hl : rs.length = x.length) (hz : x.length ≤ 1000)
    (hw : ∀ u v w, wipe ((((wipe σ vs).set j1 (some u)).set j2 (some v)).set j3 (some w)) vs = wipe σ vs)
    (he : ∀ (i : Nat) (h1 : i < x.length) (h2 : i < rs.length) H1, Ex H H1 → Evl.Ev te ((((wipe σ vs).set j1 (some (.int x[i]))).set j2 (some (oV rs[i].1))).set j3 (some (oV rs[i].2))) H1 (.bl (f x[i] rs[i]))) :
    Evl.EvL (tLc (RZ.iZipA K ta) (gTup K 2 (gCons (gName j1) (gCons (gSq K 2 (gCons (gName j2) (gCons (gName j3) gNil))) gNil))) tYes te vs) σ H ((List.zipWith f x rs).map V.bl) := fun H0 e0 Q q => h H0 e0 _ fun H1 e1 => by
  have ly := dpa_len yb
  rw [List.length_map] at ly
  let v : Nat → V := fun i => .bl (f (x.getD i 0) (rs.getD i (none, none)))
  have turn : ∀ (Dl : Addr) (i : Nat) (y : V) (H2 H3 : Hp), i < (x.map V.int).length → Cm H1 v Dl i H2 → YPair (fun i => (x.map V.int)[i]?) (fun i => ys[i]?) i H2 y H3 → gTup K 2 (gCons (gName j1) (gCons (gSq K 2 (gCons (gName j2) (gCons (gName j3) gNil))) gNil)) y (wipe σ vs) H3 fun σ2 H2 => wipe σ2 vs = wipe σ vs ∧ tYes σ2 H2 fun b H3 =>
      if b = true then te σ2 H3 fun y H4 => ∃ acc, H4 Dl = some (.lst acc) ∧ acc.length < sizeLine ∧ Cm H1 v Dl (i + 1) (upd H4 Dl (.lst (acc ++ [y]))) else Cm H1 v Dl (i + 1) H3 := by
    intro Dl i y H2 H3 hi p yp
    obtain ⟨T, u, w, rfl, hT, rfl, hu, hw'⟩ := yp
    rw [List.length_map] at hi
    have hi2 : i < rs.length := by omega
    have hu' : (x.map V.int)[i]? = some u := hu
    have hq' : ys[i]? = some w := hw'
    rw [List.getElem?_map, List.getElem?_eq_getElem hi] at hu'
    have eu : u = .int x[i] := (Option.some.inj hu').symm
    subst eu
    obtain ⟨d, hd1, hd2⟩ := dpa_get yb hq'
    rw [List.getElem?_map, List.getElem?_eq_getElem hi2] at hd1
    have ed : d = rgD t rs[i] := (Option.some.inj hd1).symm
    subst ed
    have eN : Ex H (upd H2 T (.tup [.int x[i], w])) := ((e0.trans e1).trans p.2.1).trans (Ex.new hT)
    obtain ⟨c, us, rfl, sc, uc⟩ := sq_inv (hd2.up eN)
    cases uc with
    | @cons u1 _ _ _ r1 q1 =>
      cases q1 with
      | @cons u2 _ _ _ r2 q2 =>
        cases q2
        have e1' := oD_inv r1
        have e2' := oD_inv r2
        subst e1' e2'
        refine ⟨T, [.int x[i], .ref c], rfl, SqT.of upd_same, rfl, .int x[i], [.ref c], rfl, .ref c, [], rfl, sqA_gsq sc rfl ⟨_, _, rfl, _, [], rfl, rfl, rfl, ?_⟩⟩
        refine ⟨hw _ _ _, ?_⟩
        refine yes_lc (B := fun H3 => Cm H1 v Dl (i + 1) H3) ?_
        have ev : v i = .bl (f x[i] rs[i]) := by
          show V.bl (f (x.getD i 0) (rs.getD i (none, none))) = _
          rw [List.getD_eq_getElem?_getD, List.getD_eq_getElem?_getD, List.getElem?_eq_getElem hi, List.getElem?_eq_getElem hi2]
          rfl
        refine cm_turn p (by omega) _ (Ex.new hT) ?_
        rw [ev]
        exact he i hi hi2 _ (e0.trans e1)
  have fin : ∀ Dl H2, Cm H1 v Dl (x.map V.int).length H2 → Q (.ref Dl) H2 := fun Dl H2 p => by
    refine q Dl H2 (Evl.fresh_back e1 p.1) (e1.trans p.2.1) ?_
    rw [p.2.2, List.length_map, List.map_zipWith]
    congr 2
    refine rng_zw (by omega) _ fun i h1 h2 => ?_
    show V.bl (f (x.getD i 0) (rs.getD i (none, none))) = _
    rw [List.getD_eq_getElem?_getD, List.getD_eq_getElem?_getD, List.getElem?_eq_getElem h1, List.getElem?_eq_getElem h2]
    rfl
  have hm : (x.map V.int).length = min (x.map V.int).length ys.length := by rw [List.length_map]; omega
  rcases sa.both sb with ⟨x1, x2⟩ | ⟨x1, x2⟩
  · refine ⟨a, b, _, ys, rfl, .inl ⟨Evl.ex_l (e0.trans e1) x1, Evl.ex_l (e0.trans e1) x2, fun Dl hD => ?_⟩⟩
    exact lc_it (walk_zip (n := (x.map V.int).length) hm) (Cm H1 v Dl) (cm_0 hD) (fun i H2 _ p => ⟨Evl.ex_l ((e0.trans e1).trans p.2.1) x1, Evl.ex_l ((e0.trans e1).trans p.2.1) x2⟩) (fun i x H2 H3 hi p y => turn Dl i x H2 H3 hi p y) (fun H2 p => fin Dl H2 p)
  · refine ⟨a, b, _, ys, rfl, .inr ⟨Evl.ex_t (e0.trans e1) x1, Evl.ex_t (e0.trans e1) x2, fun Dl hD => ?_⟩⟩
    exact lc_it (walk_zipT (n := (x.map V.int).length) hm) (Cm H1 v Dl) (cm_0 hD) (fun i H2 _ p => ⟨Evl.ex_t ((e0.trans e1).trans p.2.1) x1, Evl.ex_t ((e0.trans e1).trans p.2.1) x2⟩) (fun i x H2 H3 hi p y => turn Dl i x H2 H3 hi p y) (fun H2 p => fin Dl H2 p)
end
section
variable {P : Program} {w : World} {K : PySem.W.Frag} {mg : Str → Option Value} {base : Heap}
theorem ok_box {f : Addr} {fd : FuncData} (F : Fun K "_box_says" "_box_says" s_box_says f fd) (T : TxR mg) (D_lies_between : DefAt P w K mg base "_lies_between" 1 ["entry", "low", "high"] spBetween) : FnOk P w K mg base CX0 2 f fd ["rule", "point"] (spBox K) := by
  refine F.ok sc_box_says (fun vs H Q E h => ?_) (fun cdv A outer s H vs Q E hr h => ?_)
  · obtain ⟨_, _, _, _, _, rfl, _⟩ := h
    rfl
  · obtain ⟨v, w, t, rs, x, rfl, hv, hx, hl, hz, k⟩ := h
    refine ⟨_, (pss_cons (ps_asg (pv 0) (pg_sq (by rfl) (pgs_cons (pg_name (i := 2) sc_box_says.nd rfl (by first | exact Or.inl rfl | exact Or.inr rfl)) (pgs_cons (pg_name (i := 3) sc_box_says.nd rfl (by first | exact Or.inl rfl | exact Or.inr rfl)) pgs_nil))))
    (pss_one (ps_ret (pe_callB (cr_all rfl) (by rfl) T.m_all (by decide +kernel) (pa_cons (pe_lc (own := [("entry", 4), ("low", 5), ("high", 6)]) (g := gTup K 2 (gCons (gName 4) (gCons (gSq K 2 (gCons (gName 5) (gCons (gName 6) (gNil)))) (gNil)))) (tt := tYes) (by rfl) sc_box_says.nd (RZ.pi_zipA (by rfl) T.m_zip (pa_cons (pv 1) (pa_cons (pv 3) pa_nil))) (blkOk_by (N := sc_box_says_N) (sc := defScope s_box_says) (by decide +kernel)) (fun _ _ _ _ _ => (pg_tup (by rfl) (pgs_cons (pg_name (i := 4) sc_box_says.nd rfl (by first | exact Or.inl rfl | exact Or.inr rfl)) (pgs_cons (pg_sq (by rfl) (pgs_cons (pg_name (i := 5) sc_box_says.nd rfl (by first | exact Or.inl rfl | exact Or.inr rfl)) (pgs_cons (pg_name (i := 6) sc_box_says.nd rfl (by first | exact Or.inl rfl | exact Or.inr rfl)) pgs_nil))) pgs_nil)))) (fun _ _ _ _ _ => pts_nil) (fun _ _ _ _ _ => (pe_callD D_lies_between (by first | exact hr | exact hr.mono (by decide) | exact hr.mono (by omega)) (by rfl) (pa_cons (pv 4) (pa_cons (pv 5) (pa_cons (pv 6) pa_nil)))))) pa_nil))))), ?_⟩
    obtain ⟨a, ys, rfl, sa, ya⟩ := sq_inv hv
    obtain ⟨c, xs, rfl, sc, xc⟩ := sq_inv hx
    have ex := dpi_inv xc
    subst ex
    cases ya with
    | @cons u1 _ _ _ r1 q1 =>
      cases q1 with
      | @cons u2 _ _ _ r2 q2 =>
        cases q2
        obtain ⟨e, zs, rfl, se, ze⟩ := sq_inv r2
        refine ⟨_, rfl, sqA_gsq sa rfl ⟨u1, _, rfl, .ref e, [], rfl, rfl, ?_⟩⟩
        have z := el_zipB (K := K) (te := tCallD spBetween (tCons (tVar 4) (tCons (tVar 5) (tCons (tVar 6) tNil)))) (ta := tCons (tVar 1) (tCons (tVar 3) tNil)) (j1 := 4) (j2 := 5) (j3 := 6) (vs := [4, 5, 6]) (σ := [some (V.ref a), some (V.ref c), some u1, some (V.ref e), none, none, none]) (H := H) (f := fun e p => geO e p.1 && leO e p.2)
          (Evl.ea_cons (Evl.ev_var (v := .ref c) rfl) (Evl.ea_cons (Evl.ev_var (v := .ref e) rfl) Evl.ea_nil)) sc se ze hl (by omega) (fun _ _ _ => rfl)
          (fun i h1 h2 H1 e1 => ev_callD (Evl.ea_cons (Evl.ev_var (v := .int x[i]) rfl) (Evl.ea_cons (Evl.ev_var (v := oV rs[i].1) rfl) (Evl.ea_cons (Evl.ev_var (v := oV rs[i].2) rfl) Evl.ea_nil))) fun H2 e2 Q q => ⟨x[i], rs[i].1, rs[i].2, rfl, q⟩)
        exact Evl.s_ret (D := { nx := fun _ H' => Q .non H', rt := Q }) (v := .bl (boxR rs x)) (Evl.ev_is (ev_all z) rfl) k
end
end U

set_option Elab.async false
set_option linter.all false
set_option maxRecDepth 100000
set_option maxHeartbeats 4000000
namespace U
open PySem L2
open Evl (Ex)
abbrev s_says : Stmt := top 14
abbrev sc_says_N : List Str := ["rule", "point", "word", "plain_says"]
theorem sc_says : FnScope sc_says_N ["rule", "point"] (defScope s_says) := ⟨rfl, rfl, rfl, by decide +kernel, rfl, by decide +kernel, by decide +kernel⟩
/-- rules -/
inductive Rl where
  | half (ws : List Int) (b : Int)
  | box (rs : List (Option Int × Option Int))
  | rise (cs : List (List (Option Int)))
  | flat (ps : List (List Int))
  | turns (f : Bool) (cs : List Int)
  | no (r : Rl)
  | both (r s : Rl)
  | either (r s : Rl)
  | first (r : Rl)
  | second (r : Rl)
/-- a rule as data, with tuples (t) or lists -/
def rlD (t : Bool) : Rl → PyData
  | .half ws b => sq t [.str "half", sq t (ws.map .int), .int b]
  | .box rs => sq t [.str "box", sq t (rs.map (rgD t))]
  | .rise cs => sq t [.str "rise", sq t (cs.map fun c => sq t (c.map oD))]
  | .flat ps => sq t [.str "flat", sq t (ps.map fun y => sq t (y.map .int))]
  | .turns f cs => sq t [.str "turns", .bool f, sq t (cs.map .int)]
  | .no r => sq t [.str "not", rlD t r]
  | .both r s => sq t [.str "both", rlD t r, rlD t s]
  | .either r s => sq t [.str "either", rlD t r, rlD t s]
  | .first r => sq t [.str "first", rlD t r]
  | .second r => sq t [.str "second", rlD t r]
/-- of d places, no greater than the laws draw -/
def okR (d : Nat) : Rl → Prop
  | .half ws b => ws.length = d ∧ smallE ws
  | .box rs => rs.length = d
  | .rise cs => (∀ c ∈ cs, c.length = d) ∧ cs.length ≤ 1000
  | .flat ps => (∀ y ∈ ps, y.length = d) ∧ ps.length ≤ 3 ∧ ∀ y ∈ ps, Bits 59 y
  | .turns f cs => d = 1 ∧ cs.length ≤ 1000
  | .no r => okR d r
  | .both r s => okR d r ∧ okR d s
  | .either r s => okR d r ∧ okR d s
  | .first r => okR d r
  | .second r => okR d r
def depR : Rl → Nat
  | .no r => depR r + 1
  | .both r s => max (depR r) (depR s) + 1
  | .either r s => max (depR r) (depR s) + 1
  | .first r => depR r + 1
  | .second r => depR r + 1
  | _ => 0
/-- what a rule says -/
def sayR (x : List Int) : Rl → Bool
  | .half ws b => decide (dot ws x ≥ b)
  | .box rs => boxR rs x
  | .rise cs => cs.any (aboveR x)
  | .flat ps => flatR ps x
  | .turns f cs => turnsR f cs (x.getD 0 0)
  | .no r => !sayR x r
  | .both r s => sayR x r && sayR x s
  | .either r s => sayR x r || sayR x s
  | .first r => sayR x r
  | .second r => sayR x r
def spSays (K : PySem.W.Frag) (n : Nat) : Sp := fun vs H Q _ => ∃ v w t r x, vs = [v, w] ∧ Dp K H v (rlD t r) ∧ Dp K H w (sq t ((x : List Int).map .int)) ∧ okR x.length r ∧ depR r ≤ n ∧ x.length ≤ 100 ∧ Bits 59 x ∧ ∀ H', Ex H H' → Q (.bl (sayR x r)) H'
def spSaysP (K : PySem.W.Frag) : Nat → Sp
  | 0 => fun _ _ _ _ => False
  | n + 1 => spSays K n
def tabS (K : PySem.W.Frag) (fh fb fr ff ft : Addr) : Addr → Option Sp := fun f => if f = fh then some (spHalf K) else if f = fb then some (spBox K) else if f = fr then some (spRise K) else if f = ff then some (spFlat K) else if f = ft then some (spTurns K) else none
structure PlainT (P : Program) (w : World) (K : PySem.W.Frag) (mg : Str → Option Value) (base : Heap) (DP fh fb fr ff ft : Addr) : Prop where
  gP : mg "_PLAIN" = some (.ref DP)
  held : ∀ f sp, tabS K fh fb fr ff ft f = some sp → Held P w K mg base 4 f sp
  kh : KDct K w DP "half" (.ref fh)
  kb : KDct K w DP "box" (.ref fb)
  kr : KDct K w DP "rise" (.ref fr)
  kf : KDct K w DP "flat" (.ref ff)
  kt : KDct K w DP "turns" (.ref ft)
  nd : [fh, fb, fr, ff, ft].Nodup
section
variable {P : Program} {w : World} {K : PySem.W.Frag} {mg : Str → Option Value} {base : Heap} {DP fh fb fr ff ft : Addr}
theorem bits_59 {x : List Int} (h : Bits 59 x) : Bits 60 x := bits_up h (by decide)
theorem tab_fh (nd : [fh, fb, fr, ff, ft].Nodup) : tabS K fh fb fr ff ft fh = some (spHalf K) := by
  simp [tabS]
theorem tab_fb (nd : [fh, fb, fr, ff, ft].Nodup) : tabS K fh fb fr ff ft fb = some (spBox K) := by
  simp at nd
  have h1 : ¬ fb = fh := fun e => nd.1.1 e.symm
  simp [tabS, h1]
theorem tab_fr (nd : [fh, fb, fr, ff, ft].Nodup) : tabS K fh fb fr ff ft fr = some (spRise K) := by
  simp at nd
  have h1 : ¬ fr = fh := fun e => nd.1.2.1 e.symm
  have h2 : ¬ fr = fb := fun e => nd.2.1.1 e.symm
  simp [tabS, h1, h2]
theorem tab_ff (nd : [fh, fb, fr, ff, ft].Nodup) : tabS K fh fb fr ff ft ff = some (spFlat K) := by
  simp at nd
  have h1 : ¬ ff = fh := fun e => nd.1.2.2.1 e.symm
  have h2 : ¬ ff = fb := fun e => nd.2.1.2.1 e.symm
  have h3 : ¬ ff = fr := fun e => nd.2.2.1.1 e.symm
  simp [tabS, h1, h2, h3]
theorem tab_ft (nd : [fh, fb, fr, ff, ft].Nodup) : tabS K fh fb fr ff ft ft = some (spTurns K) := by
  simp at nd
  have h1 : ¬ ft = fh := fun e => nd.1.2.2.2 e.symm
  have h2 : ¬ ft = fb := fun e => nd.2.1.2.2 e.symm
  have h3 : ¬ ft = fr := fun e => nd.2.2.1.2 e.symm
  have h4 : ¬ ft = ff := fun e => nd.2.2.2 e.symm
  simp [tabS, h1, h2, h3, h4]
theorem one_pt {t : Bool} {u : V} {H : Hp} {x : List Int} (h : x.length = 1) (hu : Dp K H u (sq t (x.map .int))) : Dp K H u (sq t [.int (x.getD 0 0)]) := by
  match x, h with
  | [y], _ => exact hu
theorem says_body {f : Addr} {fd : FuncData} (F : Fun K "says" "says" s_says f fd) (T : TxR mg) (Y : PlainT P w K mg base DP fh fb fr ff ft) (n : Nat) (D_says : DefAt P w K mg base "says" (n + 4) ["rule", "point"] (spSaysP K n)) : FnOk P w K mg base CX0 (n + 5) f fd ["rule", "point"] (spSays K n) := by
  refine F.ok sc_says (fun vs H Q E h => ?_) (fun cdv A outer s H vs Q E hr h => ?_)
  · obtain ⟨_, _, _, _, _, rfl, _⟩ := h
    rfl
  · obtain ⟨v, u, t, r, x, rfl, hv, hu, hok, hdep, hz, hbx, k⟩ := h
    refine ⟨_, (pss_cons (ps_set (i := 2) sc_says.nd rfl (by first | exact Or.inl rfl | exact Or.inr rfl) (pe_ix ix_seq (pv 0) pe_int (fun _ _ => rfl)))
    (pss_cons (ps_if (pt_cmpR op_eq (pv 2) pe_str (nomark _)) (pss_one (ps_ret (pe_not (pe_callD D_says (by first | exact hr | exact hr.mono (by decide) | exact hr.mono (by omega)) (by rfl) (pa_cons (pe_ix ix_seq (pv 0) pe_int (fun _ _ => rfl)) (pa_cons (pv 1) pa_nil)))))) pss_nil)
    (pss_cons (ps_if (pt_cmpR op_eq (pv 2) pe_str (nomark _)) (pss_one (ps_ret (pe_and (pe_callD D_says (by first | exact hr | exact hr.mono (by decide) | exact hr.mono (by omega)) (by rfl) (pa_cons (pe_ix ix_seq (pv 0) pe_int (fun _ _ => rfl)) (pa_cons (pv 1) pa_nil))) (pe_one (pe_callD D_says (by first | exact hr | exact hr.mono (by decide) | exact hr.mono (by omega)) (by rfl) (pa_cons (pe_ix ix_seq (pv 0) pe_int (fun _ _ => rfl)) (pa_cons (pv 1) pa_nil))))))) pss_nil)
    (pss_cons (ps_if (pt_cmpR op_eq (pv 2) pe_str (nomark _)) (pss_one (ps_ret (pe_or (pe_callD D_says (by first | exact hr | exact hr.mono (by decide) | exact hr.mono (by omega)) (by rfl) (pa_cons (pe_ix ix_seq (pv 0) pe_int (fun _ _ => rfl)) (pa_cons (pv 1) pa_nil))) (pe_one (pe_callD D_says (by first | exact hr | exact hr.mono (by decide) | exact hr.mono (by omega)) (by rfl) (pa_cons (pe_ix ix_seq (pv 0) pe_int (fun _ _ => rfl)) (pa_cons (pv 1) pa_nil))))))) pss_nil)
    (pss_cons (ps_if (pt_cmpR op_in_seq (pv 2) (pe_tup (pa_cons pe_str (pa_cons pe_str pa_nil))) (by rfl)) (pss_one (ps_ret (pe_callD D_says (by first | exact hr | exact hr.mono (by decide) | exact hr.mono (by omega)) (by rfl) (pa_cons (pe_ix ix_seq (pv 0) pe_int (fun _ _ => rfl)) (pa_cons (pv 1) pa_nil))))) pss_nil)
    (pss_cons (ps_set (i := 3) sc_says.nd rfl (by first | exact Or.inl rfl | exact Or.inr rfl) (pe_ix ix_kdict (pe_glob (v := .ref DP) (by rfl) Y.gP rfl) (pv 2) (fun _ _ => rfl)))
    (pss_one (ps_ret (pe_callA (i := 3) (S := tabS K fh fb fr ff ft) Y.held (by first | exact hr | exact hr.mono (by decide) | exact hr.mono (by omega)) rfl (by first | exact Or.inl rfl | exact Or.inr rfl) (pa_cons (pv 0) (pa_cons (pv 1) pa_nil))))))))))), ?_⟩
    have v0 : ∀ σ : L2.St, σ[0]? = some (some v) → ∀ H1, Evl.Ev (tVar 0) σ H1 v := fun σ h H1 => Evl.ev_var h
    have sub : ∀ (σ : L2.St) (i : Int) (a : Addr) (ys : List V) (y : V) (r1 : Rl) (H1 : Hp), v = .ref a → σ[0]? = some (some v) → σ[1]? = some (some u) → SqA K H t a ys → atI ys i = some y → Dp K H y (rlD t r1) → okR x.length r1 → depR r1 + 1 ≤ n → Ex H H1 →
        Evl.Ev (tCallD (spSaysP K n) (tCons (tOp (rIxA K) (tVar 0) (tC (.int i))) (tCons (tVar 1) tNil))) σ H1 (.bl (sayR x r1)) := by
      intro σ i a ys y r1 H1 ea h0 h1 hs hy hd ho hn e1
      subst ea
      refine ev_callD (Evl.ea_cons (ev_ixAR (Evl.ev_var h0) (hs.up e1).or hy) (Evl.ea_cons (Evl.ev_var h1) Evl.ea_nil)) fun H2 e2 Q q => ?_
      obtain ⟨m, rfl⟩ : ∃ m, n = m + 1 := ⟨n - 1, by omega⟩
      exact ⟨y, u, t, r1, x, rfl, hd.up (e1.trans e2), hu.up (e1.trans e2), ho, by omega, hz, hbx, q⟩
    cases r with
    | half ws b =>
      have hv0 := hv
      obtain ⟨a, ys, rfl, sa, ya⟩ := sq_inv hv
      cases ya with
      | @cons u0 _ _ _ r0 q0 =>
        cases r0
        cases q0 with
        | @cons u1 _ _ _ r1 q1 =>
          cases q1 with
          | @cons u2 _ _ _ r2 q2 =>
            cases q2
            refine Evl.q_asg (v := .str "half") (ev_ixAR (Evl.ev_var (v := .ref a) rfl) sa.or rfl) fun H1 e1 => ?_
            refine Evl.q_when (b := false) (Evl.et_is (Evl.et_test (Evl.ev_op (Evl.ev_var (v := .str "half") rfl) Evl.ev_c (Evl.rv_eq rfl))) (by decide)) (fun z => nomatch z) (fun _ H2 e2 => ?_)
            refine Evl.q_when (b := false) (Evl.et_is (Evl.et_test (Evl.ev_op (Evl.ev_var (v := .str "half") rfl) Evl.ev_c (Evl.rv_eq rfl))) (by decide)) (fun z => nomatch z) (fun _ H3 e3 => ?_)
            refine Evl.q_when (b := false) (Evl.et_is (Evl.et_test (Evl.ev_op (Evl.ev_var (v := .str "half") rfl) Evl.ev_c (Evl.rv_eq rfl))) (by decide)) (fun z => nomatch z) (fun _ H4 e4 => ?_)
            refine Evl.q_when (b := false) (Evl.et_is (Evl.et_test (Evl.ev_inU (Evl.ev_var (v := .str "half") rfl) (Evl.eu_tup (Evl.ea_cons Evl.ev_c (Evl.ea_cons Evl.ev_c Evl.ea_nil)) (by show 2 ≤ 100000; omega)) rfl rfl)) (by decide)) (fun z => nomatch z) (fun _ H5 e5 => ?_)
            refine Evl.q_asg (v := .ref fh) (Evl.ev_op Evl.ev_c (Evl.ev_var (v := .str "half") rfl) (fun H6 e6 Q q => ⟨DP, "half", _, rfl, rfl, Y.kh, q H6 (Ex.refl _)⟩)) fun H6 e6 => ?_
            have eA := ((((e1.trans e2).trans e3).trans e4).trans e5).trans e6
            exact Evl.s_ret (D := { nx := fun _ H' => Q .non H', rt := Q }) (v := .bl (sayR x (.half ws b))) (fun H7 e7 Q q => ⟨fh, spHalf K, rfl, tab_fh Y.nd, _, rfl, _, rfl, ⟨.ref a, u, t, ws, b, x, rfl, hv0.up (eA.trans e7), hu.up (eA.trans e7), hok.1, hz, hok.2, q⟩⟩) fun H7 e7 => k H7 (eA.trans e7)
    | box rs =>
      have hv0 := hv
      obtain ⟨a, ys, rfl, sa, ya⟩ := sq_inv hv
      cases ya with
      | @cons u0 _ _ _ r0 q0 =>
        cases r0
        cases q0 with
        | @cons u1 _ _ _ r1 q1 =>
          cases q1
          refine Evl.q_asg (v := .str "box") (ev_ixAR (Evl.ev_var (v := .ref a) rfl) sa.or rfl) fun H1 e1 => ?_
          refine Evl.q_when (b := false) (Evl.et_is (Evl.et_test (Evl.ev_op (Evl.ev_var (v := .str "box") rfl) Evl.ev_c (Evl.rv_eq rfl))) (by decide)) (fun z => nomatch z) (fun _ H2 e2 => ?_)
          refine Evl.q_when (b := false) (Evl.et_is (Evl.et_test (Evl.ev_op (Evl.ev_var (v := .str "box") rfl) Evl.ev_c (Evl.rv_eq rfl))) (by decide)) (fun z => nomatch z) (fun _ H3 e3 => ?_)
          refine Evl.q_when (b := false) (Evl.et_is (Evl.et_test (Evl.ev_op (Evl.ev_var (v := .str "box") rfl) Evl.ev_c (Evl.rv_eq rfl))) (by decide)) (fun z => nomatch z) (fun _ H4 e4 => ?_)
          refine Evl.q_when (b := false) (Evl.et_is (Evl.et_test (Evl.ev_inU (Evl.ev_var (v := .str "box") rfl) (Evl.eu_tup (Evl.ea_cons Evl.ev_c (Evl.ea_cons Evl.ev_c Evl.ea_nil)) (by show 2 ≤ 100000; omega)) rfl rfl)) (by decide)) (fun z => nomatch z) (fun _ H5 e5 => ?_)
          refine Evl.q_asg (v := .ref fb) (Evl.ev_op Evl.ev_c (Evl.ev_var (v := .str "box") rfl) (fun H6 e6 Q q => ⟨DP, "box", _, rfl, rfl, Y.kb, q H6 (Ex.refl _)⟩)) fun H6 e6 => ?_
          have eA := ((((e1.trans e2).trans e3).trans e4).trans e5).trans e6
          exact Evl.s_ret (D := { nx := fun _ H' => Q .non H', rt := Q }) (v := .bl (sayR x (.box rs))) (fun H7 e7 Q q => ⟨fb, spBox K, rfl, tab_fb Y.nd, _, rfl, _, rfl, ⟨.ref a, u, t, rs, x, rfl, hv0.up (eA.trans e7), hu.up (eA.trans e7), hok, hz, q⟩⟩) fun H7 e7 => k H7 (eA.trans e7)
    | rise cs =>
      have hv0 := hv
      obtain ⟨a, ys, rfl, sa, ya⟩ := sq_inv hv
      cases ya with
      | @cons u0 _ _ _ r0 q0 =>
        cases r0
        cases q0 with
        | @cons u1 _ _ _ r1 q1 =>
          cases q1
          refine Evl.q_asg (v := .str "rise") (ev_ixAR (Evl.ev_var (v := .ref a) rfl) sa.or rfl) fun H1 e1 => ?_
          refine Evl.q_when (b := false) (Evl.et_is (Evl.et_test (Evl.ev_op (Evl.ev_var (v := .str "rise") rfl) Evl.ev_c (Evl.rv_eq rfl))) (by decide)) (fun z => nomatch z) (fun _ H2 e2 => ?_)
          refine Evl.q_when (b := false) (Evl.et_is (Evl.et_test (Evl.ev_op (Evl.ev_var (v := .str "rise") rfl) Evl.ev_c (Evl.rv_eq rfl))) (by decide)) (fun z => nomatch z) (fun _ H3 e3 => ?_)
          refine Evl.q_when (b := false) (Evl.et_is (Evl.et_test (Evl.ev_op (Evl.ev_var (v := .str "rise") rfl) Evl.ev_c (Evl.rv_eq rfl))) (by decide)) (fun z => nomatch z) (fun _ H4 e4 => ?_)
          refine Evl.q_when (b := false) (Evl.et_is (Evl.et_test (Evl.ev_inU (Evl.ev_var (v := .str "rise") rfl) (Evl.eu_tup (Evl.ea_cons Evl.ev_c (Evl.ea_cons Evl.ev_c Evl.ea_nil)) (by show 2 ≤ 100000; omega)) rfl rfl)) (by decide)) (fun z => nomatch z) (fun _ H5 e5 => ?_)
          refine Evl.q_asg (v := .ref fr) (Evl.ev_op Evl.ev_c (Evl.ev_var (v := .str "rise") rfl) (fun H6 e6 Q q => ⟨DP, "rise", _, rfl, rfl, Y.kr, q H6 (Ex.refl _)⟩)) fun H6 e6 => ?_
          have eA := ((((e1.trans e2).trans e3).trans e4).trans e5).trans e6
          exact Evl.s_ret (D := { nx := fun _ H' => Q .non H', rt := Q }) (v := .bl (sayR x (.rise cs))) (fun H7 e7 Q q => ⟨fr, spRise K, rfl, tab_fr Y.nd, _, rfl, _, rfl, ⟨.ref a, u, t, cs, x, rfl, hv0.up (eA.trans e7), hu.up (eA.trans e7), hok.1, hz, hok.2, q⟩⟩) fun H7 e7 => k H7 (eA.trans e7)
    | flat ps =>
      have hv0 := hv
      obtain ⟨a, ys, rfl, sa, ya⟩ := sq_inv hv
      cases ya with
      | @cons u0 _ _ _ r0 q0 =>
        cases r0
        cases q0 with
        | @cons u1 _ _ _ r1 q1 =>
          cases q1
          refine Evl.q_asg (v := .str "flat") (ev_ixAR (Evl.ev_var (v := .ref a) rfl) sa.or rfl) fun H1 e1 => ?_
          refine Evl.q_when (b := false) (Evl.et_is (Evl.et_test (Evl.ev_op (Evl.ev_var (v := .str "flat") rfl) Evl.ev_c (Evl.rv_eq rfl))) (by decide)) (fun z => nomatch z) (fun _ H2 e2 => ?_)
          refine Evl.q_when (b := false) (Evl.et_is (Evl.et_test (Evl.ev_op (Evl.ev_var (v := .str "flat") rfl) Evl.ev_c (Evl.rv_eq rfl))) (by decide)) (fun z => nomatch z) (fun _ H3 e3 => ?_)
          refine Evl.q_when (b := false) (Evl.et_is (Evl.et_test (Evl.ev_op (Evl.ev_var (v := .str "flat") rfl) Evl.ev_c (Evl.rv_eq rfl))) (by decide)) (fun z => nomatch z) (fun _ H4 e4 => ?_)
          refine Evl.q_when (b := false) (Evl.et_is (Evl.et_test (Evl.ev_inU (Evl.ev_var (v := .str "flat") rfl) (Evl.eu_tup (Evl.ea_cons Evl.ev_c (Evl.ea_cons Evl.ev_c Evl.ea_nil)) (by show 2 ≤ 100000; omega)) rfl rfl)) (by decide)) (fun z => nomatch z) (fun _ H5 e5 => ?_)
          refine Evl.q_asg (v := .ref ff) (Evl.ev_op Evl.ev_c (Evl.ev_var (v := .str "flat") rfl) (fun H6 e6 Q q => ⟨DP, "flat", _, rfl, rfl, Y.kf, q H6 (Ex.refl _)⟩)) fun H6 e6 => ?_
          have eA := ((((e1.trans e2).trans e3).trans e4).trans e5).trans e6
          exact Evl.s_ret (D := { nx := fun _ H' => Q .non H', rt := Q }) (v := .bl (sayR x (.flat ps))) (fun H7 e7 Q q => ⟨ff, spFlat K, rfl, tab_ff Y.nd, _, rfl, _, rfl, ⟨.ref a, u, t, ps, x, rfl, hv0.up (eA.trans e7), hu.up (eA.trans e7), hok.1, hz, hok.2.1, fun y hy => bits_59 (hok.2.2 y hy), bits_59 hbx, q⟩⟩) fun H7 e7 => k H7 (eA.trans e7)
    | turns f0 cs =>
      have hv0 := hv
      obtain ⟨a, ys, rfl, sa, ya⟩ := sq_inv hv
      cases ya with
      | @cons u0 _ _ _ r0 q0 =>
        cases r0
        cases q0 with
        | @cons u1 _ _ _ r1 q1 =>
          cases q1 with
          | @cons u2 _ _ _ r2 q2 =>
            cases q2
            refine Evl.q_asg (v := .str "turns") (ev_ixAR (Evl.ev_var (v := .ref a) rfl) sa.or rfl) fun H1 e1 => ?_
            refine Evl.q_when (b := false) (Evl.et_is (Evl.et_test (Evl.ev_op (Evl.ev_var (v := .str "turns") rfl) Evl.ev_c (Evl.rv_eq rfl))) (by decide)) (fun z => nomatch z) (fun _ H2 e2 => ?_)
            refine Evl.q_when (b := false) (Evl.et_is (Evl.et_test (Evl.ev_op (Evl.ev_var (v := .str "turns") rfl) Evl.ev_c (Evl.rv_eq rfl))) (by decide)) (fun z => nomatch z) (fun _ H3 e3 => ?_)
            refine Evl.q_when (b := false) (Evl.et_is (Evl.et_test (Evl.ev_op (Evl.ev_var (v := .str "turns") rfl) Evl.ev_c (Evl.rv_eq rfl))) (by decide)) (fun z => nomatch z) (fun _ H4 e4 => ?_)
            refine Evl.q_when (b := false) (Evl.et_is (Evl.et_test (Evl.ev_inU (Evl.ev_var (v := .str "turns") rfl) (Evl.eu_tup (Evl.ea_cons Evl.ev_c (Evl.ea_cons Evl.ev_c Evl.ea_nil)) (by show 2 ≤ 100000; omega)) rfl rfl)) (by decide)) (fun z => nomatch z) (fun _ H5 e5 => ?_)
            refine Evl.q_asg (v := .ref ft) (Evl.ev_op Evl.ev_c (Evl.ev_var (v := .str "turns") rfl) (fun H6 e6 Q q => ⟨DP, "turns", _, rfl, rfl, Y.kt, q H6 (Ex.refl _)⟩)) fun H6 e6 => ?_
            have eA := ((((e1.trans e2).trans e3).trans e4).trans e5).trans e6
            exact Evl.s_ret (D := { nx := fun _ H' => Q .non H', rt := Q }) (v := .bl (sayR x (.turns f0 cs))) (fun H7 e7 Q q => ⟨ft, spTurns K, rfl, tab_ft Y.nd, _, rfl, _, rfl, ⟨.ref a, u, t, f0, cs, x.getD 0 0, rfl, hv0.up (eA.trans e7), (one_pt hok.1 hu).up (eA.trans e7), hok.2, q⟩⟩) fun H7 e7 => k H7 (eA.trans e7)
    | no r1' =>
      obtain ⟨a, ys, rfl, sa, ya⟩ := sq_inv hv
      cases ya with
      | @cons u0 _ _ _ r0 q0 =>
        cases r0
        cases q0 with
        | @cons u1 _ _ _ r1 q1 =>
          cases q1
          refine Evl.q_asg (v := .str "not") (ev_ixAR (Evl.ev_var (v := .ref a) rfl) sa.or rfl) fun H1 e1 => ?_
          refine Evl.q_when (b := true) (Evl.et_is (Evl.et_test (Evl.ev_op (Evl.ev_var (v := .str "not") rfl) Evl.ev_c (Evl.rv_eq rfl))) (by decide)) (fun _ H2 e2 => ?_) (fun z => nomatch z)
          have eA := e1.trans e2
          exact Evl.s_ret (D := { nx := fun _ H' => Q .non H', rt := Q }) (v := .bl (sayR x (.no r1'))) (Evl.ev_notV (sub _ 1 a _ u1 r1' _ rfl rfl rfl sa rfl r1 hok (by have : depR r1' + 1 ≤ n := hdep; omega) eA)) fun H7 e7 => k H7 (eA.trans e7)
    | both r1' r2' =>
      obtain ⟨a, ys, rfl, sa, ya⟩ := sq_inv hv
      cases ya with
      | @cons u0 _ _ _ r0 q0 =>
        cases r0
        cases q0 with
        | @cons u1 _ _ _ r1 q1 =>
          cases q1 with
          | @cons u2 _ _ _ r2 q2 =>
            cases q2
            refine Evl.q_asg (v := .str "both") (ev_ixAR (Evl.ev_var (v := .ref a) rfl) sa.or rfl) fun H1 e1 => ?_
            refine Evl.q_when (b := false) (Evl.et_is (Evl.et_test (Evl.ev_op (Evl.ev_var (v := .str "both") rfl) Evl.ev_c (Evl.rv_eq rfl))) (by decide)) (fun z => nomatch z) (fun _ H2 e2 => ?_)
            refine Evl.q_when (b := true) (Evl.et_is (Evl.et_test (Evl.ev_op (Evl.ev_var (v := .str "both") rfl) Evl.ev_c (Evl.rv_eq rfl))) (by decide)) (fun _ H3 e3 => ?_) (fun z => nomatch z)
            have eA := (e1.trans e2).trans e3
            exact Evl.s_ret (D := { nx := fun _ H' => Q .non H', rt := Q }) (v := .bl (sayR x (.both r1' r2'))) (Evl.ev_andV (sub _ 1 a _ u1 r1' _ rfl rfl rfl sa rfl r1 hok.1 (by have : max (depR r1') (depR r2') + 1 ≤ n := hdep; omega) eA) fun _ => sub _ 2 a _ u2 r2' _ rfl rfl rfl sa rfl r2 hok.2 (by have : max (depR r1') (depR r2') + 1 ≤ n := hdep; omega) eA) fun H7 e7 => k H7 (eA.trans e7)
    | either r1' r2' =>
      obtain ⟨a, ys, rfl, sa, ya⟩ := sq_inv hv
      cases ya with
      | @cons u0 _ _ _ r0 q0 =>
        cases r0
        cases q0 with
        | @cons u1 _ _ _ r1 q1 =>
          cases q1 with
          | @cons u2 _ _ _ r2 q2 =>
            cases q2
            refine Evl.q_asg (v := .str "either") (ev_ixAR (Evl.ev_var (v := .ref a) rfl) sa.or rfl) fun H1 e1 => ?_
            refine Evl.q_when (b := false) (Evl.et_is (Evl.et_test (Evl.ev_op (Evl.ev_var (v := .str "either") rfl) Evl.ev_c (Evl.rv_eq rfl))) (by decide)) (fun z => nomatch z) (fun _ H2 e2 => ?_)
            refine Evl.q_when (b := false) (Evl.et_is (Evl.et_test (Evl.ev_op (Evl.ev_var (v := .str "either") rfl) Evl.ev_c (Evl.rv_eq rfl))) (by decide)) (fun z => nomatch z) (fun _ H3 e3 => ?_)
            refine Evl.q_when (b := true) (Evl.et_is (Evl.et_test (Evl.ev_op (Evl.ev_var (v := .str "either") rfl) Evl.ev_c (Evl.rv_eq rfl))) (by decide)) (fun _ H4 e4 => ?_) (fun z => nomatch z)
            have eA := ((e1.trans e2).trans e3).trans e4
            exact Evl.s_ret (D := { nx := fun _ H' => Q .non H', rt := Q }) (v := .bl (sayR x (.either r1' r2'))) (Evl.ev_orV (sub _ 1 a _ u1 r1' _ rfl rfl rfl sa rfl r1 hok.1 (by have : max (depR r1') (depR r2') + 1 ≤ n := hdep; omega) eA) fun _ => sub _ 2 a _ u2 r2' _ rfl rfl rfl sa rfl r2 hok.2 (by have : max (depR r1') (depR r2') + 1 ≤ n := hdep; omega) eA) fun H7 e7 => k H7 (eA.trans e7)
    | first r1' =>
      obtain ⟨a, ys, rfl, sa, ya⟩ := sq_inv hv
      cases ya with
      | @cons u0 _ _ _ r0 q0 =>
        cases r0
        cases q0 with
        | @cons u1 _ _ _ r1 q1 =>
          cases q1
          refine Evl.q_asg (v := .str "first") (ev_ixAR (Evl.ev_var (v := .ref a) rfl) sa.or rfl) fun H1 e1 => ?_
          refine Evl.q_when (b := false) (Evl.et_is (Evl.et_test (Evl.ev_op (Evl.ev_var (v := .str "first") rfl) Evl.ev_c (Evl.rv_eq rfl))) (by decide)) (fun z => nomatch z) (fun _ H2 e2 => ?_)
          refine Evl.q_when (b := false) (Evl.et_is (Evl.et_test (Evl.ev_op (Evl.ev_var (v := .str "first") rfl) Evl.ev_c (Evl.rv_eq rfl))) (by decide)) (fun z => nomatch z) (fun _ H3 e3 => ?_)
          refine Evl.q_when (b := false) (Evl.et_is (Evl.et_test (Evl.ev_op (Evl.ev_var (v := .str "first") rfl) Evl.ev_c (Evl.rv_eq rfl))) (by decide)) (fun z => nomatch z) (fun _ H4 e4 => ?_)
          refine Evl.q_when (b := true) (Evl.et_is (Evl.et_test (Evl.ev_inU (Evl.ev_var (v := .str "first") rfl) (Evl.eu_tup (Evl.ea_cons Evl.ev_c (Evl.ea_cons Evl.ev_c Evl.ea_nil)) (by show 2 ≤ 100000; omega)) rfl rfl)) (by decide)) (fun _ H5 e5 => ?_) (fun z => nomatch z)
          have eA := (((e1.trans e2).trans e3).trans e4).trans e5
          exact Evl.s_ret (D := { nx := fun _ H' => Q .non H', rt := Q }) (v := .bl (sayR x (.first r1'))) (sub _ 1 a _ u1 r1' _ rfl rfl rfl sa rfl r1 hok (by have : depR r1' + 1 ≤ n := hdep; omega) eA) fun H7 e7 => k H7 (eA.trans e7)
    | second r1' =>
      obtain ⟨a, ys, rfl, sa, ya⟩ := sq_inv hv
      cases ya with
      | @cons u0 _ _ _ r0 q0 =>
        cases r0
        cases q0 with
        | @cons u1 _ _ _ r1 q1 =>
          cases q1
          refine Evl.q_asg (v := .str "second") (ev_ixAR (Evl.ev_var (v := .ref a) rfl) sa.or rfl) fun H1 e1 => ?_
          refine Evl.q_when (b := false) (Evl.et_is (Evl.et_test (Evl.ev_op (Evl.ev_var (v := .str "second") rfl) Evl.ev_c (Evl.rv_eq rfl))) (by decide)) (fun z => nomatch z) (fun _ H2 e2 => ?_)
          refine Evl.q_when (b := false) (Evl.et_is (Evl.et_test (Evl.ev_op (Evl.ev_var (v := .str "second") rfl) Evl.ev_c (Evl.rv_eq rfl))) (by decide)) (fun z => nomatch z) (fun _ H3 e3 => ?_)
          refine Evl.q_when (b := false) (Evl.et_is (Evl.et_test (Evl.ev_op (Evl.ev_var (v := .str "second") rfl) Evl.ev_c (Evl.rv_eq rfl))) (by decide)) (fun z => nomatch z) (fun _ H4 e4 => ?_)
          refine Evl.q_when (b := true) (Evl.et_is (Evl.et_test (Evl.ev_inU (Evl.ev_var (v := .str "second") rfl) (Evl.eu_tup (Evl.ea_cons Evl.ev_c (Evl.ea_cons Evl.ev_c Evl.ea_nil)) (by show 2 ≤ 100000; omega)) rfl rfl)) (by decide)) (fun _ H5 e5 => ?_) (fun z => nomatch z)
          have eA := (((e1.trans e2).trans e3).trans e4).trans e5
          exact Evl.s_ret (D := { nx := fun _ H' => Q .non H', rt := Q }) (v := .bl (sayR x (.second r1'))) (sub _ 1 a _ u1 r1' _ rfl rfl rfl sa rfl r1 hok (by have : depR r1' + 1 ≤ n := hdep; omega) eA) fun H7 e7 => k H7 (eA.trans e7)
end
end U

set_option Elab.async false
set_option linter.all false
set_option maxRecDepth 100000
set_option maxHeartbeats 4000000
namespace U
open PySem L2
open Evl (Ex)
abbrev s_relations : Stmt := top 23
abbrev sc_relations_N : List Str := ["_law_points", "_law_heads", "_law_found", "_law_at", "_law_point_here", "_law_row", "_law_lead", "_law_head", "_law_some", "_law_k", "_law_entry", "_law_other"]
theorem sc_relations : FnScope sc_relations_N ["_law_points"] (defScope s_relations) := ⟨rfl, rfl, rfl, by decide +kernel, rfl, by decide +kernel, by decide +kernel⟩
def tD (y : List Int) : PyData := .tuple (y.map .int)
/-- the places of the first m entries that are not 0 -/
def ksOf (m : Nat) (r : List Int) : List Nat := (List.range m).filter fun k => !decide (V.int (r.getD k 0) = V.int 0)
theorem leadF_head : ∀ (s : List Int) (i : Nat) (r : List Int), (∀ k, k < s.length → r.getD (i + k) 0 = s.getD k 0) → leadF s i = (((List.range' i s.length).filter fun k => !decide (V.int (r.getD k 0) = V.int 0))).head?
  | [], _, _, _ => rfl
  | x :: s, i, r, h => by
    have h0 := h 0 (by simp)
    rw [Nat.add_zero, List.getD_cons_zero] at h0
    rw [List.length_cons, List.range'_succ, List.filter_cons, h0]
    show (if x = 0 then leadF s (i + 1) else some i) = _
    by_cases z : x = 0
    · rw [if_pos z, if_neg (by simp [z])]
      exact leadF_head s (i + 1) r fun k hk => by
        have q := h (k + 1) (by rw [List.length_cons]; omega)
        rw [List.getD_cons_succ] at q
        rw [← q]
        congr 1
        omega
    · rw [if_neg z, if_pos (by simp [z])]
      rfl
theorem ks_head {m : Nat} {r : List Int} (h : m ≤ r.length) : leadF (r.take m) 0 = (ksOf m r).head? := by
  have q := leadF_head (r.take m) 0 r fun k hk => by
    rw [List.length_take] at hk
    rw [Nat.zero_add, List.getD_eq_getElem?_getD, List.getD_eq_getElem?_getD, List.getElem?_take, if_pos (by omega)]
  rw [q, List.length_take, Nat.min_eq_left h]
  unfold ksOf
  rw [List.range_eq_range']
theorem stepL_bits {n k : Nat} {r : List Int} {p : Nat × List Int} (h1 : Bits k r) (h2 : Bits n p.2) : Bits (n + k + 1) (stepL r p) := by
  unfold stepL
  have a := getD_bits h2 p.1
  have b := getD_bits h1 p.1
  intro x hx
  obtain ⟨i, hi, e⟩ := List.getElem_of_mem hx
  rw [List.getElem_zipWith] at e
  rw [List.length_zipWith] at hi
  have q1 := h1 _ (List.getElem_mem (l := r) (n := i) (by omega))
  have q2 := h2 _ (List.getElem_mem (l := p.2) (n := i) (by omega))
  have m1 := wide_lt q1 a
  have m2 := wide_lt b q2
  rw [Nat.add_comm k n] at m1 m2
  have := two_add (n + k)
  rw [← e]
  omega
theorem redL_take {row : List Int} {B : List (Nat × List Int)} {i : Nat} (h : i < B.length) : redL row (B.take (i + 1)) = stepL (redL row (B.take i)) B[i] := by
  unfold redL
  rw [List.take_add_one, List.getElem?_eq_getElem h, List.foldl_append]
  rfl
theorem redL_ok {m n l : Nat} {row : List Int} {B : List (Nat × List Int)} (hl : row.length = l) (hb : Bits n row) (hB : ∀ p ∈ B, p.1 < m ∧ p.2.length = l ∧ Bits n p.2) : ∀ i, i ≤ B.length → (redL row (B.take i)).length = l ∧ Bits (bitsAt n i) (redL row (B.take i))
  | 0, _ => ⟨hl, hb⟩
  | i + 1, hi => by
    obtain ⟨h1, h2⟩ := redL_ok hl hb hB i (by omega)
    obtain ⟨_, q2, q3⟩ := hB B[i] (List.getElem_mem (by omega))
    rw [redL_take (by omega)]
    exact ⟨by rw [stepL_len (by omega), h1], stepL_bits h2 q3⟩
theorem rel_take {m : Nat} {rows : List (List Int)} {i : Nat} (h : i < rows.length) : (rows.take (i + 1)).foldl (relStep m) ([], []) = relStep m ((rows.take i).foldl (relStep m) ([], [])) rows[i] := by
  rw [List.take_add_one, List.getElem?_eq_getElem h, List.foldl_append]
  rfl
theorem rel_ok {m l n : Nat} {rows : List (List Int)} (hl : ∀ r ∈ rows, r.length = l) (hml : m ≤ l) (hb : ∀ r ∈ rows, Bits n r) : ∀ i, i ≤ rows.length → ((rows.take i).foldl (relStep m) ([], [])).1.length ≤ i ∧ ∀ p ∈ ((rows.take i).foldl (relStep m) ([], [])).1, p.1 < m ∧ p.2.length = l ∧ Bits (bitsB n i) p.2
  | 0, _ => ⟨Nat.le_refl _, fun p hp => (nomatch hp)⟩
  | i + 1, hi => by
    obtain ⟨h1, h2⟩ := rel_ok hl hml hb i (by omega)
    have hm : rows[i] ∈ rows := List.getElem_mem (by omega)
    rw [rel_take (by omega)]
    generalize (rows.take i).foldl (relStep m) ([], []) = st at h1 h2 ⊢
    obtain ⟨q1, q2⟩ := redL_ok (hl _ hm) (bits_up (hb _ hm) (bitsB_le n i)) h2 _ (Nat.le_refl _)
    rw [List.take_length] at q1 q2
    have hb2 : Bits (bitsB n (i + 1)) (redL rows[i] st.1) := by
      refine bits_up q2 ?_
      show bitsAt (bitsB n i) _ ≤ bitsAt (bitsB n i) i
      rw [bitsAt_le, bitsAt_le]
      have := Nat.mul_le_mul_left (bitsB n i) (show st.1.length + 1 ≤ i + 1 by omega)
      omega
    have up : ∀ p ∈ st.1, p.1 < m ∧ p.2.length = l ∧ Bits (bitsB n (i + 1)) p.2 := fun p hp => ⟨(h2 p hp).1, (h2 p hp).2.1, bits_up (h2 p hp).2.2 (bitsB_up n i)⟩
    unfold relStep
    split
    · exact ⟨by show st.1.length ≤ _; omega, up⟩
    · rename_i k hlead
      obtain ⟨_, l2, _⟩ := leadF_lt hlead
      rw [List.length_take] at l2
      refine ⟨by show (st.1 ++ [_]).length ≤ _; rw [List.length_append]; simp; omega, fun p hp => ?_⟩
      rcases List.mem_append.mp hp with z | z
      · exact up p z
      · rw [List.mem_singleton.mp z]
        exact ⟨by omega, q1, hb2⟩
def spRel (K : PySem.W.Frag) : Sp := fun vs H Q _ => ∃ v ps d, vs = [v] ∧ Dp K H v (.list ((ps : List (List Int)).map tD)) ∧ (∀ y ∈ ps, y.length = d) ∧ d ≤ 100 ∧ ps.length ≤ 4 ∧ (∀ y ∈ ps, Bits 59 y) ∧
  ∀ t xs H', Ex H H' → H' t = some (.lst xs) → xs.length = relN (d + 1) (rowsL ps.length ps 0) → Q (.ref t) H'
theorem bitsB_4 : bitsB 60 4 ≤ 2000 := by decide
theorem bitsB_small4 {i : Nat} (h : i ≤ 4) : bitsB 60 i ≤ 2000 := by
  rcases Nat.lt_or_ge i 4 with z | z
  · exact Nat.le_trans (bitsB_small (by omega)) (by decide)
  · have : i = 4 := by omega
    rw [this]
    exact bitsB_4
theorem rowsL_get {n : Nat} : ∀ {ps : List (List Int)} {j i : Nat}, (rowsL n ps j)[i]? = (ps[i]?).map (rowL n (j + i))
  | [], _, _ => rfl
  | x :: ps, j, 0 => rfl
  | x :: ps, j, i + 1 => by
    show (rowsL n ps (j + 1))[i]? = _
    rw [rowsL_get, List.getElem?_cons_succ]
    congr 2
    omega
theorem rowsL_length {n : Nat} : ∀ {ps : List (List Int)} {j : Nat}, (rowsL n ps j).length = ps.length
  | [], _ => rfl
  | x :: ps, j => congrArg (· + 1) (rowsL_length (ps := ps))
theorem rowL_bits {n i : Nat} {x : List Int} (h : Bits 59 x) : Bits 60 (rowL n i x) := fun y hy => by
  unfold rowL at hy
  rcases List.mem_append.mp hy with z | z
  · rcases List.mem_append.mp z with z | z
    · exact Nat.lt_of_lt_of_le (h y z) (by decide)
    · rw [List.mem_singleton.mp z]
      decide
  · obtain ⟨k, _, rfl⟩ := List.mem_map.mp z
    split <;> decide
section
variable {K : PySem.W.Frag} {σ : L2.St} {H : Hp} {ta tb te : TE} {xs ys : List V}
theorem el_cat (h1 : Evl.EvL ta σ H xs) (h2 : Evl.EvL tb σ H ys) (hz : xs.length + ys.length ≤ 10000) : Evl.EvL (tOp rCat ta tb) σ H (xs ++ ys) := fun H1 e Q q => h1 H1 e _ fun p1 H2 hp e2 hx => h2 H2 (e.trans e2) _ fun p2 H3 hp2 e3 hy =>
  ⟨p1, p2, xs, ys, rfl, rfl, e3 _ _ hx, hy, Evl.sz_of (by omega), fun r hr => q r _ (Evl.fresh_back (e2.trans e3) hr) ((e2.trans e3).trans (Ex.new hr)) upd_same⟩
theorem el_listT {a : Addr} (h : Evl.Ev te σ H (.ref a)) (hx : SqL K H a xs ∨ SqT K H a xs) : Evl.EvL (tCB (fun xs H Q => ∃ p ys, xs = [.ref p] ∧ (SqL K H p ys ∨ SqT K H p ys) ∧ ∀ l, H l = none → Q (.ref l) (upd H l (.lst ys))) (tCons te tNil)) σ H xs := fun H1 e Q q => h H1 e _ fun H2 e2 =>
  ⟨a, xs, rfl, hx.imp (Evl.ex_l (e.trans e2)) (Evl.ex_t (e.trans e2)), fun r hr => q r _ (Evl.fresh_back e2 hr) (e2.trans (Ex.new hr)) upd_same⟩
theorem ev_int1 {b : Bool} (h : Evl.Ev te σ H (.bl b)) : Evl.Ev (tCB (fun xs H Q => (∃ i, xs = [.int i] ∧ Q (.int i) H) ∨ ∃ k, xs = [.bl k] ∧ Q (.int (if k then 1 else 0)) H) (tCons te tNil)) σ H (.int (if b then 1 else 0)) := fun H1 e Q q => h H1 e _ fun H2 e2 => .inr ⟨b, rfl, q H2 e2⟩
end
section
variable {P : Program} {w : World} {K : PySem.W.Frag} {mg : Str → Option Value} {base : Heap}
theorem shaped_ints (ns : List Int) : SeqAt.shaped (.list (ns.map .int)) = true := by
  have q : ∀ ns : List Int, PyData.canLayAll0 (ns.map .int) = true ∧ PyData.depthAll (ns.map .int) = 0 := fun ns => by
    induction ns with
    | nil => exact ⟨rfl, rfl⟩
    | cons n ns ih =>
      obtain ⟨h1, h2⟩ := ih
      exact ⟨by show (true && PyData.canLayAll0 (ns.map .int)) = true; rw [h1]; rfl, by show max 0 (PyData.depthAll (ns.map .int)) = 0; rw [h2]; rfl⟩
  obtain ⟨h1, h2⟩ := q ns
  have e1 : PyData.canLay0 (.list (ns.map .int)) = true := h1
  have e2 : PyData.depth (.list (ns.map .int)) ≤ 64 := by show PyData.depthAll (ns.map .int) + 1 ≤ 64; omega
  exact Bool.and_eq_true_iff.mpr ⟨e1, decide_eq_true e2⟩
theorem vmX {σ : L2.St} {H : Hp} {te : TE} {p : Addr} {y : List Int} {d : Nat} (h : Evl.Ev te σ H (.ref p)) (hs : SqT K H p (y.map V.int)) (hl : y.length = d) : Evl.Ev (tOp (rI0 fun i j => .int (i + j)) (tCB (fun xs H Q => ∃ p ys, xs = [V.ref p] ∧ (SqL K H p ys ∨ SqT K H p ys) ∧ Q (.int ys.length) H) (tCons te tNil)) (tC (.int 1))) σ H (.int ((d + 1 : Nat) : Int)) :=
  Evl.ev_op (Evl.ev_is (ev_lenS (K := K) h (.inr hs)) (by rw [List.length_map, hl])) Evl.ev_c (Evl.rv_I0 (g := fun i j => .int (i + j)))
theorem ne_of_none' {H : Hp} {a b : Addr} (h : H a = none) (h2 : H b ≠ none) : a ≠ b := fun e => h2 (by rw [← e]; exact h)
theorem gr_in {K : PySem.W.Frag} {L : List Addr} {H : Hp} {l t : Addr} {o : HO} {ds : List PyData} (h : Gr K L H t ds) (m : l ∈ L) : Gr K L (upd H l o) t ds := by
  obtain ⟨n, xs, h1, h2⟩ := h
  refine ⟨n, xs, by rw [upd_ne (fun z => n (by rw [z]; exact m))]; exact h1, ?_⟩
  rw [w_upd_in (List.mem_cons_of_mem _ m)]
  exact h2
theorem rel_foL {m : Nat} {rows : List (List Int)} : ∀ i, ((rows.take i).foldl (relStep m) ([], [])).2.length ≤ i
  | 0 => by
    rw [List.take_zero]
    exact Nat.le_refl _
  | i + 1 => by
    by_cases h : i < rows.length
    · rw [rel_take h]
      have := rel_foL (m := m) (rows := rows) i
      generalize (rows.take i).foldl (relStep m) ([], []) = st at this ⊢
      unfold relStep
      split
      · show (_ ++ [_]).length ≤ _
        rw [List.length_append]
        simp
        exact this
      · show st.2.length ≤ i + 1
        omega
    · have e : rows.take (i + 1) = rows.take i := by
        rw [List.take_of_length_le (by omega), List.take_of_length_le (by omega)]
      rw [e]
      exact Nat.le_trans (rel_foL i) (by omega)
theorem ok_relations {f : Addr} {fd : FuncData} (F : Fun K "_law_relations" "_law_relations" s_relations f fd) (T : TxR mg) : FnOk P w K mg base CX0 1 f fd ["_law_points"] (spRel K) := by
  refine F.ok sc_relations (fun vs H Q E h => ?_) (fun cdv A outer s H vs Q E hr h => ?_)
  · obtain ⟨_, _, _, rfl, _⟩ := h
    rfl
  · obtain ⟨v, ps, d, rfl, hv, hps, hd, h4, hb, k⟩ := h
    refine ⟨_, (pss_cons (ps_par (i := 1) (j := 2) (by rfl) sc_relations.nd rfl rfl (by decide) rfl rfl (pa_cons (pe_lst pa_nil) (pa_cons (pe_lst pa_nil) pa_nil)) (by rfl))
    (pss_cons (ps_for PassesOwn.never rfl (pi_enum (by rfl) T.m_enumerate (pa_cons (pv 0) pa_nil)) (pg_tup (by rfl) (pgs_cons (pg_name (i := 3) sc_relations.nd rfl (by first | exact Or.inl rfl | exact Or.inr rfl)) (pgs_cons (pg_name (i := 4) sc_relations.nd rfl (by first | exact Or.inl rfl | exact Or.inr rfl)) pgs_nil)))
      (pss_cons (ps_set (i := 5) sc_relations.nd rfl (by first | exact Or.inl rfl | exact Or.inr rfl) (pe_op op_cat (pe_op op_cat (pe_callTy call_list_of (by rfl) T.m_list (by decide +kernel) (pa_cons (pv 4) pa_nil)) (pe_lst (pa_cons pe_int pa_nil))) (pe_lc (own := [("_law_k", 9)]) (g := gName 9) (tt := tYes) (by rfl) sc_relations.nd (pi_range1 (by rfl) T.m_range (pa_cons (pe_callB call_len_seq (by rfl) T.m_len (by decide +kernel) (pa_cons (pv 0) pa_nil)) pa_nil)) (blkOk_by (N := sc_relations_N) (sc := defScope s_relations) (by decide +kernel)) (fun _ _ _ _ _ => (pg_name (i := 9) sc_relations.nd rfl (by first | exact Or.inl rfl | exact Or.inr rfl))) (fun _ _ _ _ _ => pts_nil) (fun _ _ _ _ _ => (pe_callTy call_int1 (by rfl) T.m_int (by decide +kernel) (pa_cons (pe_cmpR op_eq (pv 9) (pv 3) (nomark _)) pa_nil))))))
      (pss_cons (ps_for PassesOwn.never rfl (pi_list (pv 1)) (pg_tup (by rfl) (pgs_cons (pg_name (i := 6) sc_relations.nd rfl (by first | exact Or.inl rfl | exact Or.inr rfl)) (pgs_cons (pg_name (i := 7) sc_relations.nd rfl (by first | exact Or.inl rfl | exact Or.inr rfl)) pgs_nil)))
        (pss_one (ps_set (i := 5) sc_relations.nd rfl (by first | exact Or.inl rfl | exact Or.inr rfl) (pe_lc (own := [("_law_entry", 10), ("_law_other", 11)]) (g := gTup K 2 (gCons (gName 10) (gCons (gName 11) (gNil)))) (tt := tYes) (te := tOp (rI0 fun i j => .int (i - j)) (tOp (rI CMulW fun i j => .int (i * j)) (tVar 10) (tOp (rIxL K) (tVar 7) (tVar 6))) (tOp (rI CMulW fun i j => .int (i * j)) (tOp (rIxL K) (tVar 5) (tVar 6)) (tVar 11))) (by rfl) sc_relations.nd (RZ.pi_zipA (by rfl) T.m_zip (pa_cons (pv 5) (pa_cons (pv 7) pa_nil))) (blkOk_by (N := sc_relations_N) (sc := defScope s_relations) (by decide +kernel)) (fun _ _ _ _ _ => (pg_tup (by rfl) (pgs_cons (pg_name (i := 10) sc_relations.nd rfl (by first | exact Or.inl rfl | exact Or.inr rfl)) (pgs_cons (pg_name (i := 11) sc_relations.nd rfl (by first | exact Or.inl rfl | exact Or.inr rfl)) pgs_nil)))) (fun _ _ _ _ _ => pts_nil) (fun _ _ _ _ _ => (pe_op op_sub (pe_op op_mulW (pv 10) (pe_ix ix_list (pv 7) (pv 6) (fun _ _ => rfl))) (pe_op op_mulW (pe_ix ix_list (pv 5) (pv 6) (fun _ _ => rfl)) (pv 11))))))))
      (pss_cons (ps_setLc (i := 8) (own := [("_law_k", 9)]) (g := gName 9) (tt := tTest (tOp rNe (tOp (rIxL K) (tVar 5) (tVar 9)) (tC (.int 0)))) (by rfl) sc_relations.nd rfl rfl (sw_true rfl rfl rfl (by decide +kernel)) (pi_range1 (by rfl) T.m_range (pa_cons (pe_op op_add (pe_callB call_len_seq (by rfl) T.m_len (by decide +kernel) (pa_cons (pv 4) pa_nil)) pe_int) pa_nil)) (blkOk_by (N := sc_relations_N) (sc := defScope s_relations) (by decide +kernel)) (fun _ _ _ _ _ => (pg_name (i := 9) sc_relations.nd rfl (by first | exact Or.inl rfl | exact Or.inr rfl))) (fun _ _ _ _ _ => pts_one (pt_cmpR op_ne (pe_ix ix_list (pv 5) (pv 9) (fun _ _ => rfl)) pe_int (nomark _))) (fun _ _ _ _ _ => (pv 9)))
      (pss_one (ps_if (pt_cmpR (op_eqD hr.units) (pv 8) (pe_lst pa_nil) (nomark _)) (pss_one (ps_expr (pe_bm PySem.F.plainAttrs_list PySem.F.slot_list_append PySem.F.type_list_append mt_append (pv 2) (pa_cons (pe_slice sl_list (pv 5) (po_some (pe_op op_add (pe_callB call_len_seq (by rfl) T.m_len (by decide +kernel) (pa_cons (pv 4) pa_nil)) pe_int)) po_none) pa_nil)))) (pss_one (ps_expr (pe_bm PySem.F.plainAttrs_list PySem.F.slot_list_append PySem.F.type_list_append mt_append (pv 1) (pa_cons (pe_tup (pa_cons (pe_ix ix_list (pv 8) pe_int (fun _ _ => rfl)) (pa_cons (pv 5) pa_nil))) pa_nil))))))))))
    (pss_one (ps_ret (pv 2))))), ?_⟩
    cases hv with
    | @lst a ys _ hs ha =>
      have hly := dpa_len ha
      rw [List.length_map] at hly
      refine ⟨Nat.zero_le _, fun hd hhd => ⟨Nat.zero_le _, fun fo hfo => ⟨_, _, rfl, ?_⟩⟩⟩
      have ne : fo ≠ hd := fun e => by
        rw [e, upd_same] at hfo
        cases hfo
      have hfo0 : H fo = none := by rwa [upd_ne ne] at hfo
      have e1 : Ex H (upd (upd H hd (.lst [])) fo (.lst [])) := (Ex.new hhd).trans (Ex.new hfo)
      have hfoL : (upd (upd H hd (.lst [])) fo (.lst [])) fo = some (.lst []) := upd_same
      have hg1 : Gr K [fo] (upd (upd H hd (.lst [])) fo (.lst [])) hd [] := ⟨fun m => ne (List.mem_singleton.mp m).symm, [], by rw [upd_ne (Ne.symm ne), upd_same], .nil⟩
      generalize upd (upd H hd (.lst [])) fo (.lst []) = H1 at e1 hfoL hg1 ⊢
      let rows := rowsL ps.length ps 0
      have hrl : rows.length = ps.length := rowsL_length
      have hrows : ∀ r ∈ rows, r.length = d + 1 + ps.length := rowsL_len hps
      have hrb : ∀ r ∈ rows, Bits 60 r := fun r hr => by
        obtain ⟨i, hi, e⟩ := List.getElem_of_mem hr
        have q : rows[i]? = some r := by rw [List.getElem?_eq_getElem hi, e]
        rw [rowsL_get] at q
        obtain ⟨y, hy, e⟩ := Option.map_eq_some_iff.mp q
        rw [← e]
        exact rowL_bits (hb y (List.mem_of_getElem? hy))
      let st : Nat → List (Nat × List Int) × List (List Int) := fun i => (rows.take i).foldl (relStep (d + 1)) ([], [])
      let Pv : Nat → L2.St → Hp → Prop := fun i σ' H' => Ex H H' ∧ Gr K [fo] H' hd ((st i).1.map bD) ∧ (∃ xs, H' fo = some (.lst xs) ∧ xs.length = (st i).2.length) ∧ ∃ s3 s4 s5 s6 s7 s8 s9 s10 s11, σ' = [some (.ref a), some (.ref hd), some (.ref fo), s3, s4, s5, s6, s7, s8, s9, s10, s11]
      refine ⟨_, rfl, a, ys, rfl, Evl.ex_l e1 hs, for_it (walk_enum (xs := ys)) Pv ⟨e1, hg1, ⟨[], hfoL, rfl⟩, none, none, none, none, none, none, none, none, none, rfl⟩ (fun i σ' H' _ pv => Evl.ex_l pv.1 hs) (fun i y σ' H2 H3 hi pv yp => ?_) (fun σ' H2 pv => ?_)⟩
      · obtain ⟨e2, g2, ⟨xf, hxf, hxl⟩, s3, s4, s5, s6, s7, s8, s9, s10, s11, rfl⟩ := pv
        obtain ⟨Tt, u1, u2, rfl, hT, rfl, hu1, hu2⟩ := yp
        have hi' : i < ps.length := by omega
        have eu1 : u1 = .int (i : Int) := (Option.some.inj hu1).symm
        subst eu1
        have hu2' : ys[i]? = some u2 := hu2
        obtain ⟨dd, hd1, hd2⟩ := dpa_get ha hu2'
        rw [List.getElem?_map, List.getElem?_eq_getElem hi'] at hd1
        have ed : dd = tD ps[i] := (Option.some.inj hd1).symm
        subst ed
        have hm : ps[i] ∈ ps := List.getElem_mem hi'
        have hlen := hps _ hm
        have eT : Ex H2 (upd H2 Tt (.tup [.int (i : Int), u2])) := Ex.new hT
        refine ⟨Tt, [.int (i : Int), u2], rfl, SqT.of upd_same, rfl, .int (i : Int), [u2], rfl, u2, [], rfl, rfl, ?_⟩
        have e3 := e2.trans eT
        replace g2 := g2.up eT
        have hxf3 := eT fo _ hxf
        generalize upd H2 Tt (.tup [.int (i : Int), u2]) = H3 at eT e3 g2 hxf3 ⊢
        cases hd2 with
        | @tup p zs _ hsp hap =>
          have ex := dpi_inv hap
          subst ex
          have hrow : rows[i]? = some (rowL ps.length i ps[i]) := by
            show (rowsL ps.length ps 0)[i]? = _
            rw [rowsL_get, List.getElem?_eq_getElem hi', Nat.zero_add]
            rfl
          have hri : i < rows.length := by omega
          have hrow' : rows[i] = rowL ps.length i ps[i] := by
            rw [List.getElem?_eq_getElem hri] at hrow
            exact Option.some.inj hrow
          have hrlen : (rowL ps.length i ps[i]).length = d + 1 + ps.length := by rw [← hrow']; exact hrows _ (List.getElem_mem hri)
          have hrbit : Bits 60 (rowL ps.length i ps[i]) := by rw [← hrow']; exact hrb _ (List.getElem_mem hri)
          obtain ⟨o1, o2⟩ : (st i).1.length ≤ i ∧ ∀ p ∈ (st i).1, p.1 < d + 1 ∧ p.2.length = d + 1 + ps.length ∧ Bits (bitsB 60 i) p.2 := rel_ok (m := d + 1) (l := d + 1 + ps.length) hrows (by omega) hrb i (by omega)
          have hstep : st (i + 1) = relStep (d + 1) (st i) (rowL ps.length i ps[i]) := by
            rw [← hrow']
            exact rel_take hri
          have e03 := e3
          have hfoslen : (st i).2.length ≤ i := rel_foL i
          generalize hst : st i = sti at g2 hxl o1 o2 hstep hfoslen
          obtain ⟨B, fos⟩ := sti
          have lst0 : Evl.Ev (tVar 0) [some (.ref a), some (.ref hd), some (.ref fo), some (.int (i : Int)), some (.ref p), s5, s6, s7, s8, s9, s10, s11] H3 (.ref a) := Evl.ev_var rfl
          have lst4 : Evl.Ev (tVar 4) [some (.ref a), some (.ref hd), some (.ref fo), some (.int (i : Int)), some (.ref p), s5, s6, s7, s8, s9, s10, s11] H3 (.ref p) := Evl.ev_var rfl
          have comp := Evl.el_lcR1 (σ := [some (.ref a), some (.ref hd), some (.ref fo), some (.int (i : Int)), some (.ref p), s5, s6, s7, s8, s9, s10, s11]) (H := H3) (t := tYes) (te := tCB (fun xs H Q => (∃ i, xs = [.int i] ∧ Q (.int i) H) ∨ ∃ k, xs = [.bl k] ∧ Q (.int (if k then 1 else 0)) H) (tCons (tOp rEq (tVar 9) (tVar 3)) tNil)) (j := 9) (vs := [9]) (fun _ => true) (fun k => .int (if k = i then 1 else 0)) (Evl.ea_cons (ev_lenS (K := K) lst0 (.inl (Evl.ex_l e3 hs))) Evl.ea_nil) (by omega) (fun _ => rfl)
            (fun k H5 _ _ => fun H6 _ Q q => q H6 (Ex.refl _)) (fun k H5 _ _ _ => Evl.ev_is (ev_int1 (Evl.ev_op (Evl.ev_var (v := .int (k : Int)) rfl) (Evl.ev_var (v := .int (i : Int)) rfl) (Evl.rv_eq rfl))) (by
              by_cases q : k = i
              · simp [q]
              · have q2 : ¬ (k : Int) = (i : Int) := by omega
                simp [q, q2]))
          have crow := el_cat (el_cat (el_listT (K := K) lst4 (.inr (Evl.ex_t e3 hsp))) (Evl.el_lst (Evl.ea_cons (Evl.ev_c (v := .int 1)) Evl.ea_nil) (by decide)) (by rw [List.length_map]; show _ + 1 ≤ 10000; omega)) comp (by
            have := Evl.given_len ((ys.length : Nat) : Int).toNat (fun _ => true) (fun k => V.int (if k = i then 1 else 0))
            rw [List.length_append, List.length_map]
            show ps[i].length + 1 + _ ≤ 10000
            omega)
          have erow : ((ps[i].map V.int) ++ [V.int 1]) ++ Evl.given ((ys.length : Nat) : Int).toNat (fun _ => true) (fun k => V.int (if k = i then 1 else 0)) = (rowL ps.length i ps[i]).map V.int := by
            rw [Int.toNat_natCast, hly]
            unfold Evl.given rowL
            rw [List.map_append, List.map_append, List.map_map, List.filter_eq_self.mpr (fun _ _ => rfl)]
            rfl
          rw [erow] at crow
          refine Evl.q_asgL crow fun t H4 ht e4 ht4 => ?_
          have e04 := e03.trans e4
          have g4 := g2.up e4
          obtain ⟨nh, hx, hhx, hxa⟩ := id g4
          have lhx := dpa_len hxa
          rw [List.length_map] at lhx
          let Pv2 : Nat → L2.St → Hp → Prop := fun j σ'' H'' => Ex H4 H'' ∧ ∃ t s6 s7 s9 s10 s11, (t ≠ hd ∧ t ≠ fo) ∧ H'' t = some (.lst ((redL (rowL ps.length i ps[i]) (B.take j)).map V.int)) ∧ σ'' = [some (.ref a), some (.ref hd), some (.ref fo), some (.int (i : Int)), some (.ref p), some (.ref t), s6, s7, s8, s9, s10, s11]
          refine ⟨_, rfl, hd, rfl, ⟨hx, SqL.of hhx⟩, for_it (walk_list (xs := hx)) Pv2 ⟨Ex.refl _, t, _, _, _, _, _, ⟨ne_of_none' ht g2.ne, ne_of_none' ht (by rw [hxf3]; simp)⟩, ht4, rfl⟩ (fun j σ' H' _ pv => SqL.of (pv.1 hd _ hhx)) (fun j y σ' H5 H6 hj pv yp => ?_) (fun σ' H5 pv => ?_)⟩
          · obtain ⟨e5, t, s6, s7, s9, s10, s11, htn, ht5, rfl⟩ := pv
            obtain ⟨rfl, hy⟩ := yp
            have lhx2 : hx.length = B.length := lhx
            have hj' : j < B.length := by omega
            obtain ⟨dd, hd1, hd2⟩ := dpa_get hxa hy
            rw [List.getElem?_map, List.getElem?_eq_getElem hj'] at hd1
            have ed : dd = bD B[j] := (Option.some.inj hd1).symm
            subst ed
            obtain ⟨p1, p2, p3⟩ := o2 B[j] (List.getElem_mem hj')
            obtain ⟨rl, rb⟩ := redL_ok (m := d + 1) hrlen (bits_up hrbit (bitsB_le 60 i)) o2 j (by omega)
            have hred := redL_take (row := rowL ps.length i ps[i]) hj'
            generalize redL (rowL ps.length i ps[i]) (B.take j) = r at ht5 rl rb hred
            generalize B[j] = pr at hd2 p1 p2 p3 hred
            obtain ⟨l, pv⟩ := pr
            have hl1 : l < d + 1 := p1
            have hll : l < r.length := by omega
            have hpl : pv.length = r.length := by
              have : pv.length = d + 1 + ps.length := p2
              omega
            have hd3 := hd2.up (w_ex e5)
            have bB := bitsB_small4 (i := i) (by omega)
            cases hd3 with
            | @tup a4 zs _ hs4 ha4 =>
              cases ha4 with
              | @cons v1 _ _ _ r1 rr1 =>
                cases r1
                cases rr1 with
                | @cons v2 _ _ _ r2 rr2 =>
                  cases rr2
                  cases r2 with
                  | @lst c cs _ hsc hac =>
                    have ex := dpi_inv hac
                    subst ex
                    have hsc' := Evl.ex_l (w_sub (L := [hd, fo])) hsc
                    have ixr : atI (r.map V.int) (l : Int) = some (.int r[l]) := atI_nat (by rw [List.getElem?_map, List.getElem?_eq_getElem hll]; rfl)
                    have ixp : atI (pv.map V.int) (l : Int) = some (.int (pv[l]'(by omega))) := atI_nat (by rw [List.getElem?_map, List.getElem?_eq_getElem (by omega)]; rfl)
                    have hstepL : stepL r (l, pv) = List.zipWith (fun x y => x * (pv[l]'(by omega)) - r[l] * y) r pv := by
                      unfold stepL
                      show List.zipWith (fun x y => x * pv.getD l 0 - r.getD l 0 * y) r pv = _
                      rw [List.getD_eq_getElem?_getD, List.getD_eq_getElem?_getD, List.getElem?_eq_getElem hll, List.getElem?_eq_getElem (show l < pv.length by omega)]
                      rfl
                    refine ⟨a4, [.int (l : Int), .ref c], rfl, Evl.ex_t w_sub hs4, rfl, .int (l : Int), [.ref c], rfl, .ref c, [], rfl, rfl, ?_⟩
                    have bh := rb _ (List.getElem_mem hll)
                    have bs := p3 _ (List.getElem_mem (l := pv) (n := l) (by omega))
                    have bl := bitsAt_le (bitsB 60 i) j
                    have bmax : bitsAt (bitsB 60 i) j ≤ 20000 := by
                      rw [bl]
                      have : bitsB 60 i * (j + 1) ≤ 2000 * 5 := Nat.mul_le_mul bB (by have : B.length ≤ i := o1; omega)
                      have : B.length ≤ i := o1
                      omega
                    have up1 : ∀ x : Int, x.natAbs < 2 ^ bitsB 60 i → x.natAbs < 2 ^ (bitsB 60 i + 1) := fun x h => Nat.lt_of_lt_of_le h (Nat.pow_le_pow_right (by decide) (by omega))
                    have up2 : ∀ x : Int, x.natAbs < 2 ^ bitsAt (bitsB 60 i) j → x.natAbs < 2 ^ (bitsAt (bitsB 60 i) j + 1) := fun x h => Nat.lt_of_lt_of_le h (Nat.pow_le_pow_right (by decide) (by omega))
                    refine Evl.s_asgL (xs := (List.range (r.map V.int).length).map fun m => .int (r.getD m 0 * (pv[l]'(by omega)) - r[l] * pv.getD m 0)) (el_zip (K := K) (xs := r.map V.int) (ys := pv.map V.int) (Evl.ea_cons (Evl.ev_var (v := .ref t) rfl) (Evl.ea_cons (Evl.ev_var (v := .ref c) rfl) Evl.ea_nil)) (.inl ⟨SqL.of ht5, hsc'⟩) (by rw [List.length_map, List.length_map, hpl]) (by rw [List.length_map]; omega) (fun _ _ => rfl)
                      (fun m x y H7 e7 hx1 hy1 => ?_)) fun t' H7 ht' e7 h7 => ?_
                    · have hm : m < r.length := by
                        have := (List.getElem?_eq_some_iff.mp hx1).1
                        rwa [List.length_map] at this
                      rw [List.getElem?_map, List.getElem?_eq_getElem hm] at hx1
                      rw [List.getElem?_map, List.getElem?_eq_getElem (show m < pv.length by omega)] at hy1
                      have e1' : x = .int r[m] := (Option.some.inj hx1).symm
                      have e2' : y = .int (pv[m]'(by omega)) := (Option.some.inj hy1).symm
                      subst e1' e2'
                      have g1 : r.getD m 0 = r[m] := by rw [List.getD_eq_getElem?_getD, List.getElem?_eq_getElem hm]; rfl
                      have g2' : pv.getD m 0 = pv[m]'(by omega) := by rw [List.getD_eq_getElem?_getD, List.getElem?_eq_getElem (show m < pv.length by omega)]; rfl
                      rw [g1, g2']
                      have b1 := rb _ (List.getElem_mem hm)
                      have b2 := p3 _ (List.getElem_mem (l := pv) (n := m) (by omega))
                      have f1 : Evl.Ev (tOp (rIxL K) (tVar 7) (tVar 6)) [some (.ref a), some (.ref hd), some (.ref fo), some (.int (i : Int)), some (.ref p), some (.ref t), some (.int (l : Int)), some (.ref c), s8, s9, some (.int r[m]), some (.int (pv[m]'(by omega)))] H7 (.int (pv[l]'(by omega))) := Evl.ev_op (Evl.ev_var (v := .ref c) rfl) (Evl.ev_var (v := .int (l : Int)) rfl) (Evl.rv_ixL (Evl.ex_l e7 hsc') ixp)
                      have f2 : Evl.Ev (tOp (rIxL K) (tVar 5) (tVar 6)) [some (.ref a), some (.ref hd), some (.ref fo), some (.int (i : Int)), some (.ref p), some (.ref t), some (.int (l : Int)), some (.ref c), s8, s9, some (.int r[m]), some (.int (pv[m]'(by omega)))] H7 (.int r[l]) := Evl.ev_op (Evl.ev_var (v := .ref t) rfl) (Evl.ev_var (v := .int (l : Int)) rfl) (Evl.rv_ixL (SqL.of (e7 t _ ht5)) ixr)
                      exact Evl.ev_op (Evl.ev_op (Evl.ev_var rfl) f1 (Evl.rv_I (C := CMulW) (g := fun a b => .int (a * b)) (wide_mul (up2 _ b1) (up1 _ bs) (by omega) (by omega) (by omega)))) (Evl.ev_op f2 (Evl.ev_var rfl) (Evl.rv_I (C := CMulW) (g := fun a b => .int (a * b)) (wide_mul (up2 _ bh) (up1 _ b2) (by omega) (by omega) (by omega)))) (Evl.rv_I0 (g := fun a b => .int (a - b)))
                    · have ez : ((List.range (r.map V.int).length).map fun m => V.int (r.getD m 0 * (pv[l]'(by omega)) - r[l] * pv.getD m 0)) = (stepL r (l, pv)).map V.int := by
                        rw [hstepL]
                        apply List.ext_getElem
                        · simp [hpl]
                        · intro m h1 h2
                          have hm : m < r.length := by simpa using h1
                          have hm2 : m < pv.length := by omega
                          simp [hm, hm2]
                      rw [ez] at h7
                      refine ⟨e5.trans e7, t', _, _, _, _, _, ⟨ne_of_none' ht' (g4.up e5).ne, ne_of_none' ht' (by rw [e5 fo _ (e4 fo _ hxf3)]; simp)⟩, ?_, rfl⟩
                      rw [hred]
                      exact h7
          · obtain ⟨e5, t, s6, s7, s9, s10, s11, htn, ht5, rfl⟩ := pv
            rw [lhx, List.take_length] at ht5
            obtain ⟨q1, q2⟩ := redL_ok (m := d + 1) hrlen (bits_up hrbit (bitsB_le 60 i)) o2 _ (Nat.le_refl _)
            rw [List.take_length] at q1 q2
            generalize hr0 : redL (rowL ps.length i ps[i]) B = r at ht5 q1 q2
            have hks := ks_head (m := d + 1) (r := r) (by omega)
            have e05 := e04.trans e5
            have hxf5 := e5 fo _ (e4 fo _ hxf3)
            have g5 := g4.up e5
            have hstep2 : st (i + 1) = match leadF (r.take (d + 1)) 0 with | none => (B, fos ++ [r.drop (d + 1)]) | some l => (B ++ [(l, r)], fos) := by
              rw [hstep]
              unfold relStep
              rw [hr0]
              try (cases leadF (r.take (d + 1)) 0 <;> rfl)
            rw [hks] at hstep2
            have vlen : Evl.Ev (tCB (fun xs H Q => ∃ p ys, xs = [V.ref p] ∧ (SqL K H p ys ∨ SqT K H p ys) ∧ Q (.int ys.length) H) (tCons (tVar 4) tNil)) [some (.ref a), some (.ref hd), some (.ref fo), some (.int (i : Int)), some (.ref p), some (.ref t), s6, s7, s8, s9, s10, s11] H5 (.int (d : Int)) := Evl.ev_is (ev_lenS (K := K) (Evl.ev_var (v := .ref p) rfl) (.inr (Evl.ex_t e05 hsp))) (by rw [List.length_map, hlen])
            have vm : Evl.Ev (tOp (rI0 fun i j => .int (i + j)) (tCB (fun xs H Q => ∃ p ys, xs = [V.ref p] ∧ (SqL K H p ys ∨ SqT K H p ys) ∧ Q (.int ys.length) H) (tCons (tVar 4) tNil)) (tC (.int 1))) [some (.ref a), some (.ref hd), some (.ref fo), some (.int (i : Int)), some (.ref p), some (.ref t), s6, s7, s8, s9, s10, s11] H5 (.int ((d + 1 : Nat) : Int)) := Evl.ev_op vlen Evl.ev_c (Evl.rv_I0 (g := fun i j => .int (i + j)))
            have csome := Evl.el_lcR1 (σ := [some (.ref a), some (.ref hd), some (.ref fo), some (.int (i : Int)), some (.ref p), some (.ref t), s6, s7, s8, s9, s10, s11]) (H := H5) (t := tTest (tOp rNe (tOp (rIxL K) (tVar 5) (tVar 9)) (tC (.int 0)))) (te := tVar 9) (j := 9) (vs := [9]) (fun k => !decide (V.int (r.getD k 0) = V.int 0)) (fun k => .int (k : Int)) (Evl.ea_cons vm Evl.ea_nil) (by omega) (fun _ => rfl)
              (fun k H6 e6 hk => by
                have hk2 : k < r.length := by omega
                have ix : atI (r.map V.int) (k : Int) = some (.int (r.getD k 0)) := atI_nat (by rw [List.getElem?_map, List.getD_eq_getElem?_getD, List.getElem?_eq_getElem hk2]; rfl)
                exact Evl.et_test (Evl.ev_op (Evl.ev_op (Evl.ev_var (v := .ref t) rfl) (Evl.ev_var (v := .int (k : Int)) rfl) (Evl.rv_ixL (SqL.of (e6 t _ ht5)) ix)) Evl.ev_c (Evl.rv_ne rfl)))
              (fun k H6 _ _ _ => Evl.ev_var rfl)
            have egiv : Evl.given (((d + 1 : Nat) : Int)).toNat (fun k => !decide (V.int (r.getD k 0) = V.int 0)) (fun k => V.int (k : Int)) = ((ksOf (d + 1) r).map fun (k : Nat) => (k : Int)).map V.int := by
              rw [Int.toNat_natCast, List.map_map]
              rfl
            rw [egiv] at csome
            refine Evl.q_asgL csome fun ts H6 hts e6 hts6 => ?_
            generalize hkk : ksOf (d + 1) r = ks at hstep2 hts6
            have shp : SeqAt.shaped (.list ((ks.map fun (k : Nat) => (k : Int)).map PyData.int)) = true := shaped_ints _
            have tst : Evl.EvT (tTest (tOp (rEqD K) (tVar 8) (tLst tNil))) [some (.ref a), some (.ref hd), some (.ref fo), some (.int (i : Int)), some (.ref p), some (.ref t), s6, s7, some (.ref ts), s9, s10, s11] H6 ks.isEmpty := Evl.et_test fun H7 e7 Q q => ⟨_, rfl, Nat.zero_le _, fun z hz => by
              refine ⟨.list ((ks.map fun (k : Nat) => (k : Int)).map PyData.int), .list [], .lst (SqL.of ((e7.trans (Ex.new hz)) ts _ hts6)) (dpi_of _), .lst (SqL.of upd_same) .nil, shp, by decide, ?_⟩
              have ev : PyData.eqv (.list ((ks.map fun (k : Nat) => (k : Int)).map PyData.int)) (.list []) = ks.isEmpty := by
                cases ks with
                | nil => exact PySem.SeqAt.eqv_refl _ (SeqAt.canLay_of_shaped shp)
                | cons _ _ => rfl
              rw [ev]
              exact q _ (Ex.new hz)⟩
            refine Evl.s_if tst (fun z H7 e7 => ?_) (fun z H7 e7 => ?_)
            · have hk0 : ks = [] := List.isEmpty_iff.mp z
              subst hk0
              have e67 := e6.trans e7
              refine Evl.s_appL (e67 fo _ hxf5) (Evl.ev_var (v := .ref fo) rfl) (Evl.el_sl (K := K) (Evl.ev_var (v := .ref t) rfl) (Evl.eo_some ((vmX (K := K) (Evl.ev_var (v := .ref p) rfl) (Evl.ex_t (e05.trans e67) hsp) hlen))) Evl.eo_none (SqL.of (e67 t _ ht5))) (by rw [hxl]; have := hfoslen; omega) fun pf H8 hpf e8 hpf8 => ?_
              have eA := (e05.trans e67).trans e8
              refine ⟨Evl.Ex.mut eA hfo0, ?_, ⟨_, upd_same, ?_⟩, _, _, _, _, _, _, _, _, _, rfl⟩
              · rw [hstep2]
                show Gr K [fo] _ hd (B.map bD)
                exact gr_in ((g5.up e67).up e8) (List.mem_singleton.mpr rfl)
              · rw [hstep2, List.length_append, hxl]
                show _ = (fos ++ [_]).length
                rw [List.length_append]
                rfl
            · cases ks with
              | nil => cases z
              | cons l kr =>
                have e67 := e6.trans e7
                have g7 := g5.up e67
                have hfo7 := e67 fo _ hxf5
                have hLb : Hid (hd :: [fo]) H7 := fun c hc => by
                  rcases List.mem_cons.mp hc with q | q
                  · rw [q]
                    exact g7.ne
                  · rw [List.mem_singleton.mp q, hfo7]
                    simp
                have ht7 : Dp K (W (hd :: [fo]) H7) (.ref t) (.list (r.map .int)) := .lst (SqL.of (w_of (fun hm => by
                  rcases List.mem_cons.mp hm with q | q
                  · exact htn.1 q
                  · exact htn.2 (List.mem_singleton.mp q)) (e67 t _ ht5))) (dpi_of _)
                have ix0 : atI (((l :: kr).map fun (k : Nat) => (k : Int)).map V.int) 0 = some (.int (l : Int)) := atI_nat (j := 0) rfl
                refine d_app (K := K) (L := [fo]) (d := bD (l, r)) g7 (Evl.ev_var rfl) (evd_tup hLb (evds_cons (evd_evI (Evl.ev_op (Evl.ev_var (v := .ref ts) rfl) Evl.ev_c (Evl.rv_ixL (SqL.of (e7 ts _ hts6)) ix0))) (evds_cons (evd_var rfl ht7) evds_nil)) (by show 2 ≤ 100000; omega)) (by rw [List.length_map]; show B.length < 100000; have : B.length ≤ i := o1; omega) fun o H8 e8 g8 => ?_
                have eA := (e05.trans e67).trans e8
                refine ⟨Evl.Ex.mut eA hhd, ?_, ⟨xf, by rw [upd_ne ne]; exact e8 fo _ hfo7, ?_⟩, _, _, _, _, _, _, _, _, _, rfl⟩
                · rw [hstep2]
                  show Gr K [fo] _ hd ((B ++ [(l, r)]).map bD)
                  rw [List.map_append]
                  exact g8
                · rw [hstep2]
                  exact hxl
      · obtain ⟨e2, g2, ⟨xf, hxf, hxl⟩, s3, s4, s5, s6, s7, s8, s9, s10, s11, rfl⟩ := pv
        refine Evl.s_ret (Evl.ev_var (v := .ref fo) rfl) fun H3 e3 => k fo xf H3 (e2.trans e3) (e3 fo _ hxf) ?_
        have q : rows.take ps.length = rows := by rw [← hrl, List.take_length]
        rw [hxl, hly]
        show ((rows.take ps.length).foldl (relStep (d + 1)) ([], [])).2.length = relN (d + 1) rows
        rw [q]
        rfl
end
end U

set_option Elab.async false
set_option linter.all false
set_option maxRecDepth 100000
set_option maxHeartbeats 4000000
namespace U
open PySem PySem.Spec PyProof.Rows L2
open Evl (Ex)
abbrev s_point : Stmt := top 20
abbrev sc_point_N : List Str := ["_law_draws", "_law_places", "_law_wide", "_law_k"]
theorem sc_point : FnScope sc_point_N ["_law_draws", "_law_places", "_law_wide"] (defScope s_point) := ⟨rfl, rfl, rfl, by decide +kernel, rfl, by decide +kernel, by decide +kernel⟩
abbrev s_corner : Stmt := top 26
abbrev sc_corner_N : List Str := ["_law_draws", "_law_places", "_law_wide", "_law_k"]
theorem sc_corner : FnScope sc_corner_N ["_law_draws", "_law_places", "_law_wide"] (defScope s_corner) := ⟨rfl, rfl, rfl, by decide +kernel, rfl, by decide +kernel, by decide +kernel⟩
abbrev s_range : Stmt := top 25
abbrev sc_range_N : List Str := ["_law_draws", "_law_wide", "_law_low", "_law_high"]
theorem sc_range : FnScope sc_range_N ["_law_draws", "_law_wide"] (defScope s_range) := ⟨rfl, rfl, rfl, by decide +kernel, rfl, by decide +kernel, by decide +kernel⟩
/-- a drawn point: its entries lie from -w to w -/
def spPoint (K : PySem.W.Frag) : Sp := fun vs H Q _ => ∃ (l : Addr) (p w : Int) (n : Nat) (L : List Addr), vs = [.ref l, .int p, .int w] ∧ Dr n H l ∧ n < 900000 ∧ l ∈ L ∧ Hid L H ∧ 1 ≤ p ∧ p ≤ 3 ∧ 0 ≤ w ∧ w ≤ 1000 ∧
  ∀ v ns H', ExB l H H' → Dr (n + 3) H' l → ((ns : List Int).length : Int) = p → (∀ y ∈ ns, -w ≤ y ∧ y ≤ w) → Dp K (W L H') v (.tuple (ns.map .int)) → Q v H'
def bO (w : Int) (o : Option Int) : Prop := ∀ i, o = some i → -w ≤ i ∧ i ≤ w
def spCorner (K : PySem.W.Frag) : Sp := fun vs H Q _ => ∃ (l : Addr) (p w : Int) (n : Nat) (L : List Addr), vs = [.ref l, .int p, .int w] ∧ Dr n H l ∧ n < 900000 ∧ l ∈ L ∧ Hid L H ∧ 1 ≤ p ∧ p ≤ 3 ∧ 0 ≤ w ∧ w ≤ 1000 ∧
  ∀ v c H', ExB l H H' → Dr (n + 6) H' l → ((c : List (Option Int)).length : Int) = p → (∀ o ∈ c, bO w o) → Dp K (W L H') v (.tuple (c.map oD)) → Q v H'
def spRange (K : PySem.W.Frag) : Sp := fun vs H Q _ => ∃ (l : Addr) (w : Int) (n : Nat) (L : List Addr), vs = [.ref l, .int w] ∧ Dr n H l ∧ n < 800000 ∧ l ∈ L ∧ Hid L H ∧ 0 ≤ w ∧ w ≤ 1000 ∧
  ∀ v o1 o2 H', ExB l H H' → Dr (n + 6) H' l → bO w o1 → bO w o2 → Dp K (W L H') v (rgD true (o1, o2)) → Q v H'
theorem dpa_intsL {K : PySem.W.Frag} {H : Hp} : ∀ ns : List Int, DpAll K H (ns.map V.int) (ns.map PyData.int)
  | [] => .nil
  | n :: ns => .cons (.int n) (dpa_intsL ns)
theorem dpa_opt {K : PySem.W.Frag} {H : Hp} : ∀ c : List (Option Int), DpAll K H (c.map oV) (c.map oD)
  | [] => .nil
  | none :: c => .cons .non (dpa_opt c)
  | some n :: c => .cons (.int n) (dpa_opt c)
section
variable {P : Program} {w : World} {K : PySem.W.Frag} {mg : Str → Option Value} {base : Heap}
/-- one draw -/
theorem draw_run {σ : L2.St} {H : Hp} {tm : TE} {l : Addr} {n : Nat} {many : Int} {Q : VK} (h0 : σ[0]? = some (some (.ref l))) (hd : Dr n H l) (hn : n < 1000000) (hm : Evl.Ev tm σ H (.int many)) (m0 : 0 < many) (m1 : many < 1073741824)
    (k : ∀ r H', 0 ≤ r → r < many → Dr (n + 1) H' l → ExB l H H' → Q (.int r) H') : tCallD spDraw (tCons (tVar 0) (tCons tm tNil)) σ H Q :=
  ⟨_, h0, hm H (Ex.refl H) _ fun H1 e1 => ⟨l, many, n, rfl, hd.ex e1, hn, m0, m1, fun r o r0 r1 hd' => k r _ r0 r1 hd' ((ExB.of e1).trans ExB.upd)⟩⟩
theorem ok_point {f : Addr} {fd : FuncData} (F : Fun K "_law_point" "_law_point" s_point f fd) (T : TxR mg) (D_draw : DefAt P w K mg base "_law_draw" 1 ["_law_draws", "_law_many"] spDraw) : FnOk P w K mg base CX0 2 f fd ["_law_draws", "_law_places", "_law_wide"] (spPoint K) := by
  refine F.ok sc_point (fun vs H Q E h => ?_) (fun cdv A outer s H vs Q E hr h => ?_)
  · obtain ⟨_, _, _, _, _, rfl, _⟩ := h
    rfl
  · obtain ⟨l, p, w, n, L, rfl, hd, hn, hl, hL, p1, p3, w0, w1, k⟩ := h
    refine ⟨_, (pss_one (ps_ret (pe_callTy call_tuple_of (by rfl) T.m_tuple (by decide +kernel) (pa_cons (pe_lc (own := [("_law_k", 3)]) (g := gName 3) (tt := tYes) (by rfl) sc_point.nd (pi_range1 (by rfl) T.m_range (pa_cons (pv 1) pa_nil)) (blkOk_by (N := sc_point_N) (sc := defScope s_point) (by decide +kernel)) (fun _ _ _ _ _ => (pg_name (i := 3) sc_point.nd rfl (by first | exact Or.inl rfl | exact Or.inr rfl))) (fun _ _ _ _ _ => pts_nil) (fun _ _ _ _ _ => (pe_op op_sub (pe_callD D_draw (by first | exact hr | exact hr.mono (by decide) | exact hr.mono (by omega)) (by rfl) (pa_cons (pv 0) (pa_cons (pe_op op_add (pe_op op_mul pe_int (pv 2)) pe_int) pa_nil))) (pv 2)))) pa_nil)))), ?_⟩
    refine ⟨_, rfl, p, rfl, by omega, by omega, fun Dl hD => ?_⟩
    have hDl : Dl ≠ l := fun e => hd.ne (by rw [← e]; exact hD)
    let Pv : Nat → Hp → Prop := fun i H' => ExB l H H' ∧ Dr (n + i) H' l ∧ ∃ ns : List Int, ns.length = i ∧ (∀ y ∈ ns, -w ≤ y ∧ y ≤ w) ∧ H' Dl = some (.lst (ns.map V.int))
    refine lc_range (lo := 0) (n := p.toNat) Pv ⟨ExB.of (Ex.new hD), hd.ex (Ex.new hD), [], rfl, (fun y hy => nomatch hy), upd_same⟩ (fun i H2 hi pv => ?_) (fun H2 pv => ?_)
    · obtain ⟨e2, hd2, ns, hns, hw, hl2⟩ := pv
      refine ⟨rfl, ?_⟩
      refine yes_lc (B := fun H3 => Pv (i + 1) H3) ?_
      refine draw_run (n := n + i) (many := 2 * w + 1) (by rfl) hd2 (by omega) (Evl.ev_op (Evl.ev_op Evl.ev_c (Evl.ev_var rfl) (Evl.rv_I (C := CMul) (g := fun i j => .int (i * j)) (i := 2) (j := w) (.inl ⟨by decide, by decide⟩))) Evl.ev_c (Evl.rv_I0 (g := fun i j => .int (i + j)))) (by omega) (by omega) fun r H3 r0 r1 hd3 e3 => ?_
      have h3 : H3 Dl = some (.lst (ns.map V.int)) := e3 Dl _ hDl hl2
      refine ⟨_, rfl, _, _, rfl, rfl, ns.map V.int, h3, Evl.sz_lt (by rw [List.length_map]; omega), ?_, ?_, ns ++ [r - w], ?_, ?_, ?_⟩
      · intro b o hb hbo
        have nb : b ≠ Dl := ne_of_none hbo hD
        rw [upd_ne nb]
        exact e3 b o hb (e2 b o hb hbo)
      · obtain ⟨x, y, z, q1, q2⟩ := hd3
        exact ⟨x, y, z, by rw [upd_ne (Ne.symm hDl)]; exact q1, q2⟩
      · rw [List.length_append, hns]
        rfl
      · intro y hy
        rcases List.mem_append.mp hy with q | q
        · exact hw y q
        · rw [List.mem_singleton.mp q]
          omega
      · rw [upd_same, List.map_append]
        rfl
    · obtain ⟨e2, hd2, ns, hns, hw, hl2⟩ := pv
      have hDL : Dl ∉ L := hid_not hL hD
      refine ⟨Dl, ns.map V.int, rfl, .inl ⟨SqL.of hl2, fun r hr => ?_⟩⟩
      have hLr : r ∉ L := fun m => (e2.hid hd2.ne hL) r m hr
      refine k _ ns _ (e2.trans (ExB.of (Ex.new hr))) ((hd2.ex (Ex.new hr)).up (by omega)) (by omega) hw (.tup (SqT.of (w_of hLr upd_same)) (dpa_intsL ns))
theorem ok_corner {f : Addr} {fd : FuncData} (F : Fun K "_law_corner" "_law_corner" s_corner f fd) (T : TxR mg) (D_draw : DefAt P w K mg base "_law_draw" 1 ["_law_draws", "_law_many"] spDraw) : FnOk P w K mg base CX0 2 f fd ["_law_draws", "_law_places", "_law_wide"] (spCorner K) := by
  refine F.ok sc_corner (fun vs H Q E h => ?_) (fun cdv A outer s H vs Q E hr h => ?_)
  · obtain ⟨_, _, _, _, _, rfl, _⟩ := h
    rfl
  · obtain ⟨l, p, w, n, L, rfl, hd, hn, hl, hL, p1, p3, w0, w1, k⟩ := h
    refine ⟨_, (pss_one (ps_ret (pe_callTy call_tuple_of (by rfl) T.m_tuple (by decide +kernel) (pa_cons (pe_lc (own := [("_law_k", 3)]) (g := gName 3) (tt := tYes) (by rfl) sc_corner.nd (pi_range1 (by rfl) T.m_range (pa_cons (pv 1) pa_nil)) (blkOk_by (N := sc_corner_N) (sc := defScope s_corner) (by decide +kernel)) (fun _ _ _ _ _ => (pg_name (i := 3) sc_corner.nd rfl (by first | exact Or.inl rfl | exact Or.inr rfl))) (fun _ _ _ _ _ => pts_nil) (fun _ _ _ _ _ => (pe_ifExp (pt_cmpR op_eq (pe_callD D_draw (by first | exact hr | exact hr.mono (by decide) | exact hr.mono (by omega)) (by rfl) (pa_cons (pv 0) (pa_cons pe_int pa_nil))) pe_int (nomark _)) pe_non (pe_op op_sub (pe_callD D_draw (by first | exact hr | exact hr.mono (by decide) | exact hr.mono (by omega)) (by rfl) (pa_cons (pv 0) (pa_cons (pe_op op_add (pe_op op_mul pe_int (pv 2)) pe_int) pa_nil))) (pv 2))))) pa_nil)))), ?_⟩
    refine ⟨_, rfl, p, rfl, by omega, by omega, fun Dl hD => ?_⟩
    have hDl : Dl ≠ l := fun e => hd.ne (by rw [← e]; exact hD)
    let Pv : Nat → Hp → Prop := fun i H' => ExB l H H' ∧ Dr (n + 2 * i) H' l ∧ ∃ c : List (Option Int), c.length = i ∧ (∀ o ∈ c, bO w o) ∧ H' Dl = some (.lst (c.map oV))
    refine lc_range (lo := 0) (n := p.toNat) Pv ⟨ExB.of (Ex.new hD), hd.ex (Ex.new hD), [], rfl, (fun o ho => nomatch ho), upd_same⟩ (fun i H2 hi pv => ?_) (fun H2 pv => ?_)
    · obtain ⟨e2, hd2, c, hc, hb, hl2⟩ := pv
      refine ⟨rfl, ?_⟩
      refine yes_lc (B := fun H3 => Pv (i + 1) H3) ?_
      have fin : ∀ (o : Option Int) (H3 : Hp), bO w o → ExB l H2 H3 → Dr (n + 2 * (i + 1)) H3 l → ∃ xs, H3 Dl = some (.lst xs) ∧ xs.length + 1 ≤ sizeLine ∧ Pv (i + 1) (upd H3 Dl (.lst (xs ++ [oV o]))) := fun o H3 ho e3 hd3 => by
        have h3 : H3 Dl = some (.lst (c.map oV)) := e3 Dl _ hDl hl2
        refine ⟨_, h3, Evl.sz_lt (by rw [List.length_map]; omega), ?_, ?_, c ++ [o], ?_, ?_, ?_⟩
        · intro b o hb hbo
          have nb : b ≠ Dl := ne_of_none hbo hD
          rw [upd_ne nb]
          exact e3 b o hb (e2 b o hb hbo)
        · obtain ⟨x, y, z, q1, q2⟩ := hd3
          exact ⟨x, y, z, by rw [upd_ne (Ne.symm hDl)]; exact q1, q2⟩
        · rw [List.length_append, hc]
          rfl
        · intro q hq
          rcases List.mem_append.mp hq with z | z
          · exact hb q z
          · rw [List.mem_singleton.mp z]
            exact ho
        · rw [upd_same, List.map_append]
          rfl
      refine draw_run (n := n + 2 * i) (many := 6) (by rfl) hd2 (by omega) Evl.ev_c (by decide) (by decide) fun r H3 r0 r1 hd3 e3 => ?_
      refine ⟨rfl, _, rfl, ?_⟩
      refine ite2 (fun hc => ?_) (fun hc => ?_)
      · exact fin none H3 (fun _ z => nomatch z) e3 (hd3.up (by omega))
      · refine draw_run (n := n + 2 * i + 1) (many := 2 * w + 1) (by rfl) hd3 (by omega) (Evl.ev_op (Evl.ev_op Evl.ev_c (Evl.ev_var rfl) (Evl.rv_I (C := CMul) (g := fun i j => .int (i * j)) (i := 2) (j := w) (.inl ⟨by decide, by decide⟩))) Evl.ev_c (Evl.rv_I0 (g := fun i j => .int (i + j)))) (by omega) (by omega) fun r2 H4 q0 q1 hd4 e4 => ?_
        refine ⟨_, rfl, _, _, rfl, rfl, ?_⟩
        exact fin (some (r2 - w)) H4 (fun i z => by cases z; omega) (e3.trans e4) (hd4.up (by omega))
    · obtain ⟨e2, hd2, c, hc, hb, hl2⟩ := pv
      have hDL : Dl ∉ L := hid_not hL hD
      refine ⟨Dl, c.map oV, rfl, .inl ⟨SqL.of hl2, fun r hr => ?_⟩⟩
      have hLr : r ∉ L := fun m => (e2.hid hd2.ne hL) r m hr
      refine k _ c _ (e2.trans (ExB.of (Ex.new hr))) ((hd2.ex (Ex.new hr)).up (by omega)) (by omega) hb (.tup (SqT.of (w_of hLr upd_same)) (dpa_opt c))
theorem bo_of {w a : Int} {o : Option Int} (h : o = none ∨ o = some a) (ha : -w ≤ a ∧ a ≤ w) : bO w o := fun i e => by
  rcases h with h | h
  · rw [h] at e
    cases e
  · rw [h] at e
    cases e
    exact ha
theorem opt_run {σ : L2.St} {H : Hp} {l : Addr} {n j : Nat} {a : Int} {Q : VK} (h0 : σ[0]? = some (some (.ref l))) (hj : σ[j]? = some (some (.int a))) (hd : Dr n H l) (hn : n < 1000000)
    (k : ∀ o H', (o = none ∨ o = some a) → ExB l H H' → Dr (n + 1) H' l → Q (oV o) H') : tIf (tTest (tOp rEq (tCallD spDraw (tCons (tVar 0) (tCons (tC (V.int 5)) tNil))) (tC (V.int 0)))) (tC V.non) (tVar j) σ H Q := by
  refine draw_run (n := n) (many := 5) h0 hd hn Evl.ev_c (by decide) (by decide) fun r H3 r0 r1 hd3 e3 => ?_
  refine ⟨rfl, _, rfl, ?_⟩
  refine ite2 (fun hc => ?_) (fun hc => ?_)
  · exact k none H3 (.inl rfl) e3 hd3
  · exact ⟨_, hj, k (some a) H3 (.inr rfl) e3 hd3⟩
theorem ok_range {f : Addr} {fd : FuncData} (F : Fun K "_law_range" "_law_range" s_range f fd) (T : TxR mg) (D_draw : DefAt P w K mg base "_law_draw" 1 ["_law_draws", "_law_many"] spDraw) (D_point : DefAt P w K mg base "_law_point" 2 ["_law_draws", "_law_places", "_law_wide"] (spPoint K)) : FnOk P w K mg base CX0 3 f fd ["_law_draws", "_law_wide"] (spRange K) := by
  refine F.ok sc_range (fun vs H Q E h => ?_) (fun cdv A outer s H vs Q E hr h => ?_)
  · obtain ⟨_, _, _, _, rfl, _⟩ := h
    rfl
  · obtain ⟨l, w, n, L, rfl, hd, hn, hl, hL, w0, w1, k⟩ := h
    refine ⟨_, (pss_cons (ps_asg (pe_callD D_point (by first | exact hr | exact hr.mono (by decide) | exact hr.mono (by omega)) (by rfl) (pa_cons (pv 0) (pa_cons pe_int (pa_cons (pv 1) pa_nil)))) (pg_tup (by rfl) (pgs_cons (pg_name (i := 2) sc_range.nd rfl (by first | exact Or.inl rfl | exact Or.inr rfl)) (pgs_cons (pg_name (i := 3) sc_range.nd rfl (by first | exact Or.inl rfl | exact Or.inr rfl)) pgs_nil))))
    (pss_cons (ps_if (PW.pt (pw_and (pt_cmpR op_gt (pe_callD D_draw (by first | exact hr | exact hr.mono (by decide) | exact hr.mono (by omega)) (by rfl) (pa_cons (pv 0) (pa_cons pe_int pa_nil))) pe_int (nomark _)) (pw_and1 (pt_cmpR op_gt (pv 2) (pv 3) (nomark _))))) (pss_one (ps_par (i := 2) (j := 3) (by rfl) sc_range.nd rfl rfl (by decide) rfl rfl (pa_cons (pv 3) (pa_cons (pv 2) pa_nil)) (by rfl))) pss_nil)
    (pss_one (ps_ret (pe_tup (pa_cons (pe_ifExp (pt_cmpR op_eq (pe_callD D_draw (by first | exact hr | exact hr.mono (by decide) | exact hr.mono (by omega)) (by rfl) (pa_cons (pv 0) (pa_cons pe_int pa_nil))) pe_int (nomark _)) pe_non (pv 2)) (pa_cons (pe_ifExp (pt_cmpR op_eq (pe_callD D_draw (by first | exact hr | exact hr.mono (by decide) | exact hr.mono (by omega)) (by rfl) (pa_cons (pv 0) (pa_cons pe_int pa_nil))) pe_int (nomark _)) pe_non (pv 3)) pa_nil))))))), ?_⟩
    refine ⟨_, rfl, _, rfl, l, 2, w, n, L, rfl, hd, by omega, hl, hL, by omega, by omega, w0, w1, fun v ns H1 e1 hd1 hns hw hv => ?_⟩
    obtain ⟨a, b, rfl⟩ : ∃ a b, ns = [a, b] := by
      match ns, hns with
      | [a, b], _ => exact ⟨a, b, rfl⟩
    have hab := hw a (by simp)
    have hb := hw b (by simp)
    have last : ∀ (a b : Int) (H2 : Hp), (-w ≤ a ∧ a ≤ w) → (-w ≤ b ∧ b ≤ w) → ExB l H1 H2 → Dr (n + 4) H2 l → tRet (tTup (tCons (tIf (tTest (tOp rEq (tCallD spDraw (tCons (tVar 0) (tCons (tC (V.int 5)) tNil))) (tC (V.int 0)))) (tC V.non) (tVar 2)) (tCons (tIf (tTest (tOp rEq (tCallD spDraw (tCons (tVar 0) (tCons (tC (V.int 5)) tNil))) (tC (V.int 0)))) (tC V.non) (tVar 3)) tNil)))
        { nx := fun x H' => Q V.non H', rt := Q } [some (.ref l), some (.int w), some (.int a), some (.int b)] H2 := fun a b H2 ha hb e2 hd2 => by
      refine opt_run (n := n + 4) (l := l) (a := a) (by rfl) (by rfl) hd2 (by omega) fun o1 H3 q1 e3 hd3 => ?_
      refine opt_run (n := n + 5) (l := l) (a := b) (by rfl) (by rfl) hd3 (by omega) fun o2 H4 q2 e4 hd4 => ?_
      refine ⟨by show 2 ≤ sizeLine; decide, fun r hr => ?_⟩
      have hLr : r ∉ L := fun m => ((((e1.trans e2).trans e3).trans e4).hid hd4.ne hL) r m hr
      refine k _ o1 o2 _ ((((e1.trans e2).trans e3).trans e4).trans (ExB.of (Ex.new hr))) (hd4.ex (Ex.new hr)) (bo_of q1 ha) (bo_of q2 hb) (.tup (SqT.of (w_of hLr upd_same)) (dpa_opt [o1, o2]))
    cases hv with
    | @tup p xs _ hs ha =>
      have ex := dpi_inv ha
      subst ex
      refine ⟨p, _, rfl, Evl.ex_t w_sub hs, rfl, .int a, [.int b], rfl, .int b, [], rfl, rfl, ?_⟩
      refine draw_run (n := n + 3) (many := 5) (by rfl) hd1 (by omega) Evl.ev_c (by decide) (by decide) fun r H2 r0 r1 hd2 e2 => ?_
      refine ⟨_, _, rfl, rfl, _, rfl, ?_⟩
      refine ite2 (fun hc => ?_) (fun hc => ?_)
      · refine ⟨_, rfl, _, rfl, _, _, rfl, rfl, _, rfl, ?_⟩
        refine ite2 (fun hc => ?_) (fun hc => ?_)
        · exact ⟨_, rfl, _, rfl, _, _, rfl, last b a H2 hb hab e2 hd2⟩
        · exact last a b H2 hab hb e2 hd2
      · exact last a b H2 hab hb e2 hd2
end
end U

set_option Elab.async false
set_option linter.all false
set_option maxRecDepth 100000
set_option maxHeartbeats 4000000
namespace U
open PySem PySem.Spec PyProof.Rows L2
open Evl (Ex)
abbrev s_plain : Stmt := top 21
abbrev sc_plain_N : List Str := ["_law_draws", "_law_places", "_law_word"]
theorem sc_plain : FnScope sc_plain_N ["_law_draws", "_law_places"] (defScope s_plain) := ⟨rfl, rfl, rfl, by decide +kernel, rfl, by decide +kernel, by decide +kernel⟩
abbrev s_part : Stmt := top 28
abbrev sc_part_N : List Str := ["_law_draws", "_law_places", "_law_word"]
theorem sc_part : FnScope sc_part_N ["_law_draws", "_law_places"] (defScope s_part) := ⟨rfl, rfl, rfl, by decide +kernel, rfl, by decide +kernel, by decide +kernel⟩
/-- kinds of rules -/
inductive Kd where
  | halves (p : Int)
  | boxes (p : Int)
  | rising (p : Int)
  | flats (p : Int)
  | turns (m : Int)
  | no (k : Kd)
  | both (k m : Kd)
  | either (k m : Kd)
  | any (k m : Kd)
def kdD : Kd → PyData
  | .halves p => .tuple [.str "halves", .int p]
  | .boxes p => .tuple [.str "boxes", .int p]
  | .rising p => .tuple [.str "rising", .int p]
  | .flats p => .tuple [.str "flats", .int p]
  | .turns m => .tuple [.str "turns", .int m]
  | .no k => .tuple [.str "not", kdD k]
  | .both k m => .tuple [.str "both", kdD k, kdD m]
  | .either k m => .tuple [.str "either", kdD k, kdD m]
  | .any k m => .tuple [.str "any", kdD k, kdD m]
def okK (p : Int) : Kd → Prop
  | .halves q => q = p
  | .boxes q => q = p
  | .rising q => q = p
  | .flats q => q = p
  | .turns m => p = 1 ∧ 0 ≤ m ∧ m ≤ 3
  | .no k => okK p k
  | .both k m => okK p k ∧ okK p m
  | .either k m => okK p k ∧ okK p m
  | .any k m => okK p k ∧ okK p m
def depK : Kd → Nat
  | .no k => depK k + 1
  | .both k m => max (depK k) (depK m) + 1
  | .either k m => max (depK k) (depK m) + 1
  | .any k m => max (depK k) (depK m) + 1
  | _ => 0
def spPlain (K : PySem.W.Frag) : Sp := fun vs H Q _ => ∃ (l : Addr) (p : Int) (n : Nat) (L : List Addr), vs = [.ref l, .int p] ∧ Dr n H l ∧ n < 900000 ∧ l ∈ L ∧ Hid L H ∧ 1 ≤ p ∧ p ≤ 3 ∧
  ∀ v k H', ExB l H H' → Dr (n + 2) H' l → okK p k → depK k = 0 → Dp K (W L H') v (kdD k) → Q v H'
section
variable {K : PySem.W.Frag} {σ : L2.St} {H : Hp} {ta tb te : TE} {xs ys : List V}
theorem el_rep {b : Bool} (h1 : Evl.EvL ta σ H xs) (h2 : Evl.Ev tb σ H (.int (if b then 1 else 0))) (hz : xs.length ≤ 1000) : Evl.EvL (tOp rRep ta tb) σ H (if b then xs else []) := fun H1 e Q q => h1 H1 e _ fun p1 H2 hp e2 hx => h2 H2 (e.trans e2) _ fun H3 e3 => by
  refine ⟨p1, _, xs, rfl, rfl, e3 _ _ hx, ?_, ?_, ?_, fun r hr => ?_⟩
  · cases b <;> decide
  · cases b <;> decide
  · cases b
    · exact Evl.sz_of (by show xs.length * 0 ≤ 100000; omega)
    · exact Evl.sz_of (by show xs.length * 1 ≤ 100000; omega)
  · refine q r _ (Evl.fresh_back (e2.trans e3) hr) ((e2.trans e3).trans (Ex.new hr)) ?_
    rw [upd_same]
    cases b
    · rfl
    · show some (HO.lst ([xs].flatten)) = _
      simp
end
section
variable {P : Program} {w : World} {K : PySem.W.Frag} {mg : Str → Option Value} {base : Heap}
def wsX (xs ys : List Str) (b : Bool) : List Str := xs ++ if b then ys else []
theorem wsX_map {xs ys : List Str} {b : Bool} : (wsX xs ys b).map V.str = xs.map V.str ++ if b then ys.map V.str else [] := by
  cases b <;> simp [wsX]
theorem dpa_strs {H : Hp} : ∀ ws : List Str, DpAll K H (ws.map V.str) (ws.map PyData.str)
  | [] => .nil
  | z :: ws => .cons (.str z) (dpa_strs ws)
theorem words_run {σ : L2.St} {H : Hp} {te : TE} {l : Addr} {n : Nat} {L : List Addr} {ws : List Str} {Q : VK} (h0 : σ[0]? = some (some (.ref l))) (hd : Dr n H l) (hn : n < 1000000) (hl : l ∈ L) (hL : Hid L H) (z0 : 0 < ws.length) (z1 : ws.length < 100) (hw : Evl.EvL te σ H (ws.map V.str))
    (k : ∀ z H', z ∈ ws → ExB l H H' → Dr (n + 1) H' l → Q (.str z) H') : tCallD (spPick K) (tCons (tVar 0) (tCons te tNil)) σ H Q :=
  ⟨_, h0, hw H (Ex.refl H) _ fun t H1 hn1 e1 ht => ⟨l, t, ws.map .str, n, L, rfl, hd.ex e1, hn, hl, .lst (SqL.of (w_of (hid_not hL hn1) ht)) (dpa_strs ws), by rw [List.length_map]; exact z0, by rw [List.length_map]; omega, fun v d o hm hv hd' => by
    obtain ⟨z, hz, rfl⟩ := List.mem_map.mp hm
    cases hv
    exact k z _ hz ((ExB.of e1).trans ExB.upd) hd'⟩⟩
theorem kind_ret {H : Hp} {l : Addr} {p : Int} {n : Nat} {L : List Addr} {z : Str} {Q : VK} {qn : L2.St → Hp → Prop} (hd : Dr n H l) (hn : n < 1000000) (hl : l ∈ L) (hL : Hid L H) (p1 : 1 ≤ p) (p3 : p ≤ 3) (hz : z = "halves" ∨ z = "boxes" ∨ z = "rising" ∨ z = "flats" ∨ z = "turns" ∧ p = 1)
    (k : ∀ v k H', ExB l H H' → Dr (n + 1) H' l → okK p k → depK k = 0 → Dp K (W L H') v (kdD k) → Q v H') :
    tRet (tIf (tTest (tOp rNe (tVar 2) (tC (V.str "turns")))) (tTup (tCons (tVar 2) (tCons (tVar 1) tNil))) (tTup (tCons (tVar 2) (tCons (tCallD spDraw (tCons (tVar 0) (tCons (tC (V.int 4)) tNil))) tNil))))
      { nx := qn, rt := Q } [some (.ref l), some (.int p), some (.str z)] H := by
  have two : ∀ (kd : Kd) (i : Int) (H2 : Hp), ExB l H H2 → Dr (n + 1) H2 l → okK p kd → depK kd = 0 → kdD kd = .tuple [.str z, .int i] → [V.str z, V.int i].length ≤ sizeLine ∧ ∀ r, H2 r = none → Q (.ref r) (upd H2 r (.tup [.str z, .int i])) := fun kd i H2 e2 hd2 ok dk e => by
    refine ⟨by show 2 ≤ sizeLine; decide, fun r hr => ?_⟩
    have hLr : r ∉ L := fun m => (e2.hid hd2.ne hL) r m hr
    refine k _ kd _ (e2.trans (ExB.of (Ex.new hr))) (hd2.ex (Ex.new hr)) ok dk ?_
    rw [e]
    exact .tup (SqT.of (w_of hLr upd_same)) (.cons (.str z) (.cons (.int i) .nil))
  refine ⟨_, rfl, rfl, _, rfl, ?_⟩
  rcases hz with h | h | h | h | ⟨h, hp⟩
  · subst h
    exact ⟨_, rfl, _, rfl, two (.halves p) p H (ExB.refl l H) (hd.up (by omega)) rfl rfl rfl⟩
  · subst h
    exact ⟨_, rfl, _, rfl, two (.boxes p) p H (ExB.refl l H) (hd.up (by omega)) rfl rfl rfl⟩
  · subst h
    exact ⟨_, rfl, _, rfl, two (.rising p) p H (ExB.refl l H) (hd.up (by omega)) rfl rfl rfl⟩
  · subst h
    exact ⟨_, rfl, _, rfl, two (.flats p) p H (ExB.refl l H) (hd.up (by omega)) rfl rfl rfl⟩
  · subst h
    refine ⟨_, rfl, ?_⟩
    refine draw_run (n := n) (many := 4) (by rfl) hd (by omega) Evl.ev_c (by decide) (by decide) fun r H3 r0 r1 hd3 e3 => ?_
    exact two (.turns r) r H3 e3 hd3 ⟨hp, r0, by omega⟩ rfl rfl
theorem ok_plain {f : Addr} {fd : FuncData} (F : Fun K "_law_plain" "_law_plain" s_plain f fd) (T : TxR mg) (D_draw : DefAt P w K mg base "_law_draw" 1 ["_law_draws", "_law_many"] spDraw) (D_pick : DefAt P w K mg base "_law_pick" 2 ["_law_draws", "_law_things"] (spPick K)) : FnOk P w K mg base CX0 3 f fd ["_law_draws", "_law_places"] (spPlain K) := by
  refine F.ok sc_plain (fun vs H Q E h => ?_) (fun cdv A outer s H vs Q E hr h => ?_)
  · obtain ⟨_, _, _, _, rfl, _⟩ := h
    rfl
  · obtain ⟨l, p, n, L, rfl, hd, hn, hl, hL, p1, p3, k⟩ := h
    refine ⟨_, (pss_cons (ps_set (i := 2) sc_plain.nd rfl (by first | exact Or.inl rfl | exact Or.inr rfl) (pe_callD D_pick (by first | exact hr | exact hr.mono (by decide) | exact hr.mono (by omega)) (by rfl) (pa_cons (pv 0) (pa_cons (pe_op op_cat (pe_lst (pa_cons pe_str (pa_cons pe_str (pa_cons pe_str (pa_cons pe_str pa_nil))))) (pe_op op_rep (pe_lst (pa_cons pe_str (pa_cons pe_str pa_nil))) (pe_callTy call_int1 (by rfl) T.m_int (by decide +kernel) (pa_cons (pe_cmpR op_eq (pv 1) pe_int (nomark _)) pa_nil)))) pa_nil))))
    (pss_one (ps_ret (pe_ifExp (pt_cmpR op_ne (pv 2) pe_str (nomark _)) (pe_tup (pa_cons (pv 2) (pa_cons (pv 1) pa_nil))) (pe_tup (pa_cons (pv 2) (pa_cons (pe_callD D_draw (by first | exact hr | exact hr.mono (by decide) | exact hr.mono (by omega)) (by rfl) (pa_cons (pv 0) (pa_cons pe_int pa_nil))) pa_nil))))))), ?_⟩
    have v1 : Evl.Ev (tVar 1) (L2.start sc_plain_N [V.ref l, V.int p]) H (.int p) := Evl.ev_var rfl
    have base : Evl.EvL _ (L2.start sc_plain_N [V.ref l, V.int p]) H _ := el_cat (Evl.el_lst (Evl.ea_cons (Evl.ev_c (v := .str "halves")) (Evl.ea_cons (Evl.ev_c (v := .str "boxes")) (Evl.ea_cons (Evl.ev_c (v := .str "rising")) (Evl.ea_cons (Evl.ev_c (v := .str "flats")) Evl.ea_nil)))) (by decide))
      (el_rep (b := decide (V.int p = V.int 1)) (Evl.el_lst (Evl.ea_cons (Evl.ev_c (v := .str "turns")) (Evl.ea_cons (Evl.ev_c (v := .str "turns")) Evl.ea_nil)) (by decide)) (ev_int1 (Evl.ev_op v1 (Evl.ev_c (v := .int 1)) (Evl.rv_eq rfl))) (by decide)) (by split <;> decide)
    refine words_run (L := L) (n := n) (ws := wsX ["halves", "boxes", "rising", "flats"] ["turns", "turns"] (decide (V.int p = V.int 1))) (by rfl) hd (by omega) hl hL (by generalize decide (V.int p = V.int 1) = b; cases b <;> decide) (by generalize decide (V.int p = V.int 1) = b; cases b <;> decide) (by rw [wsX_map]; exact base) fun z H1 hz e1 hd1 => ?_
    refine kind_ret (L := L) (n := n + 1) hd1 (by omega) hl (e1.hid hd1.ne hL) p1 p3 ?_ (fun v kd H2 e2 hd2 => k v kd H2 (e1.trans e2) hd2)
    by_cases hp : p = 1
    · subst hp
      have hz' : z ∈ (["halves", "boxes", "rising", "flats", "turns", "turns"] : List Str) := hz
      simp only [List.mem_cons, List.not_mem_nil, or_false] at hz'
      rcases hz' with h | h | h | h | h | h
      · exact .inl h
      · exact .inr (.inl h)
      · exact .inr (.inr (.inl h))
      · exact .inr (.inr (.inr (.inl h)))
      · exact .inr (.inr (.inr (.inr ⟨h, rfl⟩)))
      · exact .inr (.inr (.inr (.inr ⟨h, rfl⟩)))
    · rw [decide_eq_false (fun e => hp (by injection e))] at hz
      have hz' : z ∈ (["halves", "boxes", "rising", "flats"] : List Str) := hz
      simp only [List.mem_cons, List.not_mem_nil, or_false] at hz'
      rcases hz' with h | h | h | h
      · exact .inl h
      · exact .inr (.inl h)
      · exact .inr (.inr (.inl h))
      · exact .inr (.inr (.inr (.inl h)))
theorem ok_part {f : Addr} {fd : FuncData} (F : Fun K "_law_part" "_law_part" s_part f fd) (T : TxR mg) (D_draw : DefAt P w K mg base "_law_draw" 1 ["_law_draws", "_law_many"] spDraw) (D_pick : DefAt P w K mg base "_law_pick" 2 ["_law_draws", "_law_things"] (spPick K)) : FnOk P w K mg base CX0 3 f fd ["_law_draws", "_law_places"] (spPlain K) := by
  refine F.ok sc_part (fun vs H Q E h => ?_) (fun cdv A outer s H vs Q E hr h => ?_)
  · obtain ⟨_, _, _, _, rfl, _⟩ := h
    rfl
  · obtain ⟨l, p, n, L, rfl, hd, hn, hl, hL, p1, p3, k⟩ := h
    refine ⟨_, (pss_cons (ps_set (i := 2) sc_part.nd rfl (by first | exact Or.inl rfl | exact Or.inr rfl) (pe_callD D_pick (by first | exact hr | exact hr.mono (by decide) | exact hr.mono (by omega)) (by rfl) (pa_cons (pv 0) (pa_cons (pe_op op_cat (pe_lst (pa_cons pe_str (pa_cons pe_str (pa_cons pe_str (pa_cons pe_str pa_nil))))) (pe_op op_rep (pe_lst (pa_cons pe_str (pa_cons pe_str (pa_cons pe_str pa_nil)))) (pe_callTy call_int1 (by rfl) T.m_int (by decide +kernel) (pa_cons (pe_cmpR op_eq (pv 1) pe_int (nomark _)) pa_nil)))) pa_nil))))
    (pss_one (ps_ret (pe_ifExp (pt_cmpR op_ne (pv 2) pe_str (nomark _)) (pe_tup (pa_cons (pv 2) (pa_cons (pv 1) pa_nil))) (pe_tup (pa_cons (pv 2) (pa_cons (pe_callD D_draw (by first | exact hr | exact hr.mono (by decide) | exact hr.mono (by omega)) (by rfl) (pa_cons (pv 0) (pa_cons pe_int pa_nil))) pa_nil))))))), ?_⟩
    have v1 : Evl.Ev (tVar 1) (L2.start sc_part_N [V.ref l, V.int p]) H (.int p) := Evl.ev_var rfl
    have base : Evl.EvL _ (L2.start sc_part_N [V.ref l, V.int p]) H _ := el_cat (Evl.el_lst (Evl.ea_cons (Evl.ev_c (v := .str "boxes")) (Evl.ea_cons (Evl.ev_c (v := .str "rising")) (Evl.ea_cons (Evl.ev_c (v := .str "flats")) (Evl.ea_cons (Evl.ev_c (v := .str "boxes")) Evl.ea_nil)))) (by decide))
      (el_rep (b := decide (V.int p = V.int 1)) (Evl.el_lst (Evl.ea_cons (Evl.ev_c (v := .str "halves")) (Evl.ea_cons (Evl.ev_c (v := .str "turns")) (Evl.ea_cons (Evl.ev_c (v := .str "turns")) Evl.ea_nil))) (by decide)) (ev_int1 (Evl.ev_op v1 (Evl.ev_c (v := .int 1)) (Evl.rv_eq rfl))) (by decide)) (by split <;> decide)
    refine words_run (L := L) (n := n) (ws := wsX ["boxes", "rising", "flats", "boxes"] ["halves", "turns", "turns"] (decide (V.int p = V.int 1))) (by rfl) hd (by omega) hl hL (by generalize decide (V.int p = V.int 1) = b; cases b <;> decide) (by generalize decide (V.int p = V.int 1) = b; cases b <;> decide) (by rw [wsX_map]; exact base) fun z H1 hz e1 hd1 => ?_
    refine kind_ret (L := L) (n := n + 1) hd1 (by omega) hl (e1.hid hd1.ne hL) p1 p3 ?_ (fun v kd H2 e2 hd2 => k v kd H2 (e1.trans e2) hd2)
    have R : z = "boxes" → z = "halves" ∨ z = "boxes" ∨ z = "rising" ∨ z = "flats" ∨ z = "turns" ∧ p = 1 := fun h => .inr (.inl h)
    by_cases hp : p = 1
    · subst hp
      have hz' : z ∈ (["boxes", "rising", "flats", "boxes", "halves", "turns", "turns"] : List Str) := hz
      simp only [List.mem_cons, List.not_mem_nil, or_false] at hz'
      rcases hz' with h | h | h | h | h | h | h
      · exact R h
      · exact .inr (.inr (.inl h))
      · exact .inr (.inr (.inr (.inl h)))
      · exact R h
      · exact .inl h
      · exact .inr (.inr (.inr (.inr ⟨h, rfl⟩)))
      · exact .inr (.inr (.inr (.inr ⟨h, rfl⟩)))
    · rw [decide_eq_false (fun e => hp (by injection e))] at hz
      have hz' : z ∈ (["boxes", "rising", "flats", "boxes"] : List Str) := hz
      simp only [List.mem_cons, List.not_mem_nil, or_false] at hz'
      rcases hz' with h | h | h | h
      · exact R h
      · exact .inr (.inr (.inl h))
      · exact .inr (.inr (.inr (.inl h)))
      · exact R h
end
end U

set_option Elab.async false
set_option linter.all false
set_option maxRecDepth 100000
set_option maxHeartbeats 4000000
/-! t[::-1] of a pair. -/
namespace HT
open PySem PySem.Spec PyProof.Rows L2 PySem.W PySem.Calls
section
variable {prog : Program} {w : World} {A : Around} {E : Value → Shared → Prop} {s : Shared}
theorem sliceApplied_rev2 {sl : Addr} {vl vu vs : Value} {Q : Int × Int × Nat → Shared → Prop} (hs : s.heap.IsSliceOf sl vl vu vs) (pl : IsPart vl none) (pu : IsPart vu none) (ps : IsPart vs (some (-1)))
    (h : Q ((1 : Int), -1, 2) s) : wpAny (model prog w) A (Builtin.Slice.sliceApplied (.ref sl) (pure (2 : Int))) Q E s := by
  obtain ⟨os, hos, hcs, hds⟩ := id hs
  unfold Builtin.Slice.sliceApplied Builtin.Slice.sliceFields
  refine wpAny_bind (wpAny_bind (wpAny_field hos hds (x := vl) rfl (wpAny_bind (wpAny_field hos hds (x := vu) rfl (wpAny_bind (wpAny_field hos hds (x := vs) rfl (wpAny_pure ?_)))))))
  refine wpAny_bind (slicePart_ ps ?_)
  show wpAny _ _ (if ((-1 : Int) == 0) = true then _ else _) _ _ s
  rw [if_neg (by decide)]
  refine wpAny_bind (slicePart_ pl (wpAny_bind (slicePart_ pu (wpAny_bind (wpAny_pure ?_)))))
  exact wpAny_pure h
theorem getItem_tuple_rev2 {t sl : Addr} {a b : Value} {vl vu vs : Value} {Q : Value → Shared → Prop} (ht : IsTup s.heap t #[a, b]) (hs : s.heap.IsSliceOf sl vl vu vs) (pl : IsPart vl none) (pu : IsPart vu none) (ps : IsPart vs (some (-1)))
    (h : Q (.ref s.heap.objs.size) { s with heap := s.heap.push { cls := .type "tuple", data := .seq #[b, a] } }) : wpAny (model prog w) A (getItem (.ref t) (.ref sl)) Q E s := by
  obtain ⟨os, hos, hcs, hds⟩ := id hs
  have hTs : s.TypeIs (.ref sl) "slice" := ⟨os, hos, hcs⟩
  unfold getItem
  try with_reducible refine wpAny_holding ?_
  first | refine wpAny_bind (wpAny_pure ?_) | skip
  refine wpAny_bind (wpAny_sequenceKey ht.typeIs (by decide) ?_)
  refine wpAny_bind (wpAny_callSpecial?_slot (name := Str.ofString "__getitem__") ht.typeIs PyProof.Rows.slot_tuple_getitem
    (wpAny_call_entry PyProof.Rows.slot_tuple_getitem ht.typeIs entry_tuple_getitem ?_ (args_tuple_getitem _ _)))
  show wpAny _ _ (Builtin.Tuple.tupleItemsOf (.ref t) >>= _) _ _ s
  refine wpAny_bind (tupleItemsOf_ ht ?_)
  refine wpAny_bind (wpAny_typeOf hTs ?_)
  rw [if_pos (by decide)]
  refine wpAny_bind (sliceApplied_rev2 hs pl pu ps ?_)
  show wpAny _ _ (if ((1 : Int) == 0 && (-1 : Int) == 1 && (2 == 2)) = true then _ else _) _ _ s
  rw [if_neg (by decide)]
  have hz : sizeOk (.seq #[b, a]) := by show 2 ≤ sizeLine; decide
  first
    | exact wpAny_bind (m := Builtin.Tuple.tupleExact _) (wpAny_newObj_type (wpAny_pure ⟨_, rfl, wpAny_pure h⟩) hz)
    | exact wpAny_bind (m := Builtin.Tuple.tupleExact _) (wpAny_newObj_type (wpAny_bind (wpAny_pure (wpAny_pure ⟨_, rfl, wpAny_pure h⟩))) hz)
    | exact wpAny_bind (wpAny_bind (m := Builtin.Tuple.tupleExact _) (wpAny_newObj_type (wpAny_pure (wpAny_pure ⟨_, rfl, wpAny_pure h⟩)) hz))
end
end HT
namespace L2
open PySem PySem.Spec PyProof.Rows
/-- t[::-1], t a pair -/
def tRevT (K : PySem.W.Frag) (te : TE) : TE := fun σ H Q => te σ H fun x H1 => ∃ a u v, x = .ref a ∧ SqT K H1 a [u, v] ∧ ∀ p, H1 p = none → Q (.ref p) (upd H1 p (.tup [v, u]))
section
variable {X : Cx}
theorem pe_revT {e : Expr} {te : TE} {k : Nat} {p1 p2 p3 pos : Pos} (he : PE X e te) : PE X (.Subscript e (.Slice none none (some (.UnaryOp .USub (.Constant (.int 1) k p1) p2)) p3) pos) (tRevT X.K te) := by
  refine ⟨fun pins s σ H Q I h => ?_⟩
  refine Subscript_ (thn (he.run pins s σ H _ I h) fun v s1 ⟨x, H1, I1, r1, q1⟩ => ?_)
  obtain ⟨a, u1, u2, ex, hx, q⟩ := q1
  subst ex
  cases r1
  have hst : PO X (some (.UnaryOp .USub (.Constant (.int 1) k p1) p2)) (tPart (tUn (rU fun i => .int (-i)) (tC (.int 1)))) := po_some (pe_un un_neg pe_int)
  refine wpAny_Slice (thn (po_none.run pins s1 σ H1 (fun o H2 => o = none ∧ H2 = H1) I1 ⟨rfl, rfl⟩) fun vl s2 ⟨l, H2, I2, pl, el, e2⟩ => ?_)
  subst el e2
  refine thn (po_none.run pins s2 σ H2 (fun o H3 => o = none ∧ H3 = H2) I2 ⟨rfl, rfl⟩) fun vu s3 ⟨u, H3, I3, pu, eu, e3⟩ => ?_
  subst eu e3
  refine thn (hst.run pins s3 σ H3 (fun o H4 => o = some (-1) ∧ H4 = H3) I3 ⟨1, rfl, -1, rfl, rfl, rfl⟩) fun vs s4 ⟨o, H4, I4, ps, eo, e4⟩ => ?_
  subst eo e4
  have I5 : Inv X pins σ H4 { s4 with heap := s4.heap.push { cls := .type "slice", data := .fields #[vl, vu, vs] } } := I4.kept (t' := s4.toks) fun b ob q => Heap.get?_push_of_some _ q
  obtain ⟨its, r, ht, hz⟩ := I5.tuple hx
  obtain ⟨w1, w2, rfl, r1, r2⟩ : ∃ w1 w2, its = [w1, w2] ∧ RelV u1 w1 ∧ RelV u2 w2 := by
    cases r with
    | cons h1 r =>
      cases r with
      | cons h2 r =>
        cases r
        exact ⟨_, _, rfl, h1, h2⟩
  show wpAny (model X.prog X.w) X.A (subscriptTail e (.Slice none none (some (.UnaryOp .USub (.Constant (.int 1) k p1) p2)) p3) (.ref a) (.ref s4.heap.objs.size)) (EP X pins σ Q) X.xe { s4 with heap := s4.heap.push { cls := .type "slice", data := .fields #[vl, vu, vs] } }
  refine tail_any (ops := [.ref a, .ref s4.heap.objs.size]) ht.typeIs PyProof.Rows.slot_tuple_getitem.lookup ?_ (by with_unfolding_all rfl)
  refine HT.getItem_tuple_rev2 ht (Heap.IsSliceOf.new _ vl vu vs) pl pu ps ?_
  refine ⟨.ref _, _, I5.laid (t' := s4.toks) (o := .tup [u2, u1]) (fun b ob q => Heap.get?_push_of_some _ q) (Nat.le_refl _) ?_, rfl, q _ (I5.hok.fresh (Nat.le_refl _))⟩
  exact ⟨by show 2 ≤ sizeLine; decide, _, .cons r2 (.cons r1 .nil), IsTup.new _ _⟩
end
end L2

set_option Elab.async false
set_option linter.all false
set_option maxRecDepth 100000
set_option maxHeartbeats 4000000
namespace U
open PySem PySem.Spec PyProof.Rows L2
open Evl (Ex)
abbrev s_pair : Stmt := top 30
abbrev sc_pair_N : List Str := ["_law_draws", "_law_places", "_law_deep", "_law_pair_here"]
theorem sc_pair : FnScope sc_pair_N ["_law_draws", "_law_places", "_law_deep"] (defScope s_pair) := ⟨rfl, rfl, rfl, by decide +kernel, rfl, by decide +kernel, by decide +kernel⟩
abbrev s_joint : Stmt := top 29
abbrev sc_joint_N : List Str := ["_law_draws", "_law_places", "_law_deep", "_law_word"]
theorem sc_joint : FnScope sc_joint_N ["_law_draws", "_law_places", "_law_deep"] (defScope s_joint) := ⟨rfl, rfl, rfl, by decide +kernel, rfl, by decide +kernel, by decide +kernel⟩
abbrev s_spec : Stmt := top 22
abbrev sc_spec_N : List Str := ["_law_draws", "_law_places", "_law_deep", "_law_word"]
theorem sc_spec : FnScope sc_spec_N ["_law_draws", "_law_places", "_law_deep"] (defScope s_spec) := ⟨rfl, rfl, rfl, by decide +kernel, rfl, by decide +kernel, by decide +kernel⟩
/-- a kind, put together of up to d + 1 -/
def spJoint (K : PySem.W.Frag) (d : Nat) : Sp := fun vs H Q _ => ∃ (l : Addr) (p : Int) (n : Nat) (L : List Addr), vs = [.ref l, .int p, .int d] ∧ Dr n H l ∧ n + 20 * (d + 1) < 800000 ∧ l ∈ L ∧ Hid L H ∧ 1 ≤ p ∧ p ≤ 3 ∧
  ∀ v k H', ExB l H H' → Dr (n + 10 * (d + 1)) H' l → okK p k → depK k ≤ d → Dp K (W L H') v (kdD k) → Q v H'
def spJointP (K : PySem.W.Frag) : Nat → Sp
  | 0 => fun _ _ _ _ => False
  | d + 1 => spJoint K d
def spPair (K : PySem.W.Frag) : Nat → Sp
  | 0 => fun _ _ _ _ => False
  | d + 1 => fun vs H Q _ => ∃ (l : Addr) (p : Int) (n : Nat) (L : List Addr), vs = [.ref l, .int p, .int ((d + 1 : Nat) : Int)] ∧ Dr n H l ∧ n + 20 * (d + 1) + 10 < 800000 ∧ l ∈ L ∧ Hid L H ∧ 1 ≤ p ∧ p ≤ 3 ∧
  ∀ v k m H', ExB l H H' → Dr (n + 10 * (d + 1) + 5) H' l → okK p k → okK p m → depK k ≤ d → depK m ≤ d → Dp K (W L H') v (.tuple [kdD k, kdD m]) → Q v H'
section
variable {P : Program} {w : World} {K : PySem.W.Frag} {mg : Str → Option Value} {base : Heap}
theorem pair_body {f : Addr} {fd : FuncData} (F : Fun K "_law_pair" "_law_pair" s_pair f fd) (T : TxR mg) (d : Nat) (D_draw : DefAt P w K mg base "_law_draw" 1 ["_law_draws", "_law_many"] spDraw) (D_part : DefAt P w K mg base "_law_part" 3 ["_law_draws", "_law_places"] (spPlain K))
    (D_joint : DefAt P w K mg base "_law_joint" (2 * d + 4) ["_law_draws", "_law_places", "_law_deep"] (spJoint K d)) : FnOk P w K mg base CX0 (2 * d + 5) f fd ["_law_draws", "_law_places", "_law_deep"] (spPair K (d + 1)) := by
  refine F.ok sc_pair (fun vs H Q E h => ?_) (fun cdv A outer s H vs Q E hr h => ?_)
  · obtain ⟨_, _, _, _, rfl, _⟩ := h
    rfl
  · obtain ⟨l, p, n, L, rfl, hd, hn, hl, hL, p1, p3, k⟩ := h
    refine ⟨_, (pss_cons (ps_set (i := 3) sc_pair.nd rfl (by first | exact Or.inl rfl | exact Or.inr rfl) (pe_tup (pa_cons (pe_callD D_part (by first | exact hr | exact hr.mono (by decide) | exact hr.mono (by omega)) (by rfl) (pa_cons (pv 0) (pa_cons (pv 1) pa_nil))) (pa_cons (pe_callD D_joint (by first | exact hr | exact hr.mono (by decide) | exact hr.mono (by omega)) (by rfl) (pa_cons (pv 0) (pa_cons (pv 1) (pa_cons (pe_op op_sub (pv 2) pe_int) pa_nil)))) pa_nil))))
    (pss_one (ps_ret (pe_ix ix_list (pe_lst (pa_cons (pv 3) (pa_cons (pe_revT (pv 3)) pa_nil))) (pe_callD D_draw (by first | exact hr | exact hr.mono (by decide) | exact hr.mono (by omega)) (by rfl) (pa_cons (pv 0) (pa_cons pe_int pa_nil))) (fun _ _ => rfl))))), ?_⟩
    have ed : ((d + 1 : Nat) : Int) - 1 = (d : Int) := by omega
    refine ⟨_, rfl, _, rfl, l, p, n, L, rfl, hd, by omega, hl, hL, p1, p3, fun v1 k1 H1 e1 hd1 ok1 dk1 hv1 => ?_⟩
    refine ⟨_, rfl, _, rfl, _, rfl, _, _, rfl, rfl, l, p, n + 2, L, (by show [V.ref l, V.int p, V.int (((d + 1 : Nat) : Int) - 1)] = _; rw [ed]), hd1, by omega, hl, e1.hid hd1.ne hL, p1, p3, fun v2 k2 H2 e2 hd2 ok2 dk2 hv2 => ?_⟩
    have e12 := e1.trans e2
    have hL2 := e12.hid hd2.ne hL
    replace hv1 := hv1.up (e2.w hl)
    refine ⟨by show 2 ≤ sizeLine; decide, fun r hr => ?_⟩
    have rl : r ≠ l := ne_of_none' hr hd2.ne
    have hrL : r ∉ L := hid_not hL2 hr
    refine ⟨_, rfl, _, rfl, r, v1, v2, rfl, SqT.of upd_same, fun r2 hr2 => ⟨by show 2 ≤ sizeLine; decide, fun t ht => ?_⟩⟩
    have eA : Ex H2 (upd H2 r (.tup [v1, v2])) := Ex.new hr
    have hA : (upd H2 r (.tup [v1, v2])) r = some (.tup [v1, v2]) := upd_same
    generalize upd H2 r (.tup [v1, v2]) = Ha at eA hA hr2 ht ⊢
    have eB : Ex Ha (upd Ha r2 (.tup [v2, v1])) := Ex.new hr2
    have hB : (upd Ha r2 (.tup [v2, v1])) r2 = some (.tup [v2, v1]) := upd_same
    have r2l : r2 ≠ l := ne_of_none' hr2 (hd2.ex eA).ne
    have r2L : r2 ∉ L := hid_not ((e12.trans (ExB.of eA)).hid (hd2.ex eA).ne hL) hr2
    generalize upd Ha r2 (.tup [v2, v1]) = Hb at eB hB ht ⊢
    have eC : Ex Hb (upd Hb t (.lst [.ref r, .ref r2])) := Ex.new ht
    have hC : (upd Hb t (.lst [.ref r, .ref r2])) t = some (.lst [.ref r, .ref r2]) := upd_same
    have tl : t ≠ l := ne_of_none' ht ((hd2.ex eA).ex eB).ne
    generalize upd Hb t (.lst [.ref r, .ref r2]) = Hc at eC hC ⊢
    have eac := (eA.trans eB).trans eC
    refine draw_run (n := n + 2 + 10 * (d + 1)) (l := l) (many := 2) (by rfl) (hd2.ex eac) (by omega) Evl.ev_c (by decide) (by decide) fun i H3 r0 r1 hd3 e3 => ?_
    have e23 := (ExB.of eac).trans e3
    have e03 := e12.trans e23
    replace hv1 := hv1.up (e23.w hl)
    replace hv2 := hv2.up (e23.w hl)
    have h3r : SqT K (W L H3) r [v1, v2] := SqT.of (w_of hrL (e3 r _ rl (eC _ _ (eB _ _ hA))))
    have h3r2 : SqT K (W L H3) r2 [v2, v1] := SqT.of (w_of r2L (e3 r2 _ r2l (eC _ _ hB)))
    have hdk : depK k1 ≤ d := by omega
    rcases (by omega : i = 0 ∨ i = 1) with rfl | rfl
    · refine ⟨t, _, 0, .ref r, rfl, rfl, SqL.of (e3 t _ tl hC), rfl, ?_⟩
      exact k _ k1 k2 H3 e03 (hd3.up (by omega)) ok1 ok2 hdk dk2 (.tup h3r (.cons hv1 (.cons hv2 .nil)))
    · refine ⟨t, _, 1, .ref r2, rfl, rfl, SqL.of (e3 t _ tl hC), rfl, ?_⟩
      exact k _ k2 k1 H3 e03 (hd3.up (by omega)) ok2 ok1 dk2 hdk (.tup h3r2 (.cons hv2 (.cons hv1 .nil)))
def tJ (K : PySem.W.Frag) (d : Nat) : TS :=
  tSeq
    (tIfS (tOr (tTest (tOp rEq (tVar 2) (tC (V.int 0)))) (tTest (tOp rEq (tCallD spDraw (tCons (tVar 0) (tCons (tC (V.int 2)) tNil))) (tC (V.int 0)))))
      (tRet (tCallD (spPlain K) (tCons (tVar 0) (tCons (tVar 1) tNil)))) tNext)
    (tSeq (tAsg (tCallD (spPick K) (tCons (tVar 0) (tCons (tLst (tCons (tC (V.str "not")) (tCons (tC (V.str "both")) (tCons (tC (V.str "either")) (tCons (tC (V.str "any")) tNil))))) tNil))) (gName 3))
      (tSeq
        (tIfS (tTest (tOp rEq (tVar 3) (tC (V.str "not"))))
          (tRet (tTup (tCons (tVar 3) (tCons (tCallD (spJointP K d) (tCons (tVar 0) (tCons (tVar 1) (tCons (tOp (rI0 fun i j => V.int (i - j)) (tVar 2) (tC (V.int 1))) tNil)))) tNil)))) tNext)
        (tRet (tOp (rCatT K) (tTup (tCons (tVar 3) tNil)) (tCallD (spPair K d) (tCons (tVar 0) (tCons (tVar 1) (tCons (tVar 2) tNil))))))))
theorem joint_run {H : Hp} {l : Addr} {p : Int} {n d : Nat} {L : List Addr} {Q : VK} {qn : L2.St → Hp → Prop} (hd : Dr n H l) (hn : n + 20 * (d + 1) < 800000) (hl : l ∈ L) (hL : Hid L H) (p1 : 1 ≤ p) (p3 : p ≤ 3)
    (k : ∀ v k H', ExB l H H' → Dr (n + 10 * (d + 1)) H' l → okK p k → depK k ≤ d → Dp K (W L H') v (kdD k) → Q v H') :
    tJ K d { nx := qn, rt := Q } [some (.ref l), some (.int p), some (.int d), none] H := by
  have plain : ∀ (m : Nat) (H1 : Hp), ExB l H H1 → Dr m H1 l → m ≤ n + 1 → tRet (tCallD (spPlain K) (tCons (tVar 0) (tCons (tVar 1) tNil))) { nx := qn, rt := Q } [some (.ref l), some (.int p), some (.int d), none] H1 := fun m H1 e1 hd1 hm =>
    ⟨_, rfl, _, rfl, l, p, m, L, rfl, hd1, by omega, hl, e1.hid hd1.ne hL, p1, p3, fun v kd H2 e2 hd2 ok dk hv => k v kd H2 (e1.trans e2) (hd2.up (by omega)) ok (by omega) hv⟩
  refine ⟨_, rfl, rfl, _, rfl, ?_⟩
  refine ite2 (fun hc => ?_) (fun hc => ?_)
  · exact plain n H (ExB.refl l H) hd (by omega)
  obtain ⟨d, rfl⟩ : ∃ d', d = d' + 1 := by
    cases d with
    | zero => exact absurd (show decide (V.int ((0 : Nat) : Int) = V.int 0) = true from rfl) hc
    | succ d => exact ⟨d, rfl⟩
  have ed : ((d + 1 : Nat) : Int) - 1 = (d : Int) := by omega
  refine draw_run (n := n) (many := 2) (by rfl) hd (by omega) Evl.ev_c (by decide) (by decide) fun r H1 r0 r1 hd1 e1 => ?_
  refine ⟨rfl, _, rfl, ?_⟩
  refine ite2 (fun hc => ?_) (fun hc => ?_)
  · exact plain (n + 1) H1 e1 hd1 (by omega)
  have words : Evl.EvL (tLst (tCons (tC (V.str "not")) (tCons (tC (V.str "both")) (tCons (tC (V.str "either")) (tCons (tC (V.str "any")) tNil))))) [some (.ref l), some (.int p), some (.int ((d + 1 : Nat) : Int)), none] H1 ((["not", "both", "either", "any"] : List Str).map V.str) :=
    Evl.el_lst (Evl.ea_cons Evl.ev_c (Evl.ea_cons Evl.ev_c (Evl.ea_cons Evl.ev_c (Evl.ea_cons Evl.ev_c Evl.ea_nil)))) (by decide)
  refine words_run (L := L) (n := n + 1) (by rfl) hd1 (by omega) hl (e1.hid hd1.ne hL) (by decide) (by decide) words fun z H2 hz e2 hd2 => ?_
  have e02 := e1.trans e2
  have hL2 := e02.hid hd2.ne hL
  by_cases hnot : z = "not"
  · subst hnot
    refine ⟨_, rfl, rfl, _, rfl, ?_⟩
    refine ⟨_, rfl, _, rfl, _, rfl, _, rfl, _, _, rfl, rfl, l, p, n + 2, L, (by show [V.ref l, V.int p, V.int (((d + 1 : Nat) : Int) - 1)] = _; rw [ed]), hd2, by omega, hl, hL2, p1, p3, fun v kd H3 e3 hd3 ok dk hv => ?_⟩
    refine ⟨by show 2 ≤ sizeLine; decide, fun r hr => ?_⟩
    have e03 := e02.trans e3
    have rL : r ∉ L := hid_not (e03.hid hd3.ne hL) hr
    have e4 : ExB l H3 (upd H3 r (.tup [V.str "not", v])) := ExB.of (Ex.new hr)
    exact k _ (.no kd) _ (e03.trans e4) ((hd3.ex (Ex.new hr)).up (by omega)) ok (by show depK kd + 1 ≤ d + 1; omega) (.tup (SqT.of (w_of rL upd_same)) (.cons (.str _) (.cons (hv.up (e4.w hl)) .nil)))
  · refine ⟨_, rfl, rfl, _, rfl, ?_⟩
    refine ite2 (fun hc => absurd ?_ hnot) (fun hc => ?_)
    · have := of_decide_eq_true hc
      injection this
    refine ⟨_, rfl, by show 1 ≤ sizeLine; decide, fun r hr => ?_⟩
    have e3 : Ex H2 (upd H2 r (.tup [V.str z])) := Ex.new hr
    have hr3 : (upd H2 r (.tup [V.str z])) r = some (.tup [V.str z]) := upd_same
    have rl : r ≠ l := ne_of_none' hr hd2.ne
    generalize upd H2 r (.tup [V.str z]) = Ha at e3 hr3 ⊢
    have hdA := hd2.ex e3
    have e0A := e02.trans (ExB.of e3)
    refine ⟨_, rfl, _, rfl, _, rfl, l, p, n + 2, L, rfl, hdA, by omega, hl, e0A.hid hdA.ne hL, p1, p3, fun v k1 k2 H3 e4 hd4 ok1 ok2 dk1 dk2 hv => ?_⟩
    cases hv with
    | @tup q xs _ hs ha =>
      have hlen := dpa_len ha
      refine ⟨r, q, [.str z], xs, rfl, rfl, SqT.of (e4 r _ rl hr3), Evl.ex_t w_sub hs, by simp, ?_, fun e => ?_, fun _ t ht => ?_⟩
      · show 1 + xs.length ≤ sizeLine
        rw [hlen]
        show 3 ≤ sizeLine
        decide
      · rw [e] at hlen
        cases hlen
      · have e04 := e0A.trans e4
        have tL : t ∉ L := hid_not (e04.hid hd4.ne hL) ht
        have e5 : ExB l H3 (upd H3 t (.tup ([V.str z] ++ xs))) := ExB.of (Ex.new ht)
        have fin : ∀ kd : Kd, kdD kd = .tuple [.str z, kdD k1, kdD k2] → okK p kd → depK kd ≤ d + 1 → Q (.ref t) (upd H3 t (.tup ([V.str z] ++ xs))) := fun kd e ok dk => by
          refine k _ kd _ (e04.trans e5) ((hd4.ex (Ex.new ht)).up (by omega)) ok dk ?_
          rw [e]
          exact .tup (SqT.of (w_of tL upd_same)) (.cons (.str z) (ha.up (e5.w hl)))
        simp only [List.mem_cons, List.not_mem_nil, or_false] at hz
        rcases hz with h | h | h | h
        · exact absurd h hnot
        · subst h
          exact fin (.both k1 k2) rfl ⟨ok1, ok2⟩ (by show max (depK k1) (depK k2) + 1 ≤ d + 1; omega)
        · subst h
          exact fin (.either k1 k2) rfl ⟨ok1, ok2⟩ (by show max (depK k1) (depK k2) + 1 ≤ d + 1; omega)
        · subst h
          exact fin (.any k1 k2) rfl ⟨ok1, ok2⟩ (by show max (depK k1) (depK k2) + 1 ≤ d + 1; omega)
theorem joint_body {f : Addr} {fd : FuncData} (F : Fun K "_law_joint" "_law_joint" s_joint f fd) (T : TxR mg) (d : Nat) (D_draw : DefAt P w K mg base "_law_draw" 1 ["_law_draws", "_law_many"] spDraw) (D_pick : DefAt P w K mg base "_law_pick" 2 ["_law_draws", "_law_things"] (spPick K)) (D_part : DefAt P w K mg base "_law_part" 3 ["_law_draws", "_law_places"] (spPlain K))
    (D_joint : DefAt P w K mg base "_law_joint" (2 * d + 2) ["_law_draws", "_law_places", "_law_deep"] (spJointP K d)) (D_pair : DefAt P w K mg base "_law_pair" (2 * d + 3) ["_law_draws", "_law_places", "_law_deep"] (spPair K d)) : FnOk P w K mg base CX0 (2 * d + 4) f fd ["_law_draws", "_law_places", "_law_deep"] (spJoint K d) := by
  refine F.ok sc_joint (fun vs H Q E h => ?_) (fun cdv A outer s H vs Q E hr h => ?_)
  · obtain ⟨_, _, _, _, rfl, _⟩ := h
    rfl
  · obtain ⟨l, p, n, L, rfl, hd, hn, hl, hL, p1, p3, k⟩ := h
    refine ⟨_, (pss_cons (ps_if (PW.pt (pw_or (pt_cmpR op_eq (pv 2) pe_int (nomark _)) (pw_or1 (pt_cmpR op_eq (pe_callD D_draw (by first | exact hr | exact hr.mono (by decide) | exact hr.mono (by omega)) (by rfl) (pa_cons (pv 0) (pa_cons pe_int pa_nil))) pe_int (nomark _))))) (pss_one (ps_ret (pe_callD D_part (by first | exact hr | exact hr.mono (by decide) | exact hr.mono (by omega)) (by rfl) (pa_cons (pv 0) (pa_cons (pv 1) pa_nil))))) pss_nil)
    (pss_cons (ps_set (i := 3) sc_joint.nd rfl (by first | exact Or.inl rfl | exact Or.inr rfl) (pe_callD D_pick (by first | exact hr | exact hr.mono (by decide) | exact hr.mono (by omega)) (by rfl) (pa_cons (pv 0) (pa_cons (pe_lst (pa_cons pe_str (pa_cons pe_str (pa_cons pe_str (pa_cons pe_str pa_nil))))) pa_nil))))
    (pss_cons (ps_if (pt_cmpR op_eq (pv 3) pe_str (nomark _)) (pss_one (ps_ret (pe_tup (pa_cons (pv 3) (pa_cons (pe_callD D_joint (by first | exact hr | exact hr.mono (by decide) | exact hr.mono (by omega)) (by rfl) (pa_cons (pv 0) (pa_cons (pv 1) (pa_cons (pe_op op_sub (pv 2) pe_int) pa_nil)))) pa_nil))))) pss_nil)
    (pss_one (ps_ret (pe_op op_catT (pe_tup (pa_cons (pv 3) pa_nil)) (pe_callD D_pair (by first | exact hr | exact hr.mono (by decide) | exact hr.mono (by omega)) (by rfl) (pa_cons (pv 0) (pa_cons (pv 1) (pa_cons (pv 2) pa_nil)))))))))), ?_⟩
    exact joint_run hd hn hl hL p1 p3 k
theorem spec_body {f : Addr} {fd : FuncData} (F : Fun K "_law_spec" "_law_spec" s_spec f fd) (T : TxR mg) (d : Nat) (D_draw : DefAt P w K mg base "_law_draw" 1 ["_law_draws", "_law_many"] spDraw) (D_pick : DefAt P w K mg base "_law_pick" 2 ["_law_draws", "_law_things"] (spPick K)) (D_plain : DefAt P w K mg base "_law_plain" 3 ["_law_draws", "_law_places"] (spPlain K))
    (D_spec : DefAt P w K mg base "_law_spec" (2 * d + 2) ["_law_draws", "_law_places", "_law_deep"] (spJointP K d)) (D_pair : DefAt P w K mg base "_law_pair" (2 * d + 3) ["_law_draws", "_law_places", "_law_deep"] (spPair K d)) : FnOk P w K mg base CX0 (2 * d + 4) f fd ["_law_draws", "_law_places", "_law_deep"] (spJoint K d) := by
  refine F.ok sc_spec (fun vs H Q E h => ?_) (fun cdv A outer s H vs Q E hr h => ?_)
  · obtain ⟨_, _, _, _, rfl, _⟩ := h
    rfl
  · obtain ⟨l, p, n, L, rfl, hd, hn, hl, hL, p1, p3, k⟩ := h
    refine ⟨_, (pss_cons (ps_if (PW.pt (pw_or (pt_cmpR op_eq (pv 2) pe_int (nomark _)) (pw_or1 (pt_cmpR op_eq (pe_callD D_draw (by first | exact hr | exact hr.mono (by decide) | exact hr.mono (by omega)) (by rfl) (pa_cons (pv 0) (pa_cons pe_int pa_nil))) pe_int (nomark _))))) (pss_one (ps_ret (pe_callD D_plain (by first | exact hr | exact hr.mono (by decide) | exact hr.mono (by omega)) (by rfl) (pa_cons (pv 0) (pa_cons (pv 1) pa_nil))))) pss_nil)
    (pss_cons (ps_set (i := 3) sc_spec.nd rfl (by first | exact Or.inl rfl | exact Or.inr rfl) (pe_callD D_pick (by first | exact hr | exact hr.mono (by decide) | exact hr.mono (by omega)) (by rfl) (pa_cons (pv 0) (pa_cons (pe_lst (pa_cons pe_str (pa_cons pe_str (pa_cons pe_str (pa_cons pe_str pa_nil))))) pa_nil))))
    (pss_cons (ps_if (pt_cmpR op_eq (pv 3) pe_str (nomark _)) (pss_one (ps_ret (pe_tup (pa_cons (pv 3) (pa_cons (pe_callD D_spec (by first | exact hr | exact hr.mono (by decide) | exact hr.mono (by omega)) (by rfl) (pa_cons (pv 0) (pa_cons (pv 1) (pa_cons (pe_op op_sub (pv 2) pe_int) pa_nil)))) pa_nil))))) pss_nil)
    (pss_one (ps_ret (pe_op op_catT (pe_tup (pa_cons (pv 3) pa_nil)) (pe_callD D_pair (by first | exact hr | exact hr.mono (by decide) | exact hr.mono (by omega)) (by rfl) (pa_cons (pv 0) (pa_cons (pv 1) (pa_cons (pv 2) pa_nil)))))))))), ?_⟩
    exact joint_run hd hn hl hL p1 p3 k
end
end U

set_option Elab.async false
set_option linter.all false
set_option maxRecDepth 100000
set_option maxHeartbeats 4000000
/-! set(xs) of a list of ints. -/
namespace HL
open PySem PySem.Spec PyProof.Rows L2 in
section
variable {P : Program} {w : World} {A : Around} {E : Value → Shared → Prop} {s : Shared} {l : Addr} {xs : Array Value} {Q : Value → Shared → Prop}
/-- the new set -/
abbrev eS (w : World) : Obj := { cls := .type "set", dict := none, data := .set #[] 0 (.fresh 0 0 (!w.params.followText "set-order")) }
theorem ints_val {ns : List Int} (hi : IntsAre xs.toList ns) (i : Nat) (v : Value) (hv : xs[i]? = some v) : ∃ k t, ns[i]? = some k ∧ v = .int k t := by
  have hz : xs.size = ns.length := by rw [← IntsAre.length hi, Array.length_toList]
  have hlt : i < ns.length := hz ▸ (Array.getElem?_eq_some_iff.mp hv).1
  obtain ⟨t, e⟩ := IntsAre.int_at hi i v (Array.getElem?_toList ▸ hv)
  exact ⟨ns[i], t, List.getElem?_eq_getElem hlt, by rw [e, List.getD_eq_getElem?_getD, List.getElem?_eq_getElem hlt]; rfl⟩
/-- what set.__init__ of it does -/
theorem set_init {ns : List Int} (hh : A.handled = none) (hl : s.heap.IsList l xs) (hi : IntsAre xs.toList ns) (hb : ns.length + 1 < scanBound) :
    codeAny (model P w) A (.call (.builtin "set.__init__") ⟨[.ref s.heap.objs.size, .ref l], []⟩)
      (wants (fun r s2 => r = .none ∧ ∃ (h' : Heap) (tk c : Nat), s2 = { s with heap := h', toks := tk } ∧ SetR w h' s.heap.objs.size (fun j => decide (j ∈ ns)) c ∧ c ≤ ns.length ∧ ∀ b o, s.heap.get? b = some o → h'.get? b = some o) E)
      { s with heap := s.heap.push (eS w) } := by
  have hz : xs.size = ns.length := by rw [← IntsAre.length hi, Array.length_toList]
  have z1 : (s.heap.push (eS w)).objs.size = s.heap.objs.size + 1 := Heap.size_push ..
  have one : (s.heap.push (eS w)).get? s.heap.objs.size = some (eS w) := Heap.get?_push_size _ rfl
  have hl1 : (s.heap.push (eS w)).IsList l xs := hl.push _
  obtain ⟨ol, hol, hcl, nl, hdl⟩ := id hl
  have lS : l < s.heap.objs.size := Heap.lt_size hol
  have nS : s.heap.objs.size ∉ [(s.heap.push (eS w)).objs.size, l] := by
    rw [z1]
    simp only [List.mem_cons, List.not_mem_nil, or_false]
    rintro (z | z)
    · exact Nat.succ_ne_self _ z.symm
    · exact Nat.ne_of_gt lS z
  have nI : l ≠ (s.heap.push (eS w)).objs.size := by
    rw [z1]
    exact Nat.ne_of_lt (Nat.lt_succ_of_lt lS)
  have ty : Shared.TypeIs { s with heap := s.heap.push (eS w) } (.ref s.heap.objs.size) "set" := ⟨_, one, rfl⟩
  obtain ⟨oc, odc, oda, osl⟩ := ol
  simp only at hcl hdl
  subst hcl hdl
  have q1 := F.sub_list_set
  have q2 := F.sub_list_frozenset
  have q3 : (Value.type "list" == Value.type "dict") = false := rfl
  have q4 := Heap.get?_push_of_some (eS w) hol
  refine codeAny_call_builtin F.called_set.init.plain F.entry_set_init (check_set_init_1 ty ?_)
  unfold Builtin.«set.__init__» noKeywords Builtin.Frozenset.updateFrom
  generalize g : pyIter = It
  wp_walk
  subst g
  refine wpAny_pyIter_list hl1 (wpAny_bind (wpAny_runValue ?_))
  have h0 : A.in1.in1.handled = none := by simp [hh]
  have two : ((s.heap.push (eS w)).push { cls := .type "list_iterator", data := .fields #[.ref l, .int 0 0] }).get? s.heap.objs.size = some (eS w) := Heap.get?_push_of_some _ one
  refine set_update_ints (Walks.list h0 _ l nI xs).toS s.heap.objs.size nS ns hz hb (ints_val hi) xs.size 0 _ (by omega) (Nat.zero_le _) ?h0 ?h1 ?h2
  case h0 => exact ⟨⟨_, Heap.get?_push_size _ rfl, rfl, rfl⟩, hl1.push _⟩
  case h1 => exact ⟨0, Nat.le_refl 0, setR_new_at two⟩
  rintro ⟨h', g2, d2, tk, o2⟩ c m hc R2
  obtain rfl : g2 = s.gens := m.gens
  obtain rfl : d2 = s.drawn := m.drawn
  obtain rfl : o2 = s.os := m.os
  refine wpAny_pure (wpAny_pure ⟨rfl, h', tk, c, rfl, R2, hz ▸ hc, fun b o e => ?_⟩)
  have lb := Heap.lt_size e
  exact m.heap b o (by
    rw [z1]
    simp only [List.mem_cons, List.not_mem_nil, or_false]
    rintro (z | z)
    · exact Nat.ne_of_lt lb z
    · exact Nat.ne_of_lt (Nat.lt_succ_of_lt lb) z) (Heap.get?_push_of_some _ (Heap.get?_push_of_some _ e))
/-- set(xs) -/
theorem set_call {ns : List Int} (hh : A.handled = none) (hl : s.heap.IsList l xs) (hi : IntsAre xs.toList ns) (hb : ns.length + 1 < scanBound)
    (h : ∀ (h' : Heap) (tk c : Nat), SetR w h' s.heap.objs.size (fun j => decide (j ∈ ns)) c → c ≤ ns.length → (∀ b o, s.heap.get? b = some o → h'.get? b = some o) → Q (.ref s.heap.objs.size) { s with heap := h', toks := tk }) :
    wpAny (model P w) A (call (.type "set") [.ref l]) Q E s := by
  obtain ⟨_, _, m1⟩ := F.called_set.mro
  have m2 := F.called_set.made; have m3 := F.called_set.sub
  have n1 := F.called_set.notType; have n2 := F.called_set.canCreate; have n3 := F.typeCall_set_1 (.ref l)
  refine wpAny_call (codeAny_of_tree (wpAny_pure (a := Fin.again _) ⟨Code.quiet_builtin _ (by decide +kernel), codeAny_builtin F.entry_type_call ?_⟩))
  rw [Around.under_plain (weight_type_call_type "set" [.ref l] []) rfl]
  repeat (any_goals (first | assumption | wp_step))
  refine codeAny_mono (code_set_led1 (.ref l) (E := E) (Q₁ := fun u t => u = .ref s.heap.objs.size ∧ t = { s with heap := s.heap.push (eS w) }) ⟨rfl, rfl⟩) fun r t hr => ?_
  match r, hr with
  | .error _, hr => exact hr
  | .ok .next, hr => exact hr.elim
  | .ok .brk, hr => exact hr.elim
  | .ok .cont, hr => exact hr.elim
  | .ok (.ret u), hr =>
    obtain ⟨rfl, rfl⟩ := hr
    have ty : Shared.TypeIs { s with heap := s.heap.push (eS w) } (.ref s.heap.objs.size) "set" := ⟨_, Heap.get?_push_size _ rfl, rfl⟩
    have i1 := F.called_set.init.lookup; have i2 := F.called_set.init.bind (.ref s.heap.objs.size)
    repeat (any_goals (first | assumption | wp_step))
    refine codeAny_mono (set_init (E := E) (by simp [hh]) hl hi hb) fun r t hr => ?_
    match r, hr with
    | .error _, hr => exact hr
    | .ok .next, hr => exact hr.elim
    | .ok .brk, hr => exact hr.elim
    | .ok .cont, hr => exact hr.elim
    | .ok (.ret u), hr =>
      obtain ⟨rfl, h', tk, c, rfl, R2, hc, k⟩ := hr
      repeat (any_goals (first | assumption | wp_step))
      exact h h' tk c R2 hc k
end
end HL
namespace L2
open PySem PySem.Spec PyProof.Rows
/-- set(xs), a list of fewer than 64 ints -/
def rSetI (K : PySem.W.Frag) (w : World) : List V → Hp → VK → Prop := fun xs H Q => ∃ (l : Addr) (ns : List Int), xs = [.ref l] ∧ SqL K H l (ns.map V.int) ∧ ns.length < 64 ∧ ∀ p c, H p = none → c ≤ ns.length → Q (.ref p) (upd H p (SetO w p (fun j => decide (j ∈ ns)) c))
theorem cr_setI {X : Cx} (hc : X.calm = true) : CallR X (.type "set") (rSetI X.K X.w) := by
  intro pins s σ H xs us Q I r h
  obtain ⟨l, ns, rfl, hq, hz, q⟩ := h
  rw [Vals.ref1 r]
  obtain ⟨its, rv, p, _⟩ := I.list hq
  refine HL.set_call (ns := ns) (I.ok.hd hc) p.isList (by simpa using ints_of_vals rv) (by unfold scanBound; omega) fun h' tk c R hcn k => ?_
  exact ⟨.ref _, _, I.laid (t' := tk) k (Nat.le_refl _) (setO_new R), rfl, q _ c (I.hok.fresh (Nat.le_refl _)) hcn⟩
end L2

set_option Elab.async false
set_option linter.all false
set_option maxRecDepth 100000
set_option maxHeartbeats 4000000
namespace U
open PySem PySem.Spec PyProof.Rows L2
open Evl (Ex)
abbrev s_rule : Stmt := top 24
abbrev sc_rule_N : List Str := ["_law_draws", "_law_spec_here", "_law_wide", "_law_word", "_law_at", "_law_changes", "_law_inner", "_law_k"]
theorem sc_rule : FnScope sc_rule_N ["_law_draws", "_law_spec_here", "_law_wide"] (defScope s_rule) := ⟨rfl, rfl, rfl, by decide +kernel, rfl, by decide +kernel, by decide +kernel⟩
/-- how many are drawn for a rule -/
def rc : Nat → Nat
  | 0 => 20
  | n + 1 => 2 * rc n + 1
/-- its numbers are small -/
def bR : Rl → Prop
  | .half ws b => (∀ e ∈ ws, e.natAbs ≤ 5000) ∧ b.natAbs ≤ 5000 ∧ ws.length ≤ 10
  | .box rs => (∀ q ∈ rs, bO 5000 q.1 ∧ bO 5000 q.2) ∧ rs.length ≤ 10
  | .rise cs => (∀ c ∈ cs, (∀ o ∈ c, bO 5000 o) ∧ c.length ≤ 10) ∧ cs.length ≤ 10
  | .flat ps => (∀ y ∈ ps, (∀ e ∈ y, e.natAbs ≤ 5000) ∧ y.length ≤ 10) ∧ ps.length ≤ 10
  | .turns _ cs => (∀ e ∈ cs, e.natAbs ≤ 5000) ∧ cs.length ≤ 10
  | .no r => bR r
  | .both r s => bR r ∧ bR s
  | .either r s => bR r ∧ bR s
  | .first r => bR r
  | .second r => bR r
theorem bO_up {w v : Int} {o : Option Int} (h : bO w o) (e : w ≤ v) : bO v o := fun i z => by
  have := h i z
  omega
/-- a drawn rule of the kind -/
def spDrawn (K : PySem.W.Frag) (n : Nat) : Sp := fun vs H Q _ => ∃ (l : Addr) (v : V) (k : Kd) (p w : Int) (m : Nat) (L : List Addr), vs = [.ref l, v, .int w] ∧ Dr m H l ∧ m + rc n < 700000 ∧ l ∈ L ∧ Hid L H ∧ 1 ≤ p ∧ p ≤ 3 ∧ 0 ≤ w ∧ w ≤ 1000 ∧
  Dp K (W L H) v (kdD k) ∧ okK p k ∧ depK k ≤ n ∧ ∀ u r H', ExB l H H' → Dr (m + rc n) H' l → okR p.toNat r → depR r ≤ n → bR r → Dp K (W L H') u (rlD true r) → Q u H'
def spDrawnP (K : PySem.W.Frag) : Nat → Sp
  | 0 => fun _ _ _ _ => False
  | n + 1 => spDrawn K n
structure TxL (mg : Str → Option Value) : Prop extends TxR mg where
  m_sorted : mg "sorted" = none
  m_set : mg "set" = none
theorem rc_le (n : Nat) : 20 ≤ rc n := by
  induction n with
  | zero => exact Nat.le_refl _
  | succ n ih => show 20 ≤ 2 * rc n + 1; omega
section
variable {K : PySem.W.Frag} {L : List Addr} {H H2 H' : Hp} {l Dl : Addr} {m c i : Nat} {α : Type} {D : α → PyData} {A : α → Prop} {te : TE} {σ2 : L2.St}
theorem gr_exB {t : Addr} {ds : List PyData} (h : Gr K L H t ds) (e : ExB l H H') (m : l ∈ L) : Gr K L H' t ds := by
  obtain ⟨n, xs, h1, h2⟩ := h
  exact ⟨n, xs, e t _ (fun z => n (by rw [z]; exact m)) h1, h2.up (e.w (List.mem_cons_of_mem _ m))⟩
/-- items drawn so far -/
def Cdr (K : PySem.W.Frag) (L : List Addr) (H : Hp) (l Dl : Addr) (m c : Nat) (D : α → PyData) (A : α → Prop) (i : Nat) (H' : Hp) : Prop :=
  ExB l H H' ∧ Dr (m + c * i) H' l ∧ ∃ xs : List α, xs.length = i ∧ (∀ x ∈ xs, A x) ∧ Gr K L H' Dl (xs.map D)
theorem cdr_0 (hL : Hid L H) (hn : H Dl = none) (hd : Dr m H l) : Cdr K L H l Dl m c D A 0 (upd H Dl (.lst [])) :=
  ⟨ExB.of (Ex.new hn), hd.ex (Ex.new hn), [], rfl, fun x hx => (nomatch hx), gr_new hL hn .nil⟩
theorem cdr_turn (p : Cdr K L H l Dl m c D A i H2) (hn : H Dl = none) (hl : l ∈ L) (hd : H l ≠ none) (hi : i < 50000)
    (k : Hid (Dl :: L) H2 → ∀ Q : VK, (∀ u x H3, ExB l H2 H3 → Dr (m + c * (i + 1)) H3 l → A x → Dp K (W (Dl :: L) H3) u (D x) → Q u H3) → te σ2 H2 Q) (hL : Hid L H) :
    te σ2 H2 fun y H4 => ∃ acc, H4 Dl = some (.lst acc) ∧ acc.length < sizeLine ∧ Cdr K L H l Dl m c D A (i + 1) (upd H4 Dl (.lst (acc ++ [y]))) := by
  obtain ⟨e2, d2, xs, hx, ha, g⟩ := p
  have nl : Dl ≠ l := fun e => hd (by rw [← e]; exact hn)
  refine k (fun a z => (List.mem_cons.mp z).elim (fun q => by rw [q]; exact g.ne) fun q => (e2.hid d2.ne hL) a q) _ fun u x H3 e3 d3 ax hu => ?_
  obtain ⟨nD, ys, h1, h2⟩ := gr_exB g e3 hl
  have ly := dpa_len h2
  rw [List.length_map] at ly
  refine ⟨ys, h1, Evl.sz_lt (by omega), fun b o nb hb => ?_, ?_, xs ++ [x], by rw [List.length_append, hx]; rfl, fun z hz => ?_, ?_⟩
  · rw [upd_ne (ne_of_none hb hn)]
    exact e3 b o nb (e2 b o nb hb)
  · obtain ⟨a, b, c, q1, q2⟩ := d3
    exact ⟨a, b, c, by rw [upd_ne (Ne.symm nl)]; exact q1, q2⟩
  · rcases List.mem_append.mp hz with q | q
    · exact ha z q
    · rw [List.mem_singleton.mp q]
      exact ax
  · rw [List.map_append]
    exact gr_app nD h1 h2 hu
end
section
variable {K : PySem.W.Frag} {L : List Addr} {H H1 H2 H' : Hp} {l Dl a : Addr} {m c i n : Nat} {α : Type} {D : α → PyData} {A : α → Prop} {te : TE} {σ σ2 : L2.St} {p wd : Int} {Q : VK} {z : Str} {us : List V} {qn : L2.St → Hp → Prop}
abbrev tTupOf (K : PySem.W.Frag) (te : TE) : TE := tCB (fun xs H Q => ∃ p ys, xs = [V.ref p] ∧ ((SqL K H p ys ∧ ∀ l, H l = none → Q (V.ref l) (upd H l (.tup ys))) ∨ (SqT K H p ys ∧ Q (V.ref p) H))) (tCons te tNil)
/-- the tuple of what was drawn -/
theorem tup_fin (hL : Hid L H) (hl : l ∈ L) (pv : Cdr K L H l Dl m c D A i H2)
    (k : ∀ t (xs : List α) H3, xs.length = i → (∀ x ∈ xs, A x) → ExB l H H3 → Dr (m + c * i) H3 l → Dp K (W L H3) (.ref t) (.tuple (xs.map D)) → Q (.ref t) H3) :
    ∃ p ys, [V.ref Dl] = [V.ref p] ∧ ((SqL K H2 p ys ∧ ∀ r, H2 r = none → Q (V.ref r) (upd H2 r (.tup ys))) ∨ (SqT K H2 p ys ∧ Q (V.ref p) H2)) := by
  obtain ⟨e2, d2, xs, hx, ha, nD, ys, h1, h2⟩ := pv
  refine ⟨Dl, ys, rfl, .inl ⟨SqL.of h1, fun r hr => ?_⟩⟩
  have rL : r ∉ L := hid_not (e2.hid d2.ne hL) hr
  exact k r xs _ hx ha (e2.trans (ExB.of (Ex.new hr))) (d2.ex (Ex.new hr)) (.tup (SqT.of (w_of rL upd_same)) ((h2.up w_cons).up (w_ex (Ex.new hr))))
/-- (word, data) -/
theorem pack2 {u : V} {d : PyData} (hL : Hid L H2) (hd : Dr m H2 l) (hu : Dp K (W L H2) u d) (k : ∀ t H3, ExB l H2 H3 → Dr m H3 l → Dp K (W L H3) (.ref t) (.tuple [.str z, d]) → Q (.ref t) H3) :
    [V.str z, u].length ≤ sizeLine ∧ ∀ r, H2 r = none → Q (.ref r) (upd H2 r (.tup [V.str z, u])) :=
  ⟨by show 2 ≤ sizeLine; decide, fun r hr => k r _ (ExB.of (Ex.new hr)) (hd.ex (Ex.new hr)) (.tup (SqT.of (w_of (hid_not hL hr) upd_same)) (.cons (.str z) (.cons (hu.up (w_ex (Ex.new hr))) .nil)))⟩
theorem pack3 {u v : V} {d e : PyData} (hL : Hid L H2) (hd : Dr m H2 l) (hu : Dp K (W L H2) u d) (hv : Dp K (W L H2) v e) (k : ∀ t H3, ExB l H2 H3 → Dr m H3 l → Dp K (W L H3) (.ref t) (.tuple [.str z, d, e]) → Q (.ref t) H3) :
    [V.str z, u, v].length ≤ sizeLine ∧ ∀ r, H2 r = none → Q (.ref r) (upd H2 r (.tup [V.str z, u, v])) :=
  ⟨by show 3 ≤ sizeLine; decide, fun r hr => k r _ (ExB.of (Ex.new hr)) (hd.ex (Ex.new hr)) (.tup (SqT.of (w_of (hid_not hL hr) upd_same)) (.cons (.str z) (.cons (hu.up (w_ex (Ex.new hr))) (.cons (hv.up (w_ex (Ex.new hr))) .nil))))⟩
def kOut (K : PySem.W.Frag) (L : List Addr) (H : Hp) (l : Addr) (m n : Nat) (d : Nat) (Q : VK) : Prop := ∀ u r H', ExB l H H' → Dr (m + rc n) H' l → okR d r → depR r ≤ n → bR r → Dp K (W L H') u (rlD true r) → Q u H'
theorem half_run (h0 : σ[0]? = some (some (.ref l))) (h1 : σ[1]? = some (some (.ref a))) (h2 : σ[2]? = some (some (.int wd))) (hs : SqT K H a [.str z, .int p]) (hd : Dr m H l) (hm : m + rc n < 700000) (hl : l ∈ L) (hL : Hid L H) (p1 : 1 ≤ p) (p3 : p ≤ 3) (w0 : 0 ≤ wd) (w1 : wd ≤ 1000)
    (k : kOut K L H l m n p.toNat Q) : tRet (tTup (tCons (tC (V.str "half")) (tCons (tCallD (spPoint K) (tCons (tVar 0) (tCons (tOp (rIxT K) (tVar 1) (tC (V.int 1))) (tCons (tC (V.int 3)) tNil))))
      (tCons (tOp (rI0 fun i j => V.int (i - j)) (tCallD spDraw (tCons (tVar 0) (tCons (tOp (rI0 fun i j => V.int (i + j)) (tOp (rI CMul fun i j => V.int (i * j)) (tC (V.int 6)) (tVar 2)) (tC (V.int 1))) tNil))) (tOp (rI CMul fun i j => V.int (i * j)) (tC (V.int 3)) (tVar 2))) tNil))))
      { nx := qn, rt := Q } σ H := by
  have rn := rc_le n
  refine ⟨_, h0, _, h1, a, _, 1, .int p, rfl, rfl, hs, rfl, ?_⟩
  refine ⟨l, p, 3, m, L, rfl, hd, by omega, hl, hL, p1, p3, by decide, by decide, fun v ns H1 e1 d1 hn hw hv => ?_⟩
  refine draw_run (n := m + 3) (many := 6 * wd + 1) h0 d1 (by omega) (Evl.ev_op (Evl.ev_op Evl.ev_c (Evl.ev_var h2) (Evl.rv_I (C := CMul) (g := fun i j => .int (i * j)) (i := 6) (j := wd) (.inl ⟨by decide, by decide⟩))) Evl.ev_c (Evl.rv_I0 (g := fun i j => .int (i + j)))) (by omega) (by omega) fun r H3 r0 r1 d3 e3 => ?_
  refine ⟨_, h2, _, _, rfl, rfl, .inl ⟨by decide, by decide⟩, _, _, rfl, rfl, ?_⟩
  have e13 := e1.trans e3
  refine pack3 (z := "half") (m := m + 4) (l := l) (e13.hid d3.ne hL) d3 (hv.up (e3.w hl)) (.int (r - 3 * wd)) fun t H4 e4 d4 ht => ?_
  exact k _ (.half ns (r - 3 * wd)) H4 (e13.trans e4) (d4.up (by omega)) ⟨by omega, fun y hy => by have := hw y hy; omega⟩ (Nat.zero_le _) ⟨fun y hy => by have := hw y hy; omega, by omega, by omega⟩ ht
theorem box_run (h0 : σ[0]? = some (some (.ref l))) (h1 : σ[1]? = some (some (.ref a))) (h2 : σ[2]? = some (some (.int wd))) (hw : ∀ x, wipe ((wipe σ [7]).set 7 (some x)) [7] = wipe σ [7]) (h0' : ∀ x, ((wipe σ [7]).set 7 (some x))[0]? = some (some (.ref l))) (h2' : ∀ x, ((wipe σ [7]).set 7 (some x))[2]? = some (some (.int wd)))
    (hs : SqT K H a [.str z, .int p]) (hd : Dr m H l) (hm : m + rc n < 700000) (hl : l ∈ L) (hL : Hid L H) (p1 : 1 ≤ p) (p3 : p ≤ 3) (w0 : 0 ≤ wd) (w1 : wd ≤ 1000)
    (k : kOut K L H l m n p.toNat Q) : tRet (tTup (tCons (tC (V.str "box")) (tCons (tTupOf K (tLc (iRng1 (tCons (tOp (rIxT K) (tVar 1) (tC (V.int 1))) tNil)) (gName 7) tYes (tCallD (spRange K) (tCons (tVar 0) (tCons (tVar 2) tNil))) [7])) tNil)))
      { nx := qn, rt := Q } σ H := by
  have rn := rc_le n
  refine ⟨_, h1, a, _, 1, .int p, rfl, rfl, hs, rfl, p, rfl, by omega, by omega, fun Dl hD => ?_⟩
  refine lc_range (lo := 0) (n := p.toNat) (Cdr K L H l Dl m 6 (rgD true) (fun q => bO 5000 q.1 ∧ bO 5000 q.2)) (cdr_0 hL hD hd) (fun i H2 hi pv => ?_) (fun H2 pv => ?_)
  · refine ⟨hw _, yes_lc (B := fun H3 => Cdr K L H l Dl m 6 (rgD true) (fun q => bO 5000 q.1 ∧ bO 5000 q.2) (i + 1) H3) (cdr_turn pv hD hl hd.ne (by omega) (fun hh Q2 q2 => ?_) hL)⟩
    obtain ⟨_, d2, _⟩ := pv
    refine ⟨_, h0' _, _, h2' _, l, wd, m + 6 * i, Dl :: L, rfl, d2, by omega, List.mem_cons_of_mem _ hl, hh, w0, w1, fun v o1 o2 H3 e3 d3 b1 b2 hv => q2 v (o1, o2) H3 e3 (d3.up (by omega)) ⟨bO_up b1 (by omega), bO_up b2 (by omega)⟩ hv⟩
  · refine tup_fin (Q := fun u H3 => [V.str "box", u].length ≤ sizeLine ∧ ∀ p, H3 p = none → Q (.ref p) (upd H3 p (.tup [V.str "box", u]))) hL hl pv fun t xs H3 hx hxb e3 d3 ht => ?_
    refine pack2 (z := "box") (m := m + 6 * p.toNat) (l := l) (e3.hid d3.ne hL) d3 ht fun t H4 e4 d4 ht => ?_
    exact k _ (.box xs) H4 (e3.trans e4) (d4.up (by omega)) hx (Nat.zero_le _) ⟨hxb, by omega⟩ ht
theorem many_run {word : Str} {c : Nat} {α : Type} {D : α → PyData} {A : α → Prop} {te : TE} (h0 : σ[0]? = some (some (.ref l))) (hw : ∀ x, wipe ((wipe σ [7]).set 7 (some x)) [7] = wipe σ [7]) (hd : Dr m H l) (hm : m + rc n < 700000) (hc : 1 + 3 * c ≤ 20) (hl : l ∈ L) (hL : Hid L H)
    (he : ∀ (i : Nat) (L' : List Addr) (H2 : Hp) (m' : Nat), l ∈ L' → Hid L' H2 → ExB l H H2 → Dr m' H2 l → m' < 750000 → ∀ Q2 : VK, (∀ u x H3, ExB l H2 H3 → Dr (m' + c) H3 l → A x → Dp K (W L' H3) u (D x) → Q2 u H3) → te ((wipe σ [7]).set 7 (some (.int (0 + (i : Int))))) H2 Q2)
    (k : ∀ t (xs : List α) H3, xs.length ≤ 3 → (∀ x ∈ xs, A x) → ExB l H H3 → Dr (m + 20) H3 l → Dp K (W L H3) (.ref t) (.tuple [.str word, .tuple (xs.map D)]) → Q (.ref t) H3) :
    tRet (tTup (tCons (tC (V.str word)) (tCons (tTupOf K (tLc (iRng1 (tCons (tCallD spDraw (tCons (tVar 0) (tCons (tC (V.int 4)) tNil))) tNil)) (gName 7) tYes te [7])) tNil)))
      { nx := qn, rt := Q } σ H := by
  have rn := rc_le n
  refine draw_run (n := m) (many := 4) h0 hd (by omega) Evl.ev_c (by decide) (by decide) fun r H1 r0 r1 d1 e1 => ?_
  have hL1 := e1.hid d1.ne hL
  refine ⟨r, rfl, by omega, by omega, fun Dl hD => ?_⟩
  refine lc_range (lo := 0) (n := r.toNat) (Cdr K L H1 l Dl (m + 1) c D A) (cdr_0 hL1 hD d1) (fun i H2 hi pv => ?_) (fun H2 pv => ?_)
  · refine ⟨hw _, yes_lc (B := fun H3 => Cdr K L H1 l Dl (m + 1) c D A (i + 1) H3) (cdr_turn pv hD hl d1.ne (by omega) (fun hh Q2 q2 => ?_) hL1)⟩
    obtain ⟨e2, d2, _⟩ := pv
    have hci : c * i ≤ c * 3 := Nat.mul_le_mul_left c (by omega)
    refine he i (Dl :: L) H2 _ (List.mem_cons_of_mem _ hl) hh (e1.trans e2) d2 (by omega) Q2 fun u x H3 e3 d3 ax hu => q2 u x H3 e3 ?_ ax hu
    have : m + 1 + c * i + c = m + 1 + c * (i + 1) := by rw [Nat.mul_add]; omega
    rw [← this]
    exact d3
  · refine tup_fin (Q := fun u H3 => [V.str word, u].length ≤ sizeLine ∧ ∀ p, H3 p = none → Q (.ref p) (upd H3 p (.tup [V.str word, u]))) hL1 hl pv fun t xs H3 hx ha e3 d3 ht => ?_
    have e13 := e1.trans e3
    have hci : c * r.toNat ≤ c * 3 := Nat.mul_le_mul_left c (by omega)
    refine pack2 (z := word) (m := m + 1 + c * r.toNat) (l := l) (e13.hid d3.ne hL) d3 ht fun t H4 e4 d4 ht => ?_
    exact k t xs H4 (by omega) ha (e13.trans e4) (d4.up (by omega)) ht
theorem rise_run (h0 : σ[0]? = some (some (.ref l))) (h1 : σ[1]? = some (some (.ref a))) (h2 : σ[2]? = some (some (.int wd))) (hw : ∀ x, wipe ((wipe σ [7]).set 7 (some x)) [7] = wipe σ [7]) (h0' : ∀ x, ((wipe σ [7]).set 7 (some x))[0]? = some (some (.ref l))) (h1' : ∀ x, ((wipe σ [7]).set 7 (some x))[1]? = some (some (.ref a))) (h2' : ∀ x, ((wipe σ [7]).set 7 (some x))[2]? = some (some (.int wd)))
    (hs : SqT K (W L H) a [.str z, .int p]) (hd : Dr m H l) (hm : m + rc n < 700000) (hl : l ∈ L) (hL : Hid L H) (p1 : 1 ≤ p) (p3 : p ≤ 3) (w0 : 0 ≤ wd) (w1 : wd ≤ 1000)
    (k : kOut K L H l m n p.toNat Q) : tRet (tTup (tCons (tC (V.str "rise")) (tCons (tTupOf K (tLc (iRng1 (tCons (tCallD spDraw (tCons (tVar 0) (tCons (tC (V.int 4)) tNil))) tNil)) (gName 7) tYes (tCallD (spCorner K) (tCons (tVar 0) (tCons (tOp (rIxT K) (tVar 1) (tC (.int 1))) (tCons (tVar 2) tNil)))) [7])) tNil)))
      { nx := qn, rt := Q } σ H := by
  have rn := rc_le n
  refine many_run (n := n) (c := 6) (A := fun c : List (Option Int) => c.length = p.toNat ∧ ∀ o ∈ c, bO 5000 o) (D := fun c => .tuple (c.map oD)) h0 hw hd hm (by decide) hl hL (fun i L' H2 m' hl' hL' e2 d2 hm' Q2 q2 => ?_) fun t xs H3 hx ha e3 d3 ht => ?_
  · refine ⟨_, h0' _, _, h1' _, a, _, 1, .int p, rfl, rfl, Evl.ex_t (w_sub (L := L)) (Evl.ex_t (e2.w hl) hs), rfl, _, h2' _, l, p, wd, m', L', rfl, d2, by omega, hl', hL', p1, p3, w0, w1, fun v c H3 e3 d3 hc hb hv => q2 v c H3 e3 d3 ⟨by omega, fun o ho => bO_up (hb o ho) (by omega)⟩ hv⟩
  · exact k _ (.rise xs) H3 e3 (d3.up (by omega)) ⟨fun y hy => (ha y hy).1, by omega⟩ (Nat.zero_le _) ⟨fun y hy => ⟨(ha y hy).2, by have := (ha y hy).1; omega⟩, by omega⟩ ht
theorem flat_run (h0 : σ[0]? = some (some (.ref l))) (h1 : σ[1]? = some (some (.ref a))) (h2 : σ[2]? = some (some (.int wd))) (hw : ∀ x, wipe ((wipe σ [7]).set 7 (some x)) [7] = wipe σ [7]) (h0' : ∀ x, ((wipe σ [7]).set 7 (some x))[0]? = some (some (.ref l))) (h1' : ∀ x, ((wipe σ [7]).set 7 (some x))[1]? = some (some (.ref a))) (h2' : ∀ x, ((wipe σ [7]).set 7 (some x))[2]? = some (some (.int wd)))
    (hs : SqT K (W L H) a [.str z, .int p]) (hd : Dr m H l) (hm : m + rc n < 700000) (hl : l ∈ L) (hL : Hid L H) (p1 : 1 ≤ p) (p3 : p ≤ 3) (w0 : 0 ≤ wd) (w1 : wd ≤ 1000)
    (k : kOut K L H l m n p.toNat Q) : tRet (tTup (tCons (tC (V.str "flat")) (tCons (tTupOf K (tLc (iRng1 (tCons (tCallD spDraw (tCons (tVar 0) (tCons (tC (V.int 4)) tNil))) tNil)) (gName 7) tYes (tCallD (spPoint K) (tCons (tVar 0) (tCons (tOp (rIxT K) (tVar 1) (tC (.int 1))) (tCons (tVar 2) tNil)))) [7])) tNil)))
      { nx := qn, rt := Q } σ H := by
  have rn := rc_le n
  refine many_run (n := n) (c := 3) (A := fun c : List Int => c.length = p.toNat ∧ ∀ y ∈ c, y.natAbs ≤ 1000) (D := fun c => .tuple (c.map .int)) h0 hw hd hm (by decide) hl hL (fun i L' H2 m' hl' hL' e2 d2 hm' Q2 q2 => ?_) fun t xs H3 hx ha e3 d3 ht => ?_
  · refine ⟨_, h0' _, _, h1' _, a, _, 1, .int p, rfl, rfl, Evl.ex_t (w_sub (L := L)) (Evl.ex_t (e2.w hl) hs), rfl, _, h2' _, l, p, wd, m', L', rfl, d2, by omega, hl', hL', p1, p3, w0, w1, fun v c H3 e3 d3 hc hb hv => q2 v c H3 e3 d3 ⟨by omega, fun y hy => by have := hb y hy; omega⟩ hv⟩
  · exact k _ (.flat xs) H3 e3 (d3.up (by omega)) ⟨fun y hy => (ha y hy).1, hx, fun y hy e he => Nat.lt_of_lt_of_le (show e.natAbs < 2 ^ 10 by have := (ha y hy).2 e he; omega) (Nat.pow_le_pow_right (by decide) (by decide))⟩ (Nat.zero_le _) ⟨fun y hy => ⟨fun e he => by have := (ha y hy).2 e he; omega, by have := (ha y hy).1; omega⟩, by omega⟩ ht
theorem turns_run {wr : World} {mo : Int} (h0 : σ[0]? = some (some (.ref l))) (h1 : σ[1]? = some (some (.ref a))) (h2 : σ[2]? = some (some (.int wd))) (hw : ∀ x, wipe ((wipe σ [7]).set 7 (some x)) [7] = wipe σ [7]) (h0' : ∀ x, ((wipe σ [7]).set 7 (some x))[0]? = some (some (.ref l))) (h2' : ∀ x, ((wipe σ [7]).set 7 (some x))[2]? = some (some (.int wd))) (h5 : ∀ x, (σ.set 5 (some x))[5]? = some (some x)) (h0s : ∀ x, (σ.set 5 (some x))[0]? = some (some (.ref l)))
    (hs : SqT K H a [.str z, .int mo]) (hd : Dr m H l) (hm : m + rc n < 700000) (hl : l ∈ L) (hL : Hid L H) (m0 : 0 ≤ mo) (m3 : mo ≤ 3) (w0 : 0 ≤ wd) (w1 : wd ≤ 1000)
    (k : kOut K L H l m n 1 Q) : tSeq (tAsg (tCB (rSortedSet wr) (tCons (tCB (rSetI K wr) (tCons (tLc (iRng1 (tCons (tCallD spDraw (tCons (tVar 0) (tCons (tOp (rI0 fun i j => V.int (i + j)) (tOp (rIxT K) (tVar 1) (tC (V.int 1))) (tC (V.int 1))) tNil))) tNil)) (gName 7) tYes
        (tOp (rI0 fun i j => V.int (i - j)) (tOp (rI0 fun i j => V.int (i - j)) (tCallD spDraw (tCons (tVar 0) (tCons (tOp (rI0 fun i j => V.int (i + j)) (tOp (rI CMul fun i j => V.int (i * j)) (tC (V.int 2)) (tVar 2)) (tC (V.int 3))) tNil))) (tVar 2)) (tC (V.int 1))) [7]) tNil)) tNil)) (gName 5))
      (tRet (tTup (tCons (tC (V.str "turns")) (tCons (tOp rEq (tCallD spDraw (tCons (tVar 0) (tCons (tC (V.int 2)) tNil))) (tC (V.int 0))) (tCons (tTupOf K (tVar 5)) tNil)))))
      { nx := qn, rt := Q } σ H := by
  have rn := rc_le n
  refine ⟨_, h0, _, h1, a, _, 1, .int mo, rfl, rfl, hs, rfl, _, _, rfl, rfl, l, mo + 1, m, rfl, hd, by omega, by omega, by omega, fun r o r0 r1 d1 => ?_⟩
  have e1 : ExB l H (upd H l o) := ExB.upd
  generalize upd H l o = H1 at d1 e1 ⊢
  have hL1 := e1.hid d1.ne hL
  refine ⟨r, rfl, by omega, by omega, fun Dl hD => ?_⟩
  refine lc_range (lo := 0) (n := r.toNat) (Cdr K L H1 l Dl (m + 1) 1 PyData.int (fun y => y.natAbs ≤ 5000)) (cdr_0 hL1 hD d1) (fun i H2 hi pv => ?_) (fun H2 pv => ?_)
  · refine ⟨hw _, yes_lc (B := fun H3 => Cdr K L H1 l Dl (m + 1) 1 PyData.int (fun y => y.natAbs ≤ 5000) (i + 1) H3) (cdr_turn pv hD hl d1.ne (by omega) (fun hh Q2 q2 => ?_) hL1)⟩
    obtain ⟨e2, d2, _⟩ := pv
    refine draw_run (n := m + 1 + 1 * i) (many := 2 * wd + 3) (h0' _) d2 (by omega) (Evl.ev_op (Evl.ev_op Evl.ev_c (Evl.ev_var (h2' _)) (Evl.rv_I (C := CMul) (g := fun i j => .int (i * j)) (i := 2) (j := wd) (.inl ⟨by decide, by decide⟩))) Evl.ev_c (Evl.rv_I0 (g := fun i j => .int (i + j)))) (by omega) (by omega) fun s H3 s0 s1 d3 e3 => ?_
    refine ⟨_, h2' _, _, _, rfl, rfl, _, _, rfl, rfl, ?_⟩
    exact q2 _ (s - wd - 1) H3 e3 (d3.up (by omega)) (by omega) (.int _)
  · obtain ⟨e2, d2, xs, hx, hxb, nD, ys, hy, hya⟩ := pv
    have ex := dpi_inv hya
    subst ex
    refine ⟨Dl, xs, rfl, SqL.of hy, by omega, fun ps c hps hc => ?_⟩
    refine ⟨ps, _, c, rfl, upd_same, by omega, fun ns q hsr hmem hlen hq => ?_⟩
    have eA : Ex H2 (upd (upd H2 ps (SetO wr ps (fun j => decide (j ∈ xs)) c)) q (.lst (ns.map V.int))) := (Ex.new hps).trans (Ex.new hq)
    have hqA : (upd (upd H2 ps (SetO wr ps (fun j => decide (j ∈ xs)) c)) q (.lst (ns.map V.int))) q = some (.lst (ns.map V.int)) := upd_same
    generalize upd (upd H2 ps (SetO wr ps (fun j => decide (j ∈ xs)) c)) q (.lst (ns.map V.int)) = HA at eA hqA ⊢
    have dA := d2.ex eA
    have e0A := (e1.trans e2).trans (ExB.of eA)
    have ql : q ≠ l := ne_of_none' hq (d2.ex (Ex.new hps)).ne
    refine draw_run (n := m + 1 + 1 * r.toNat) (many := 2) (h0s _) dA (by omega) Evl.ev_c (by decide) (by decide) fun b HB b0 b1 dB eB => ?_
    refine ⟨rfl, _, h5 _, q, _, rfl, .inl ⟨SqL.of (eB q _ ql hqA), fun t ht => ?_⟩⟩
    have e0B := e0A.trans eB
    have tL : t ∉ L := hid_not (e0B.hid dB.ne hL) ht
    have eC : Ex HB (upd HB t (.tup (ns.map V.int))) := Ex.new ht
    refine pack3 (K := K) (z := "turns") (m := m + 1 + 1 * r.toNat + 1) (l := l) ((e0B.trans (ExB.of eC)).hid (dB.ex eC).ne hL) (dB.ex eC) (.bl _) (.tup (SqT.of (w_of tL upd_same)) (dpa_intsL ns)) fun u H4 e4 d4 hu => ?_
    exact k _ (.turns _ ns) H4 ((e0B.trans (ExB.of eC)).trans e4) (d4.up (by omega)) ⟨rfl, by omega⟩ (Nat.zero_le _) ⟨fun e he => hxb e (of_decide_eq_true ((hmem e).mp he)), by omega⟩ hu
theorem w_pastB (hn : H Dl = none) (e : ExB l H H2) (hl : l ∈ L) : Ex (W L H) (W (Dl :: L) H2) := fun b o h => by
  obtain ⟨h1, nb⟩ := w_in h
  exact w_of (fun q => (List.mem_cons.mp q).elim (ne_of_none h1 hn) nb) (e b o (fun q => nb (by rw [q]; exact hl)) h1)
theorem cut_tail {x : V} : cutV (x :: us) (some 1) none = us := by
  have e1 : HT.sIx (x :: us).length 0 (some ((1 : Nat) : Int)) = 1 := by
    rw [HT.sIx_nat, List.length_cons]
    omega
  show ((x :: us).drop (HT.sIx (x :: us).length 0 (some ((1 : Nat) : Int)))).take ((x :: us).length - HT.sIx (x :: us).length 0 (some ((1 : Nat) : Int))) = us
  rw [e1]
  simp
theorem kids_run {ks : List Kd} (h0 : σ[0]? = some (some (.ref l))) (h1 : σ[1]? = some (some (.ref a))) (h3 : σ[3]? = some (some (.str z))) (hw : ∀ x, wipe ((wipe σ [6]).set 6 (some x)) [6] = wipe σ [6]) (h0' : ∀ x, ((wipe σ [6]).set 6 (some x))[0]? = some (some (.ref l))) (h2' : ∀ x, ((wipe σ [6]).set 6 (some x))[2]? = some (some (.int wd))) (h6' : ∀ x, ((wipe σ [6]).set 6 (some x))[6]? = some (some x))
    (hs : SqT K H a (.str z :: us)) (hu : DpAll K (W L H) us (ks.map kdD)) (hk : ks.length ≤ 2) (hk0 : 1 ≤ ks.length) (hok : ∀ y ∈ ks, okK p y ∧ depK y ≤ n) (hd : Dr m H l) (hm : m + rc (n + 1) < 700000) (hl : l ∈ L) (hL : Hid L H) (p1 : 1 ≤ p) (p3 : p ≤ 3) (w0 : 0 ≤ wd) (w1 : wd ≤ 1000)
    (k : ∀ t (xs : List Rl) H3, xs.length = ks.length → (∀ x ∈ xs, okR p.toNat x ∧ depR x ≤ n ∧ bR x) → ExB l H H3 → Dr (m + rc (n + 1)) H3 l → Dp K (W L H3) (.ref t) (.tuple (.str z :: xs.map (rlD true))) → Q (.ref t) H3) :
    tRet (tOp (rCatT K) (tTup (tCons (tVar 3) tNil)) (tTupOf K (tLc (iTup K (tSl (rSlT K) (tVar 1) (tPart (tC (V.int 1))) tNoPart)) (gName 6) tYes (tCallD (spDrawnP K (n + 1)) (tCons (tVar 0) (tCons (tVar 6) (tCons (tVar 2) tNil)))) [6])))
      { nx := qn, rt := Q } σ H := by
  have rn : rc (n + 1) = 2 * rc n + 1 := rfl
  refine ⟨_, h3, by show 1 ≤ sizeLine; decide, fun r0 hr0 => ?_⟩
  have eA : Ex H (upd H r0 (.tup [V.str z])) := Ex.new hr0
  have hA : (upd H r0 (.tup [V.str z])) r0 = some (.tup [V.str z]) := upd_same
  have r0l : r0 ≠ l := ne_of_none' hr0 hd.ne
  have r0L : r0 ∉ L := hid_not hL hr0
  generalize upd H r0 (.tup [V.str z]) = HA at eA hA ⊢
  have lu := dpa_len hu
  rw [List.length_map] at lu
  refine ⟨_, h1, 1, rfl, a, _, rfl, Evl.ex_t eA hs, ?_, fun q hq => ?_⟩
  · rintro ⟨e, _⟩
    have e1 : HT.sIx (V.str z :: us).length 0 (some ((1 : Nat) : Int)) = 1 := by
      rw [HT.sIx_nat, List.length_cons]
      omega
    rw [show HT.sIx (V.str z :: us).length 0 (some (1 : Int)) = 1 from e1] at e
    cases e
  rw [cut_tail]
  have eB : Ex HA (upd HA q (.tup us)) := Ex.new hq
  have hB : (upd HA q (.tup us)) q = some (.tup us) := upd_same
  have ql : q ≠ l := ne_of_none' hq (hd.ex eA).ne
  generalize upd HA q (.tup us) = HB at eB hB ⊢
  have eAB := eA.trans eB
  have dB := hd.ex eAB
  have hLB := hid_ex eAB hL
  refine ⟨q, rfl, ⟨us, SqT.of hB⟩, fun Dl hD => ?_⟩
  refine lc_it (walk_tup (xs := us)) (Cdr K L HB l Dl m (rc n) (rlD true) (fun x => okR p.toNat x ∧ depR x ≤ n ∧ bR x)) (cdr_0 hLB hD dB) (fun i H' _ pv => SqT.of (pv.1 q _ ql hB)) (fun i x H2 H3 hi pv y => ?_) (fun H2 pv => ?_)
  · obtain ⟨rfl, hx⟩ := y
    refine ⟨hw _, yes_lc (B := fun H3 => Cdr K L HB l Dl m (rc n) (rlD true) (fun x => okR p.toNat x ∧ depR x ≤ n ∧ bR x) (i + 1) H3) (cdr_turn pv hD hl dB.ne (by omega) (fun hh Q2 q2 => ?_) hLB)⟩
    obtain ⟨e2, d2, _⟩ := pv
    obtain ⟨d, hd1, hd2⟩ := dpa_get hu hx
    have hi' : i < ks.length := by omega
    rw [List.getElem?_map, List.getElem?_eq_getElem hi'] at hd1
    have ed : d = kdD ks[i] := (Option.some.inj hd1).symm
    subst ed
    obtain ⟨o1, o2⟩ := hok _ (List.getElem_mem hi')
    have hci : rc n * i ≤ rc n * 1 := Nat.mul_le_mul_left _ (by omega)
    have hn0 : H Dl = none := by
      cases qd : H Dl with
      | none => rfl
      | some o =>
        have := eAB Dl o qd
        rw [hD] at this
        cases this
    refine ⟨_, h0' _, _, h6' _, _, h2' _, l, x, ks[i], p, wd, m + rc n * i, Dl :: L, rfl, d2, by omega, List.mem_cons_of_mem _ hl, hh, p1, p3, w0, w1, hd2.up (w_pastB hn0 ((ExB.of eAB).trans e2) hl), o1, o2, fun u r H4 e4 d4 or dr br hr => q2 u r H4 e4 ?_ ⟨or, dr, br⟩ hr⟩
    have : m + rc n * i + rc n = m + rc n * (i + 1) := by rw [Nat.mul_add]; omega
    rw [← this]
    exact d4
  · refine tup_fin (Q := fun u H3 => rCatT K (.ref r0) u H3 Q) hLB hl pv fun t xs H3 hx ha e3 d3 ht => ?_
    have e03 := (ExB.of eAB).trans e3
    cases ht with
    | @tup _ ys _ hsT hya =>
      have ly := dpa_len hya
      rw [List.length_map] at ly
      refine ⟨r0, t, [.str z], ys, rfl, rfl, SqT.of (((ExB.of eB).trans e3) r0 _ r0l hA), Evl.ex_t w_sub hsT, by simp, ?_, fun e => ?_, fun _ t2 ht2 => ?_⟩
      · show 1 + ys.length ≤ sizeLine
        exact Evl.sz_of (by omega)
      · rw [e] at ly
        rw [List.length_nil] at ly
        omega
      · have tL : t2 ∉ L := hid_not (e03.hid d3.ne hL) ht2
        have e5 : ExB l H3 (upd H3 t2 (.tup ([V.str z] ++ ys))) := ExB.of (Ex.new ht2)
        have hci : rc n * us.length ≤ rc n * 2 := Nat.mul_le_mul_left _ (by omega)
        exact k t2 xs _ (by omega) ha (e03.trans e5) ((d3.ex (Ex.new ht2)).up (by omega)) (.tup (SqT.of (w_of tL upd_same)) (.cons (.str z) (hya.up (e5.w hl))))
theorem any_run {k1 k2 : Kd} {u1 u2 : V} (h0 : σ[0]? = some (some (.ref l))) (hσ : ∀ x, (σ.set 4 (some x))[0]? = some (some (.ref l)) ∧ (σ.set 4 (some x))[1]? = some (some (.ref a)) ∧ (σ.set 4 (some x))[2]? = some (some (.int wd)) ∧ (σ.set 4 (some x))[4]? = some (some x))
    (hs : SqT K (W L H) a [.str z, u1, u2]) (hu1 : Dp K (W L H) u1 (kdD k1)) (hu2 : Dp K (W L H) u2 (kdD k2)) (ok1 : okK p k1) (ok2 : okK p k2) (dk1 : depK k1 ≤ n) (dk2 : depK k2 ≤ n) (hd : Dr m H l) (hm : m + rc (n + 1) < 700000) (hl : l ∈ L) (hL : Hid L H) (p1 : 1 ≤ p) (p3 : p ≤ 3) (w0 : 0 ≤ wd) (w1 : wd ≤ 1000)
    (k : kOut K L H l m (n + 1) p.toNat Q) : tSeq (tAsg (tCallD spDraw (tCons (tVar 0) (tCons (tC (V.int 2)) tNil))) (gName 4))
      (tRet (tTup (tCons (tOp (rIxL K) (tLst (tCons (tC (V.str "first")) (tCons (tC (V.str "second")) tNil))) (tVar 4)) (tCons (tCallD (spDrawnP K (n + 1)) (tCons (tVar 0) (tCons (tOp (rIxT K) (tVar 1) (tOp (rI0 fun i j => V.int (i + j)) (tC (V.int 1)) (tVar 4))) (tCons (tVar 2) tNil)))) tNil))))
      { nx := qn, rt := Q } σ H := by
  have rn : rc (n + 1) = 2 * rc n + 1 := rfl
  refine draw_run (n := m) (many := 2) h0 hd (by omega) Evl.ev_c (by decide) (by decide) fun i H1 r0 r1 d1 e1 => ?_
  obtain ⟨s0, s1, s2, s4⟩ := hσ (.int i)
  refine ⟨by show 2 ≤ sizeLine; decide, fun t ht => ⟨_, s4, ?_⟩⟩
  have eA : Ex H1 (upd H1 t (.lst [V.str "first", V.str "second"])) := Ex.new ht
  have hA : (upd H1 t (.lst [V.str "first", V.str "second"])) t = some (.lst [V.str "first", V.str "second"]) := upd_same
  generalize upd H1 t (.lst [V.str "first", V.str "second"]) = HA at eA hA ⊢
  have e0A := e1.trans (ExB.of eA)
  have dA := d1.ex eA
  have hsA : SqT K HA a [.str z, u1, u2] := Evl.ex_t (w_sub (L := L)) (Evl.ex_t (e0A.w hl) hs)
  rcases (by omega : i = 0 ∨ i = 1) with rfl | rfl
  · refine ⟨t, _, 0, .str "first", rfl, rfl, SqL.of hA, rfl, _, s0, _, s1, _, s4, _, _, rfl, rfl, a, _, 1, u1, rfl, rfl, hsA, rfl, _, s2, l, u1, k1, p, wd, m + 1, L, rfl, dA, by omega, hl, e0A.hid dA.ne hL, p1, p3, w0, w1, hu1.up (e0A.w hl), ok1, dk1, fun u r H4 e4 d4 or dr br hr => ?_⟩
    have e04 := e0A.trans e4
    refine pack2 (z := "first") (m := m + 1 + rc n) (l := l) (e04.hid d4.ne hL) d4 hr fun q H5 e5 d5 hq => ?_
    exact k _ (.first r) H5 (e04.trans e5) (d5.up (by omega)) or (by show depR r + 1 ≤ n + 1; omega) br hq
  · refine ⟨t, _, 1, .str "second", rfl, rfl, SqL.of hA, rfl, _, s0, _, s1, _, s4, _, _, rfl, rfl, a, _, 2, u2, rfl, rfl, hsA, rfl, _, s2, l, u2, k2, p, wd, m + 1, L, rfl, dA, by omega, hl, e0A.hid dA.ne hL, p1, p3, w0, w1, hu2.up (e0A.w hl), ok2, dk2, fun u r H4 e4 d4 or dr br hr => ?_⟩
    have e04 := e0A.trans e4
    refine pack2 (z := "second") (m := m + 1 + rc n) (l := l) (e04.hid d4.ne hL) d4 hr fun q H5 e5 d5 hq => ?_
    exact k _ (.second r) H5 (e04.trans e5) (d5.up (by omega)) or (by show depR r + 1 ≤ n + 1; omega) br hq
end
theorem kOut.up {K : PySem.W.Frag} {L : List Addr} {H H' : Hp} {l : Addr} {m n d : Nat} {Q : VK} (k : kOut K L H l m n d Q) (e : Ex H H') : kOut K L H' l m n d Q := fun u r H2 e2 => k u r H2 ((ExB.of e).trans e2)
section
variable {P : Program} {w : World} {K : PySem.W.Frag} {mg : Str → Option Value} {base : Heap}
theorem rule_body {f : Addr} {fd : FuncData} (F : Fun K "_law_rule" "_law_rule" s_rule f fd) (T : TxL mg) (n : Nat) (D_draw : DefAt P w K mg base "_law_draw" 1 ["_law_draws", "_law_many"] spDraw) (D_point : DefAt P w K mg base "_law_point" 2 ["_law_draws", "_law_places", "_law_wide"] (spPoint K))
    (D_corner : DefAt P w K mg base "_law_corner" 2 ["_law_draws", "_law_places", "_law_wide"] (spCorner K)) (D_range : DefAt P w K mg base "_law_range" 3 ["_law_draws", "_law_wide"] (spRange K)) (D_rule : DefAt P w K mg base "_law_rule" (n + 3) ["_law_draws", "_law_spec_here", "_law_wide"] (spDrawnP K n)) : FnOk P w K mg base CX0 (n + 4) f fd ["_law_draws", "_law_spec_here", "_law_wide"] (spDrawn K n) := by
  refine F.ok sc_rule (fun vs H Q E h => ?_) (fun cdv A outer s H vs Q E hr h => ?_)
  · obtain ⟨_, _, _, _, _, _, _, rfl, _⟩ := h
    rfl
  · obtain ⟨l, v, k, p, wd, m, L, rfl, hd, hm, hl, hL, p1, p3, w0, w1, hv, hok, hdep, kk⟩ := h
    refine ⟨_, (pss_cons (ps_set (i := 3) sc_rule.nd rfl (by first | exact Or.inl rfl | exact Or.inr rfl) (pe_ix ix_tup (pv 1) pe_int (fun _ _ => rfl)))
    (pss_cons (ps_if (pt_cmpR op_in_seq (pv 3) (pe_tup (pa_cons pe_str (pa_cons pe_str (pa_cons pe_str pa_nil)))) (by rfl)) (pss_one (ps_ret (pe_op op_catT (pe_tup (pa_cons (pv 3) pa_nil)) (pe_callTy call_tuple_of (by rfl) T.m_tuple (by decide +kernel) (pa_cons (pe_lc (own := [("_law_inner", 6)]) (g := gName 6) (tt := tYes) (by rfl) sc_rule.nd (pi_tup (pe_slice sl_tup (pv 1) (po_some pe_int) po_none)) (blkOk_by (N := sc_rule_N) (sc := defScope s_rule) (by decide +kernel)) (fun _ _ _ _ _ => (pg_name (i := 6) sc_rule.nd rfl (by first | exact Or.inl rfl | exact Or.inr rfl))) (fun _ _ _ _ _ => pts_nil) (fun _ _ _ _ _ => (pe_callD D_rule (by first | exact hr | exact hr.mono (by decide) | exact hr.mono (by omega)) (by rfl) (pa_cons (pv 0) (pa_cons (pv 6) (pa_cons (pv 2) pa_nil)))))) pa_nil))))) pss_nil)
    (pss_cons (ps_if (pt_cmpR op_eq (pv 3) pe_str (nomark _)) (pss_cons (ps_set (i := 4) sc_rule.nd rfl (by first | exact Or.inl rfl | exact Or.inr rfl) (pe_callD D_draw (by first | exact hr | exact hr.mono (by decide) | exact hr.mono (by omega)) (by rfl) (pa_cons (pv 0) (pa_cons pe_int pa_nil))))
      (pss_one (ps_ret (pe_tup (pa_cons (pe_ix ix_list (pe_lst (pa_cons pe_str (pa_cons pe_str pa_nil))) (pv 4) (fun _ _ => rfl)) (pa_cons (pe_callD D_rule (by first | exact hr | exact hr.mono (by decide) | exact hr.mono (by omega)) (by rfl) (pa_cons (pv 0) (pa_cons (pe_ix ix_tup (pv 1) (pe_op op_add pe_int (pv 4)) (fun _ _ => rfl)) (pa_cons (pv 2) pa_nil)))) pa_nil)))))) pss_nil)
    (pss_cons (ps_if (pt_cmpR op_eq (pv 3) pe_str (nomark _)) (pss_one (ps_ret (pe_tup (pa_cons pe_str (pa_cons (pe_callD D_point (by first | exact hr | exact hr.mono (by decide) | exact hr.mono (by omega)) (by rfl) (pa_cons (pv 0) (pa_cons (pe_ix ix_tup (pv 1) pe_int (fun _ _ => rfl)) (pa_cons pe_int pa_nil)))) (pa_cons (pe_op op_sub (pe_callD D_draw (by first | exact hr | exact hr.mono (by decide) | exact hr.mono (by omega)) (by rfl) (pa_cons (pv 0) (pa_cons (pe_op op_add (pe_op op_mul pe_int (pv 2)) pe_int) pa_nil))) (pe_op op_mul pe_int (pv 2))) pa_nil)))))) pss_nil)
    (pss_cons (ps_if (pt_cmpR op_eq (pv 3) pe_str (nomark _)) (pss_one (ps_ret (pe_tup (pa_cons pe_str (pa_cons (pe_callTy call_tuple_of (by rfl) T.m_tuple (by decide +kernel) (pa_cons (pe_lc (own := [("_law_k", 7)]) (g := gName 7) (tt := tYes) (by rfl) sc_rule.nd (pi_range1 (by rfl) T.m_range (pa_cons (pe_ix ix_tup (pv 1) pe_int (fun _ _ => rfl)) pa_nil)) (blkOk_by (N := sc_rule_N) (sc := defScope s_rule) (by decide +kernel)) (fun _ _ _ _ _ => (pg_name (i := 7) sc_rule.nd rfl (by first | exact Or.inl rfl | exact Or.inr rfl))) (fun _ _ _ _ _ => pts_nil) (fun _ _ _ _ _ => (pe_callD D_range (by first | exact hr | exact hr.mono (by decide) | exact hr.mono (by omega)) (by rfl) (pa_cons (pv 0) (pa_cons (pv 2) pa_nil))))) pa_nil)) pa_nil))))) pss_nil)
    (pss_cons (ps_if (pt_cmpR op_eq (pv 3) pe_str (nomark _)) (pss_one (ps_ret (pe_tup (pa_cons pe_str (pa_cons (pe_callTy call_tuple_of (by rfl) T.m_tuple (by decide +kernel) (pa_cons (pe_lc (own := [("_law_k", 7)]) (g := gName 7) (tt := tYes) (te := tCallD (spCorner K) (tCons (tVar 0) (tCons (tOp (rIxT K) (tVar 1) (tC (.int 1))) (tCons (tVar 2) tNil)))) (by rfl) sc_rule.nd (pi_range1 (by rfl) T.m_range (pa_cons (pe_callD D_draw (by first | exact hr | exact hr.mono (by decide) | exact hr.mono (by omega)) (by rfl) (pa_cons (pv 0) (pa_cons pe_int pa_nil))) pa_nil)) (blkOk_by (N := sc_rule_N) (sc := defScope s_rule) (by decide +kernel)) (fun _ _ _ _ _ => (pg_name (i := 7) sc_rule.nd rfl (by first | exact Or.inl rfl | exact Or.inr rfl))) (fun _ _ _ _ _ => pts_nil) (fun _ _ _ _ _ => (pe_callD D_corner (by first | exact hr | exact hr.mono (by decide) | exact hr.mono (by omega)) (by rfl) (pa_cons (pv 0) (pa_cons (pe_ix ix_tup (pv 1) pe_int (fun _ _ => rfl)) (pa_cons (pv 2) pa_nil)))))) pa_nil)) pa_nil))))) pss_nil)
    (pss_cons (ps_if (pt_cmpR op_eq (pv 3) pe_str (nomark _)) (pss_one (ps_ret (pe_tup (pa_cons pe_str (pa_cons (pe_callTy call_tuple_of (by rfl) T.m_tuple (by decide +kernel) (pa_cons (pe_lc (own := [("_law_k", 7)]) (g := gName 7) (tt := tYes) (te := tCallD (spPoint K) (tCons (tVar 0) (tCons (tOp (rIxT K) (tVar 1) (tC (.int 1))) (tCons (tVar 2) tNil)))) (by rfl) sc_rule.nd (pi_range1 (by rfl) T.m_range (pa_cons (pe_callD D_draw (by first | exact hr | exact hr.mono (by decide) | exact hr.mono (by omega)) (by rfl) (pa_cons (pv 0) (pa_cons pe_int pa_nil))) pa_nil)) (blkOk_by (N := sc_rule_N) (sc := defScope s_rule) (by decide +kernel)) (fun _ _ _ _ _ => (pg_name (i := 7) sc_rule.nd rfl (by first | exact Or.inl rfl | exact Or.inr rfl))) (fun _ _ _ _ _ => pts_nil) (fun _ _ _ _ _ => (pe_callD D_point (by first | exact hr | exact hr.mono (by decide) | exact hr.mono (by omega)) (by rfl) (pa_cons (pv 0) (pa_cons (pe_ix ix_tup (pv 1) pe_int (fun _ _ => rfl)) (pa_cons (pv 2) pa_nil)))))) pa_nil)) pa_nil))))) pss_nil)
    (pss_cons (ps_set (i := 5) sc_rule.nd rfl (by first | exact Or.inl rfl | exact Or.inr rfl) (pe_callB (cr_sortedSet rfl) (by rfl) T.m_sorted (by decide +kernel) (pa_cons (pe_callTy (cr_setI rfl) (by rfl) T.m_set (by decide +kernel) (pa_cons (pe_lc (own := [("_law_k", 7)]) (g := gName 7) (tt := tYes) (by rfl) sc_rule.nd (pi_range1 (by rfl) T.m_range (pa_cons (pe_callD D_draw (by first | exact hr | exact hr.mono (by decide) | exact hr.mono (by omega)) (by rfl) (pa_cons (pv 0) (pa_cons (pe_op op_add (pe_ix ix_tup (pv 1) pe_int (fun _ _ => rfl)) pe_int) pa_nil))) pa_nil)) (blkOk_by (N := sc_rule_N) (sc := defScope s_rule) (by decide +kernel)) (fun _ _ _ _ _ => (pg_name (i := 7) sc_rule.nd rfl (by first | exact Or.inl rfl | exact Or.inr rfl))) (fun _ _ _ _ _ => pts_nil) (fun _ _ _ _ _ => (pe_op op_sub (pe_op op_sub (pe_callD D_draw (by first | exact hr | exact hr.mono (by decide) | exact hr.mono (by omega)) (by rfl) (pa_cons (pv 0) (pa_cons (pe_op op_add (pe_op op_mul pe_int (pv 2)) pe_int) pa_nil))) (pv 2)) pe_int))) pa_nil)) pa_nil)))
    (pss_one (ps_ret (pe_tup (pa_cons pe_str (pa_cons (pe_cmpR op_eq (pe_callD D_draw (by first | exact hr | exact hr.mono (by decide) | exact hr.mono (by omega)) (by rfl) (pa_cons (pv 0) (pa_cons pe_int pa_nil))) pe_int (nomark _)) (pa_cons (pe_callTy call_tuple_of (by rfl) T.m_tuple (by decide +kernel) (pa_cons (pv 5) pa_nil)) pa_nil)))))))))))))), ?_⟩
    cases k with
    | halves q =>
      cases hv with
      | @tup a xs _ hs ha =>
        cases ha with
        | @cons c0 _ _ _ r0 q0 =>
          cases r0
          cases q0 with
          | @cons c1 _ _ _ r1 q0 =>
            cases q0
            cases r1
            have eqp : q = p := hok
            subst eqp
            refine Evl.q_asg (v := .str "halves") (Evl.ev_op (Evl.ev_var (v := .ref a) rfl) Evl.ev_c (Evl.rv_ixT (Evl.ex_t (w_sub (L := L)) hs) rfl)) fun H1 e1 => ?_
            refine Evl.q_when (b := false) (Evl.et_is (Evl.et_test (Evl.ev_inU (Evl.ev_var (v := .str "halves") rfl) (Evl.eu_tup (Evl.ea_cons Evl.ev_c (Evl.ea_cons Evl.ev_c (Evl.ea_cons Evl.ev_c Evl.ea_nil))) (by show 3 ≤ 100000; omega)) rfl rfl)) (by decide)) (fun z => nomatch z) (fun _ H2 e2 => ?_)
            refine Evl.q_when (b := false) (Evl.et_is (Evl.et_test (Evl.ev_op (Evl.ev_var (v := .str "halves") rfl) Evl.ev_c (Evl.rv_eq rfl))) (by decide)) (fun z => nomatch z) (fun _ H3 e3 => ?_)
            refine Evl.q_when (b := true) (Evl.et_is (Evl.et_test (Evl.ev_op (Evl.ev_var (v := .str "halves") rfl) Evl.ev_c (Evl.rv_eq rfl))) (by decide)) (fun _ H4 e4 => ?_) (fun z => nomatch z)
            have eA := (((e1.trans e2).trans e3).trans e4)
            have hsA := Evl.ex_t (w_ex (L := L) eA) hs
            have kA : kOut K L H4 l m n _ Q := kOut.up kk eA
            have dA := hd.ex eA
            have hLA := hid_ex eA hL
            exact half_run rfl rfl rfl (Evl.ex_t (w_sub (L := L)) hsA) dA hm hl hLA p1 p3 w0 w1 kA
    | boxes q =>
      cases hv with
      | @tup a xs _ hs ha =>
        cases ha with
        | @cons c0 _ _ _ r0 q0 =>
          cases r0
          cases q0 with
          | @cons c1 _ _ _ r1 q0 =>
            cases q0
            cases r1
            have eqp : q = p := hok
            subst eqp
            refine Evl.q_asg (v := .str "boxes") (Evl.ev_op (Evl.ev_var (v := .ref a) rfl) Evl.ev_c (Evl.rv_ixT (Evl.ex_t (w_sub (L := L)) hs) rfl)) fun H1 e1 => ?_
            refine Evl.q_when (b := false) (Evl.et_is (Evl.et_test (Evl.ev_inU (Evl.ev_var (v := .str "boxes") rfl) (Evl.eu_tup (Evl.ea_cons Evl.ev_c (Evl.ea_cons Evl.ev_c (Evl.ea_cons Evl.ev_c Evl.ea_nil))) (by show 3 ≤ 100000; omega)) rfl rfl)) (by decide)) (fun z => nomatch z) (fun _ H2 e2 => ?_)
            refine Evl.q_when (b := false) (Evl.et_is (Evl.et_test (Evl.ev_op (Evl.ev_var (v := .str "boxes") rfl) Evl.ev_c (Evl.rv_eq rfl))) (by decide)) (fun z => nomatch z) (fun _ H3 e3 => ?_)
            refine Evl.q_when (b := false) (Evl.et_is (Evl.et_test (Evl.ev_op (Evl.ev_var (v := .str "boxes") rfl) Evl.ev_c (Evl.rv_eq rfl))) (by decide)) (fun z => nomatch z) (fun _ H4 e4 => ?_)
            refine Evl.q_when (b := true) (Evl.et_is (Evl.et_test (Evl.ev_op (Evl.ev_var (v := .str "boxes") rfl) Evl.ev_c (Evl.rv_eq rfl))) (by decide)) (fun _ H5 e5 => ?_) (fun z => nomatch z)
            have eA := ((((e1.trans e2).trans e3).trans e4).trans e5)
            have hsA := Evl.ex_t (w_ex (L := L) eA) hs
            have kA : kOut K L H5 l m n _ Q := kOut.up kk eA
            have dA := hd.ex eA
            have hLA := hid_ex eA hL
            exact box_run rfl rfl rfl (fun _ => rfl) (fun _ => rfl) (fun _ => rfl) (Evl.ex_t (w_sub (L := L)) hsA) dA hm hl hLA p1 p3 w0 w1 kA
    | rising q =>
      cases hv with
      | @tup a xs _ hs ha =>
        cases ha with
        | @cons c0 _ _ _ r0 q0 =>
          cases r0
          cases q0 with
          | @cons c1 _ _ _ r1 q0 =>
            cases q0
            cases r1
            have eqp : q = p := hok
            subst eqp
            refine Evl.q_asg (v := .str "rising") (Evl.ev_op (Evl.ev_var (v := .ref a) rfl) Evl.ev_c (Evl.rv_ixT (Evl.ex_t (w_sub (L := L)) hs) rfl)) fun H1 e1 => ?_
            refine Evl.q_when (b := false) (Evl.et_is (Evl.et_test (Evl.ev_inU (Evl.ev_var (v := .str "rising") rfl) (Evl.eu_tup (Evl.ea_cons Evl.ev_c (Evl.ea_cons Evl.ev_c (Evl.ea_cons Evl.ev_c Evl.ea_nil))) (by show 3 ≤ 100000; omega)) rfl rfl)) (by decide)) (fun z => nomatch z) (fun _ H2 e2 => ?_)
            refine Evl.q_when (b := false) (Evl.et_is (Evl.et_test (Evl.ev_op (Evl.ev_var (v := .str "rising") rfl) Evl.ev_c (Evl.rv_eq rfl))) (by decide)) (fun z => nomatch z) (fun _ H3 e3 => ?_)
            refine Evl.q_when (b := false) (Evl.et_is (Evl.et_test (Evl.ev_op (Evl.ev_var (v := .str "rising") rfl) Evl.ev_c (Evl.rv_eq rfl))) (by decide)) (fun z => nomatch z) (fun _ H4 e4 => ?_)
            refine Evl.q_when (b := false) (Evl.et_is (Evl.et_test (Evl.ev_op (Evl.ev_var (v := .str "rising") rfl) Evl.ev_c (Evl.rv_eq rfl))) (by decide)) (fun z => nomatch z) (fun _ H5 e5 => ?_)
            refine Evl.q_when (b := true) (Evl.et_is (Evl.et_test (Evl.ev_op (Evl.ev_var (v := .str "rising") rfl) Evl.ev_c (Evl.rv_eq rfl))) (by decide)) (fun _ H6 e6 => ?_) (fun z => nomatch z)
            have eA := (((((e1.trans e2).trans e3).trans e4).trans e5).trans e6)
            have hsA := Evl.ex_t (w_ex (L := L) eA) hs
            have kA : kOut K L H6 l m n _ Q := kOut.up kk eA
            have dA := hd.ex eA
            have hLA := hid_ex eA hL
            exact rise_run rfl rfl rfl (fun _ => rfl) (fun _ => rfl) (fun _ => rfl) (fun _ => rfl) hsA dA hm hl hLA p1 p3 w0 w1 kA
    | flats q =>
      cases hv with
      | @tup a xs _ hs ha =>
        cases ha with
        | @cons c0 _ _ _ r0 q0 =>
          cases r0
          cases q0 with
          | @cons c1 _ _ _ r1 q0 =>
            cases q0
            cases r1
            have eqp : q = p := hok
            subst eqp
            refine Evl.q_asg (v := .str "flats") (Evl.ev_op (Evl.ev_var (v := .ref a) rfl) Evl.ev_c (Evl.rv_ixT (Evl.ex_t (w_sub (L := L)) hs) rfl)) fun H1 e1 => ?_
            refine Evl.q_when (b := false) (Evl.et_is (Evl.et_test (Evl.ev_inU (Evl.ev_var (v := .str "flats") rfl) (Evl.eu_tup (Evl.ea_cons Evl.ev_c (Evl.ea_cons Evl.ev_c (Evl.ea_cons Evl.ev_c Evl.ea_nil))) (by show 3 ≤ 100000; omega)) rfl rfl)) (by decide)) (fun z => nomatch z) (fun _ H2 e2 => ?_)
            refine Evl.q_when (b := false) (Evl.et_is (Evl.et_test (Evl.ev_op (Evl.ev_var (v := .str "flats") rfl) Evl.ev_c (Evl.rv_eq rfl))) (by decide)) (fun z => nomatch z) (fun _ H3 e3 => ?_)
            refine Evl.q_when (b := false) (Evl.et_is (Evl.et_test (Evl.ev_op (Evl.ev_var (v := .str "flats") rfl) Evl.ev_c (Evl.rv_eq rfl))) (by decide)) (fun z => nomatch z) (fun _ H4 e4 => ?_)
            refine Evl.q_when (b := false) (Evl.et_is (Evl.et_test (Evl.ev_op (Evl.ev_var (v := .str "flats") rfl) Evl.ev_c (Evl.rv_eq rfl))) (by decide)) (fun z => nomatch z) (fun _ H5 e5 => ?_)
            refine Evl.q_when (b := false) (Evl.et_is (Evl.et_test (Evl.ev_op (Evl.ev_var (v := .str "flats") rfl) Evl.ev_c (Evl.rv_eq rfl))) (by decide)) (fun z => nomatch z) (fun _ H6 e6 => ?_)
            refine Evl.q_when (b := true) (Evl.et_is (Evl.et_test (Evl.ev_op (Evl.ev_var (v := .str "flats") rfl) Evl.ev_c (Evl.rv_eq rfl))) (by decide)) (fun _ H7 e7 => ?_) (fun z => nomatch z)
            have eA := ((((((e1.trans e2).trans e3).trans e4).trans e5).trans e6).trans e7)
            have hsA := Evl.ex_t (w_ex (L := L) eA) hs
            have kA : kOut K L H7 l m n _ Q := kOut.up kk eA
            have dA := hd.ex eA
            have hLA := hid_ex eA hL
            exact flat_run rfl rfl rfl (fun _ => rfl) (fun _ => rfl) (fun _ => rfl) (fun _ => rfl) hsA dA hm hl hLA p1 p3 w0 w1 kA
    | turns q =>
      cases hv with
      | @tup a xs _ hs ha =>
        cases ha with
        | @cons c0 _ _ _ r0 q0 =>
          cases r0
          cases q0 with
          | @cons c1 _ _ _ r1 q0 =>
            cases q0
            cases r1
            refine Evl.q_asg (v := .str "turns") (Evl.ev_op (Evl.ev_var (v := .ref a) rfl) Evl.ev_c (Evl.rv_ixT (Evl.ex_t (w_sub (L := L)) hs) rfl)) fun H1 e1 => ?_
            refine Evl.q_when (b := false) (Evl.et_is (Evl.et_test (Evl.ev_inU (Evl.ev_var (v := .str "turns") rfl) (Evl.eu_tup (Evl.ea_cons Evl.ev_c (Evl.ea_cons Evl.ev_c (Evl.ea_cons Evl.ev_c Evl.ea_nil))) (by show 3 ≤ 100000; omega)) rfl rfl)) (by decide)) (fun z => nomatch z) (fun _ H2 e2 => ?_)
            refine Evl.q_when (b := false) (Evl.et_is (Evl.et_test (Evl.ev_op (Evl.ev_var (v := .str "turns") rfl) Evl.ev_c (Evl.rv_eq rfl))) (by decide)) (fun z => nomatch z) (fun _ H3 e3 => ?_)
            refine Evl.q_when (b := false) (Evl.et_is (Evl.et_test (Evl.ev_op (Evl.ev_var (v := .str "turns") rfl) Evl.ev_c (Evl.rv_eq rfl))) (by decide)) (fun z => nomatch z) (fun _ H4 e4 => ?_)
            refine Evl.q_when (b := false) (Evl.et_is (Evl.et_test (Evl.ev_op (Evl.ev_var (v := .str "turns") rfl) Evl.ev_c (Evl.rv_eq rfl))) (by decide)) (fun z => nomatch z) (fun _ H5 e5 => ?_)
            refine Evl.q_when (b := false) (Evl.et_is (Evl.et_test (Evl.ev_op (Evl.ev_var (v := .str "turns") rfl) Evl.ev_c (Evl.rv_eq rfl))) (by decide)) (fun z => nomatch z) (fun _ H6 e6 => ?_)
            refine Evl.q_when (b := false) (Evl.et_is (Evl.et_test (Evl.ev_op (Evl.ev_var (v := .str "turns") rfl) Evl.ev_c (Evl.rv_eq rfl))) (by decide)) (fun z => nomatch z) (fun _ H7 e7 => ?_)
            have eA := ((((((e1.trans e2).trans e3).trans e4).trans e5).trans e6).trans e7)
            have hsA := Evl.ex_t (w_ex (L := L) eA) hs
            have kA : kOut K L H7 l m n _ Q := kOut.up kk eA
            have dA := hd.ex eA
            have hLA := hid_ex eA hL
            obtain ⟨ep, m0, m3⟩ : p = 1 ∧ 0 ≤ q ∧ q ≤ 3 := hok
            subst ep
            exact turns_run rfl rfl rfl (fun _ => rfl) (fun _ => rfl) (fun _ => rfl) (fun _ => rfl) (fun _ => rfl) (Evl.ex_t (w_sub (L := L)) hsA) dA hm hl hLA m0 m3 w0 w1 kA
    | no k1 =>
      cases hv with
      | @tup a xs _ hs ha =>
        cases ha with
        | @cons c0 _ _ _ r0 q0 =>
          cases r0
          cases q0 with
          | @cons c1 _ _ _ r1 q0 =>
            cases q0
            refine Evl.q_asg (v := .str "not") (Evl.ev_op (Evl.ev_var (v := .ref a) rfl) Evl.ev_c (Evl.rv_ixT (Evl.ex_t (w_sub (L := L)) hs) rfl)) fun H1 e1 => ?_
            refine Evl.q_when (b := true) (Evl.et_is (Evl.et_test (Evl.ev_inU (Evl.ev_var (v := .str "not") rfl) (Evl.eu_tup (Evl.ea_cons Evl.ev_c (Evl.ea_cons Evl.ev_c (Evl.ea_cons Evl.ev_c Evl.ea_nil))) (by show 3 ≤ 100000; omega)) rfl rfl)) (by decide)) (fun _ H2 e2 => ?_) (fun z => nomatch z)
            have eA := (e1.trans e2)
            have hsA := Evl.ex_t (w_ex (L := L) eA) hs
            have kA : kOut K L H2 l m n _ Q := kOut.up kk eA
            have dA := hd.ex eA
            have hLA := hid_ex eA hL
            have hd1 : depK k1 + 1 ≤ n := hdep
            obtain ⟨n, rfl⟩ : ∃ j, n = j + 1 := ⟨n - 1, by omega⟩
            refine kids_run (K := K) (ks := [k1]) (p := p) (n := n) rfl rfl rfl (fun _ => rfl) (fun _ => rfl) (fun _ => rfl) (fun _ => rfl) (Evl.ex_t (w_sub (L := L)) hsA) (.cons (r1.up (w_ex eA)) .nil) (by simp) (by simp) (fun y hy => ?_) dA hm hl hLA p1 p3 w0 w1 fun t xs H9 hx ha e9 d9 ht => ?_
            · rw [List.mem_singleton.mp hy]
              exact ⟨hok, by omega⟩
            · match xs, hx with
              | [x1], _ =>
                have b1 := ha x1 (by simp)
                exact kA _ (.no x1) H9 e9 d9 b1.1 (by show depR x1 + 1 ≤ n + 1; omega) b1.2.2 ht
    | both k1 k2 =>
      cases hv with
      | @tup a xs _ hs ha =>
        cases ha with
        | @cons c0 _ _ _ r0 q0 =>
          cases r0
          cases q0 with
          | @cons c1 _ _ _ r1 q0 =>
            cases q0 with
            | @cons c2 _ _ _ r2 q0 =>
              cases q0
              refine Evl.q_asg (v := .str "both") (Evl.ev_op (Evl.ev_var (v := .ref a) rfl) Evl.ev_c (Evl.rv_ixT (Evl.ex_t (w_sub (L := L)) hs) rfl)) fun H1 e1 => ?_
              refine Evl.q_when (b := true) (Evl.et_is (Evl.et_test (Evl.ev_inU (Evl.ev_var (v := .str "both") rfl) (Evl.eu_tup (Evl.ea_cons Evl.ev_c (Evl.ea_cons Evl.ev_c (Evl.ea_cons Evl.ev_c Evl.ea_nil))) (by show 3 ≤ 100000; omega)) rfl rfl)) (by decide)) (fun _ H2 e2 => ?_) (fun z => nomatch z)
              have eA := (e1.trans e2)
              have hsA := Evl.ex_t (w_ex (L := L) eA) hs
              have kA : kOut K L H2 l m n _ Q := kOut.up kk eA
              have dA := hd.ex eA
              have hLA := hid_ex eA hL
              have hd1 : max (depK k1) (depK k2) + 1 ≤ n := hdep
              obtain ⟨n, rfl⟩ : ∃ j, n = j + 1 := ⟨n - 1, by omega⟩
              refine kids_run (K := K) (ks := [k1, k2]) (p := p) (n := n) rfl rfl rfl (fun _ => rfl) (fun _ => rfl) (fun _ => rfl) (fun _ => rfl) (Evl.ex_t (w_sub (L := L)) hsA) (.cons (r1.up (w_ex eA)) (.cons (r2.up (w_ex eA)) .nil)) (by simp) (by simp) (fun y hy => ?_) dA hm hl hLA p1 p3 w0 w1 fun t xs H9 hx ha e9 d9 ht => ?_
              · rcases List.mem_cons.mp hy with q | q
                · rw [q]
                  exact ⟨hok.1, by omega⟩
                · rw [List.mem_singleton.mp q]
                  exact ⟨hok.2, by omega⟩
              · match xs, hx with
                | [x1, x2], _ =>
                  have b1 := ha x1 (by simp)
                  have b2 := ha x2 (by simp)
                  exact kA _ (.both x1 x2) H9 e9 d9 ⟨b1.1, b2.1⟩ (by show max (depR x1) (depR x2) + 1 ≤ n + 1; omega) ⟨b1.2.2, b2.2.2⟩ ht
    | either k1 k2 =>
      cases hv with
      | @tup a xs _ hs ha =>
        cases ha with
        | @cons c0 _ _ _ r0 q0 =>
          cases r0
          cases q0 with
          | @cons c1 _ _ _ r1 q0 =>
            cases q0 with
            | @cons c2 _ _ _ r2 q0 =>
              cases q0
              refine Evl.q_asg (v := .str "either") (Evl.ev_op (Evl.ev_var (v := .ref a) rfl) Evl.ev_c (Evl.rv_ixT (Evl.ex_t (w_sub (L := L)) hs) rfl)) fun H1 e1 => ?_
              refine Evl.q_when (b := true) (Evl.et_is (Evl.et_test (Evl.ev_inU (Evl.ev_var (v := .str "either") rfl) (Evl.eu_tup (Evl.ea_cons Evl.ev_c (Evl.ea_cons Evl.ev_c (Evl.ea_cons Evl.ev_c Evl.ea_nil))) (by show 3 ≤ 100000; omega)) rfl rfl)) (by decide)) (fun _ H2 e2 => ?_) (fun z => nomatch z)
              have eA := (e1.trans e2)
              have hsA := Evl.ex_t (w_ex (L := L) eA) hs
              have kA : kOut K L H2 l m n _ Q := kOut.up kk eA
              have dA := hd.ex eA
              have hLA := hid_ex eA hL
              have hd1 : max (depK k1) (depK k2) + 1 ≤ n := hdep
              obtain ⟨n, rfl⟩ : ∃ j, n = j + 1 := ⟨n - 1, by omega⟩
              refine kids_run (K := K) (ks := [k1, k2]) (p := p) (n := n) rfl rfl rfl (fun _ => rfl) (fun _ => rfl) (fun _ => rfl) (fun _ => rfl) (Evl.ex_t (w_sub (L := L)) hsA) (.cons (r1.up (w_ex eA)) (.cons (r2.up (w_ex eA)) .nil)) (by simp) (by simp) (fun y hy => ?_) dA hm hl hLA p1 p3 w0 w1 fun t xs H9 hx ha e9 d9 ht => ?_
              · rcases List.mem_cons.mp hy with q | q
                · rw [q]
                  exact ⟨hok.1, by omega⟩
                · rw [List.mem_singleton.mp q]
                  exact ⟨hok.2, by omega⟩
              · match xs, hx with
                | [x1, x2], _ =>
                  have b1 := ha x1 (by simp)
                  have b2 := ha x2 (by simp)
                  exact kA _ (.either x1 x2) H9 e9 d9 ⟨b1.1, b2.1⟩ (by show max (depR x1) (depR x2) + 1 ≤ n + 1; omega) ⟨b1.2.2, b2.2.2⟩ ht
    | any k1 k2 =>
      cases hv with
      | @tup a xs _ hs ha =>
        cases ha with
        | @cons c0 _ _ _ r0 q0 =>
          cases r0
          cases q0 with
          | @cons c1 _ _ _ r1 q0 =>
            cases q0 with
            | @cons c2 _ _ _ r2 q0 =>
              cases q0
              refine Evl.q_asg (v := .str "any") (Evl.ev_op (Evl.ev_var (v := .ref a) rfl) Evl.ev_c (Evl.rv_ixT (Evl.ex_t (w_sub (L := L)) hs) rfl)) fun H1 e1 => ?_
              refine Evl.q_when (b := false) (Evl.et_is (Evl.et_test (Evl.ev_inU (Evl.ev_var (v := .str "any") rfl) (Evl.eu_tup (Evl.ea_cons Evl.ev_c (Evl.ea_cons Evl.ev_c (Evl.ea_cons Evl.ev_c Evl.ea_nil))) (by show 3 ≤ 100000; omega)) rfl rfl)) (by decide)) (fun z => nomatch z) (fun _ H2 e2 => ?_)
              refine Evl.q_when (b := true) (Evl.et_is (Evl.et_test (Evl.ev_op (Evl.ev_var (v := .str "any") rfl) Evl.ev_c (Evl.rv_eq rfl))) (by decide)) (fun _ H3 e3 => ?_) (fun z => nomatch z)
              have eA := ((e1.trans e2).trans e3)
              have hsA := Evl.ex_t (w_ex (L := L) eA) hs
              have kA : kOut K L H3 l m n _ Q := kOut.up kk eA
              have dA := hd.ex eA
              have hLA := hid_ex eA hL
              have hd1 : max (depK k1) (depK k2) + 1 ≤ n := hdep
              obtain ⟨n, rfl⟩ : ∃ j, n = j + 1 := ⟨n - 1, by omega⟩
              exact any_run rfl (fun _ => ⟨rfl, rfl, rfl, rfl⟩) hsA (r1.up (w_ex eA)) (r2.up (w_ex eA)) hok.1 hok.2 (by omega) (by omega) dA hm hl hLA p1 p3 w0 w1 kA
end
end U

set_option Elab.async false
set_option linter.all false
set_option maxRecDepth 100000
set_option maxHeartbeats 4000000
namespace U
open PySem PySem.Spec PyProof.Rows L2
open Evl (Ex)
abbrev s_listed : Stmt := top 31
abbrev sc_listed_N : List Str := ["_law_thing", "_law_inner"]
theorem sc_listed : FnScope sc_listed_N ["_law_thing"] (defScope s_listed) := ⟨rfl, rfl, rfl, by decide +kernel, rfl, by decide +kernel, by decide +kernel⟩
/-- lists for tuples, n deep -/
def lisD : Nat → PyData → PyData
  | n + 1, .tuple ds => .list (ds.map (lisD n))
  | _, d => d
def okL : Nat → PyData → Prop
  | n + 1, .tuple ds => ds.length ≤ 50000 ∧ ∀ d ∈ ds, okL n d
  | 0, .tuple _ => False
  | _, _ => True
def spListed (K : PySem.W.Frag) (n : Nat) : Sp := fun vs H Q _ => ∃ v ds L, vs = [v] ∧ Hid L H ∧ Dp K (W L H) v (.tuple ds) ∧ okL (n + 1) (.tuple ds) ∧ ∀ t H', H t = none → Ex H H' → Gr K L H' t (ds.map (lisD n)) → Q (.ref t) H'
def spListedP (K : PySem.W.Frag) : Nat → Sp
  | 0 => fun _ _ _ _ => False
  | n + 1 => spListed K n
theorem tupB : ∀ d : PyData, kitB (tyOf d) "tuple" = some (decide (tyOf d = "tuple"))
  | .none => by decide +kernel
  | .bool _ => by show kitB "bool" "tuple" = some (decide ("bool" = "tuple")); decide +kernel
  | .int _ => by show kitB "int" "tuple" = some (decide ("int" = "tuple")); decide +kernel
  | .str _ => by show kitB "str" "tuple" = some (decide ("str" = "tuple")); decide +kernel
  | .list _ => by show kitB "list" "tuple" = some (decide ("list" = "tuple")); decide +kernel
  | .tuple _ => by show kitB "tuple" "tuple" = some (decide ("tuple" = "tuple")); decide +kernel
  | .dict _ => by show kitB "dict" "tuple" = some (decide ("dict" = "tuple")); decide +kernel
section
variable {P : Program} {w : World} {K : PySem.W.Frag} {mg : Str → Option Value} {base : Heap}
theorem listed_body {f : Addr} {fd : FuncData} (F : Fun K "_law_listed" "_law_listed" s_listed f fd) (T : TxR mg) (n : Nat) (D_listed : DefAt P w K mg base "_law_listed" n ["_law_thing"] (spListedP K n)) : FnOk P w K mg base CX0 (n + 1) f fd ["_law_thing"] (spListed K n) := by
  refine F.ok sc_listed (fun vs H Q E h => ?_) (fun cdv A outer s H vs Q E hr h => ?_)
  · obtain ⟨_, _, _, rfl, _⟩ := h
    rfl
  · obtain ⟨v, ds, L, rfl, hL, hv, hok, k⟩ := h
    refine ⟨_, (pss_one (ps_ret (pe_lc (own := [("_law_inner", 1)]) (g := gName 1) (tt := tYes) (te := tIf (tTest (tCB (rIsi K) (tCons (tVar 1) (tCons (tC (.ty "tuple")) tNil)))) (tCallD (spListedP K n) (tCons (tVar 1) tNil)) (tVar 1)) (by rfl) sc_listed.nd (pi_seq (pv 0)) (blkOk_by (N := sc_listed_N) (sc := defScope s_listed) (by decide +kernel)) (fun _ _ _ _ _ => (pg_name (i := 1) sc_listed.nd rfl (by first | exact Or.inl rfl | exact Or.inr rfl))) (fun _ _ _ _ _ => pts_nil) (fun _ _ _ _ _ => (pe_ifExp (pt_val (pe_callB call_isi (by rfl) T.m_isinstance (by decide +kernel) (pa_cons (pv 1) (pa_cons (pe_bltn (v := .ty "tuple") (by rfl) T.m_tuple (by decide +kernel) rfl) pa_nil)))) (pe_callD D_listed (by first | exact hr | exact hr.mono (by decide) | exact hr.mono (by omega)) (by rfl) (pa_cons (pv 1) pa_nil)) (pv 1)))))), ?_⟩
    cases hv with
    | @tup a xs _ hs ha =>
      refine eg_seq (K := K) (L := L) (g := lisD n) (Evl.ev_var (v := .ref a) rfl) (.inr (Evl.ex_t w_sub hs)) ha hL hok.1 (fun _ => rfl) (fun L' x d H1 hd hL' e1 hx => ?_) H (Ex.refl H) _ k
      have hd' := hok.2 d hd
      have one : Evl.Ev (tVar 1) ((wipe (L2.start sc_listed_N [V.ref a]) [1]).set 1 (some x)) H1 x := Evl.ev_var rfl
      have isi := ev_isi (n := "tuple") one (hx.up w_sub) (tupB d)
      intro H2 e2 Q2 q2
      have step : ∀ H3, Ex H2 H3 → (if decide (tyOf d = "tuple") = true then tCallD (spListedP K n) (tCons (tVar 1) tNil) ((wipe (L2.start sc_listed_N [V.ref a]) [1]).set 1 (some x)) H3 Q2 else tVar 1 ((wipe (L2.start sc_listed_N [V.ref a]) [1]).set 1 (some x)) H3 Q2) := fun H3 e3 => by
        refine ite2 (fun hc => ?_) (fun hc => ?_)
        · cases d with
          | tuple es =>
            cases n with
            | zero => exact hd'.elim
            | succ n =>
              refine ⟨_, rfl, x, es, L', rfl, hid_ex (e2.trans e3) hL', hx.up (w_ex (e2.trans e3)), hd', fun t H4 ht e4 g => q2 _ _ (e3.trans e4) g.dp⟩
          | _ => simp [tyOf] at hc
        · refine ⟨_, rfl, q2 x H3 e3 ?_⟩
          have e : lisD n d = d := by
            cases d with
            | tuple es => exact absurd rfl hc
            | _ => cases n <;> rfl
          rw [e]
          exact hx.up (w_ex (e2.trans e3))
      exact isi H2 e2 _ fun H3 e3 => ⟨_, rfl, step H3 e3⟩
end
theorem lis_int {n : Nat} {i : Int} : lisD n (.int i) = .int i := by cases n <;> rfl
theorem lis_str {n : Nat} {z : Str} : lisD n (.str z) = .str z := by cases n <;> rfl
theorem lis_bool {n : Nat} {b : Bool} : lisD n (.bool b) = .bool b := by cases n <;> rfl
theorem lis_oD {n : Nat} {o : Option Int} : lisD n (oD o) = oD o := by cases o <;> cases n <;> rfl
theorem lis_ints {n : Nat} (ws : List Int) : lisD (n + 1) (.tuple (ws.map .int)) = .list (ws.map .int) := by
  show PyData.list ((ws.map PyData.int).map (lisD n)) = _
  rw [List.map_map]
  congr 1
  exact List.map_congr_left fun i _ => lis_int
theorem lis_opts {n : Nat} (ws : List (Option Int)) : lisD (n + 1) (.tuple (ws.map oD)) = .list (ws.map oD) := by
  show PyData.list ((ws.map oD).map (lisD n)) = _
  rw [List.map_map]
  congr 1
  exact List.map_congr_left fun i _ => lis_oD
theorem lis_rl : ∀ (r : Rl) (n : Nat), depR r + 3 ≤ n → lisD n (rlD true r) = rlD false r := by
  have two : ∀ (m : Nat) (z : Str) (d e : PyData), lisD (m + 2) d = e → lisD (m + 3) (.tuple [.str z, d]) = .list [.str z, e] := fun m z d e h => by
    show PyData.list [lisD (m + 2) (.str z), lisD (m + 2) d] = _
    rw [h, lis_str]
  have three : ∀ (m : Nat) (z : Str) (d e d2 e2 : PyData), lisD (m + 2) d = e → lisD (m + 2) d2 = e2 → lisD (m + 3) (.tuple [.str z, d, d2]) = .list [.str z, e, e2] := fun m z d e d2 e2 h h2 => by
    show PyData.list [lisD (m + 2) (.str z), lisD (m + 2) d, lisD (m + 2) d2] = _
    rw [h, h2, lis_str]
  have many : ∀ {α : Type} (m : Nat) (xs : List α) (f g : α → PyData), (∀ x, lisD (m + 1) (f x) = g x) → lisD (m + 2) (.tuple (xs.map f)) = .list (xs.map g) := fun m xs f g h => by
    show PyData.list ((xs.map f).map (lisD (m + 1))) = _
    rw [List.map_map]
    congr 1
    exact List.map_congr_left fun i _ => h i
  intro r
  induction r with
  | half ws b => intro n h; obtain ⟨m, rfl⟩ : ∃ m, n = m + 3 := ⟨n - 3, by omega⟩; exact three m _ _ _ _ _ (lis_ints ws) lis_int
  | box rs => intro n h; obtain ⟨m, rfl⟩ : ∃ m, n = m + 3 := ⟨n - 3, by omega⟩; exact two m _ _ _ (many m rs (rgD true) (rgD false) fun p => by
      show PyData.list [lisD m (oD p.1), lisD m (oD p.2)] = PyData.list [oD p.1, oD p.2]
      rw [lis_oD, lis_oD])
  | rise cs => intro n h; obtain ⟨m, rfl⟩ : ∃ m, n = m + 3 := ⟨n - 3, by omega⟩; exact two m _ _ _ (many m cs (fun c => .tuple (c.map oD)) (fun c => .list (c.map oD)) fun c => lis_opts c)
  | flat ps => intro n h; obtain ⟨m, rfl⟩ : ∃ m, n = m + 3 := ⟨n - 3, by omega⟩; exact two m _ _ _ (many m ps (fun c => .tuple (c.map .int)) (fun c => .list (c.map .int)) fun c => lis_ints c)
  | turns f cs => intro n h; obtain ⟨m, rfl⟩ : ∃ m, n = m + 3 := ⟨n - 3, by omega⟩; exact three m _ _ _ _ _ lis_bool (lis_ints cs)
  | no r ih => intro n h; obtain ⟨m, rfl⟩ : ∃ m, n = m + 3 := ⟨n - 3, by omega⟩; exact two m _ _ _ (ih (m + 2) (by have : depR (.no r) = depR r + 1 := rfl; omega))
  | both r s ih ih2 => intro n h; obtain ⟨m, rfl⟩ : ∃ m, n = m + 3 := ⟨n - 3, by omega⟩; exact three m _ _ _ _ _ (ih (m + 2) (by have : depR (.both r s) = max (depR r) (depR s) + 1 := rfl; omega)) (ih2 (m + 2) (by have : depR (.both r s) = max (depR r) (depR s) + 1 := rfl; omega))
  | either r s ih ih2 => intro n h; obtain ⟨m, rfl⟩ : ∃ m, n = m + 3 := ⟨n - 3, by omega⟩; exact three m _ _ _ _ _ (ih (m + 2) (by have : depR (.either r s) = max (depR r) (depR s) + 1 := rfl; omega)) (ih2 (m + 2) (by have : depR (.either r s) = max (depR r) (depR s) + 1 := rfl; omega))
  | first r ih => intro n h; obtain ⟨m, rfl⟩ : ∃ m, n = m + 3 := ⟨n - 3, by omega⟩; exact two m _ _ _ (ih (m + 2) (by have : depR (.first r) = depR r + 1 := rfl; omega))
  | second r ih => intro n h; obtain ⟨m, rfl⟩ : ∃ m, n = m + 3 := ⟨n - 3, by omega⟩; exact two m _ _ _ (ih (m + 2) (by have : depR (.second r) = depR r + 1 := rfl; omega))
theorem okL_int {n : Nat} {i : Int} : okL n (.int i) := by cases n <;> trivial
theorem okL_str {n : Nat} {z : Str} : okL n (.str z) := by cases n <;> trivial
theorem okL_bool {n : Nat} {b : Bool} : okL n (.bool b) := by cases n <;> trivial
theorem okL_oD {n : Nat} {o : Option Int} : okL n (oD o) := by cases o <;> cases n <;> trivial
theorem okL_map {α : Type} {m : Nat} {xs : List α} {f : α → PyData} (hz : xs.length ≤ 1000) (h : ∀ x ∈ xs, okL m (f x)) : okL (m + 1) (.tuple (xs.map f)) :=
  ⟨by rw [List.length_map]; omega, fun d hd => by
    obtain ⟨x, hx, rfl⟩ := List.mem_map.mp hd
    exact h x hx⟩
theorem okL_two {m : Nat} {z : Str} {d : PyData} (h : okL m d) : okL (m + 1) (.tuple [.str z, d]) :=
  ⟨by show 2 ≤ 50000; omega, fun e he => by
    rcases List.mem_cons.mp he with q | q
    · rw [q]; exact okL_str
    · rw [List.mem_singleton.mp q]; exact h⟩
theorem okL_three {m : Nat} {z : Str} {d d2 : PyData} (h : okL m d) (h2 : okL m d2) : okL (m + 1) (.tuple [.str z, d, d2]) :=
  ⟨by show 3 ≤ 50000; omega, fun e he => by
    rcases List.mem_cons.mp he with q | q
    · rw [q]; exact okL_str
    rcases List.mem_cons.mp q with q | q
    · rw [q]; exact h
    · rw [List.mem_singleton.mp q]; exact h2⟩
theorem okL_rl {dd : Nat} (hdd : dd ≤ 1000) : ∀ (r : Rl) (n : Nat), depR r + 3 ≤ n → okR dd r → okL n (rlD true r) := by
  intro r
  induction r with
  | half ws b => intro n h o; obtain ⟨m, rfl⟩ : ∃ m, n = m + 3 := ⟨n - 3, by omega⟩; exact okL_three (okL_map (by have := o.1; omega) fun _ _ => okL_int) okL_int
  | box rs => intro n h o; obtain ⟨m, rfl⟩ : ∃ m, n = m + 3 := ⟨n - 3, by omega⟩; exact okL_two (okL_map (by have : rs.length = dd := o; omega) fun p _ => (⟨by show 2 ≤ 50000; omega, fun e he => by
      rcases List.mem_cons.mp he with q | q
      · rw [q]; exact okL_oD
      · rw [List.mem_singleton.mp q]; exact okL_oD⟩ : okL (m + 1) (.tuple [oD p.1, oD p.2])))
  | rise cs => intro n h o; obtain ⟨m, rfl⟩ : ∃ m, n = m + 3 := ⟨n - 3, by omega⟩; exact okL_two (okL_map o.2 fun c hc => (okL_map (by have := o.1 c hc; omega) fun _ _ => okL_oD : okL (m + 1) (.tuple (c.map oD))))
  | flat ps => intro n h o; obtain ⟨m, rfl⟩ : ∃ m, n = m + 3 := ⟨n - 3, by omega⟩; exact okL_two (okL_map (by have := o.2.1; omega) fun c hc => (okL_map (by have := o.1 c hc; omega) fun _ _ => okL_int : okL (m + 1) (.tuple (c.map PyData.int))))
  | turns f cs => intro n h o; obtain ⟨m, rfl⟩ : ∃ m, n = m + 3 := ⟨n - 3, by omega⟩; exact okL_three okL_bool (okL_map o.2 fun _ _ => okL_int)
  | no r ih => intro n h o; obtain ⟨m, rfl⟩ : ∃ m, n = m + 3 := ⟨n - 3, by omega⟩; exact okL_two (ih (m + 2) (by have : depR (.no r) = depR r + 1 := rfl; omega) o)
  | both r s ih ih2 => intro n h o; obtain ⟨m, rfl⟩ : ∃ m, n = m + 3 := ⟨n - 3, by omega⟩; exact okL_three (ih (m + 2) (by have : depR (.both r s) = max (depR r) (depR s) + 1 := rfl; omega) o.1) (ih2 (m + 2) (by have : depR (.both r s) = max (depR r) (depR s) + 1 := rfl; omega) o.2)
  | either r s ih ih2 => intro n h o; obtain ⟨m, rfl⟩ : ∃ m, n = m + 3 := ⟨n - 3, by omega⟩; exact okL_three (ih (m + 2) (by have : depR (.either r s) = max (depR r) (depR s) + 1 := rfl; omega) o.1) (ih2 (m + 2) (by have : depR (.either r s) = max (depR r) (depR s) + 1 := rfl; omega) o.2)
  | first r ih => intro n h o; obtain ⟨m, rfl⟩ : ∃ m, n = m + 3 := ⟨n - 3, by omega⟩; exact okL_two (ih (m + 2) (by have : depR (.first r) = depR r + 1 := rfl; omega) o)
  | second r ih => intro n h o; obtain ⟨m, rfl⟩ : ∃ m, n = m + 3 := ⟨n - 3, by omega⟩; exact okL_two (ih (m + 2) (by have : depR (.second r) = depR r + 1 := rfl; omega) o)
end U

set_option Elab.async false
set_option linter.all false
set_option maxRecDepth 100000
set_option maxHeartbeats 4000000
/-! A law whose own def calls repr of a container: its promise is told where the law is called, nowhere else. -/
namespace UG
open PySem PySem.Spec PyProof.Rows L2
/-- what the law's def gives there -/
def AtTop (P : Program) (w : World) (K : PySem.W.Frag) (mg : Str → Option Value) (fa a : Addr) (ns : List Int) (s : Shared) : Prop :=
  ∀ (base : Heap) (H : Hp), K.In base → base.Ns mainGlobals mg → Env0 P w K mg base callerA [] s H → SqL K H a (ns.map V.int) →
    codeAny (model P w) callerA (.call (.ref fa) ⟨[.ref a], []⟩) (CR CX0 [] P w H s (fun v _ => v = .bl true) E0) s
section
variable {P : Program} {w : World} {K : PySem.W.Frag} {mg mb : Str → Option Value} {fa a : Addr} {s : Shared} {vs : List Value} {ns : List Int}
theorem seqList {o : Obj} {es : Array DictEntry} {ep : Nat} (ha : s.heap.get? a = some { cls := .type "list", data := .seq vs.toArray }) (e : s.heap.get? a = some o) : o.data ≠ .dict es ep := fun d => by
  have q := Option.some.inj (ha.symm.trans e)
  rw [← q] at d
  cases d
/-- the two cases of law_call in one: only a may be told in H -/
theorem top_core (KX : K.In s.heap) (hns : s.heap.Ns mainGlobals mg) (hb : s.heap.Ns builtinsNs mb) (hbb : ∀ x : Str, x ≠ "__name__" → mb x = bootBuiltins x)
    (hlim : s.heap.NoLimit) (hg : s.gens = #[]) (ha : s.heap.get? a = some { cls := .type "list", data := .seq vs.toArray }) (F : AtTop P w K mg fa a ns s)
    {H : Hp} (hO : Only H) (hS : SqL K H a (ns.map V.int)) (hok : HOk P w H s.heap)
    (hA : ∀ b, b ≠ a → H b = none) (hK : K.lookup a = none ∨ H a = none) :
    codeAny (model P w) callerA (.call (.ref fa) ⟨[.ref a], []⟩)
      (fun r s' => r = .ok (.ret (.bool true)) ∧ OldK s.heap s'.heap ∧ s'.os = s.os ∧ AllBare s'.gens) s := by
  have low : ∀ {b : Addr} {o : Obj}, s.heap.get? b = some o → H b = none → (hidT s.heap H).get? b = some o := hidT_get
  have lowD : ∀ {b : Addr} {o : Obj} {es : Array DictEntry} {ep : Nat}, s.heap.get? b = some o → o.data = .dict es ep → H b = none := fun {b o es ep} e d => by
    by_cases z : b = a
    · subst z
      exact absurd d (seqList ha e)
    · exact hA b z
  have keep : ∀ {b : Addr} {m : Str → Option Value}, s.heap.Ns b m → (hidT s.heap H).Ns b m := by
    rintro b m ⟨o, es, ep, e, d, r⟩
    exact ⟨o, es, ep, low e (lowD e d), d, r⟩
  have inB : K.In (hidT s.heap H) := by
    intro b o e
    refine low (KX b o e) ?_
    by_cases z : b = a
    · subst z
      rcases hK with q | q
      · rw [q] at e
        cases e
      · exact q
    · exact hA b z
  obtain ⟨mc, l1, l2⟩ := hlim
  have md : Mod K mg (hidT s.heap H) := ⟨inB, keep hns, ⟨mb, keep hb, hbb⟩, mc, keep l1, l2⟩
  have env : Env0 P w K mg (hidT s.heap H) callerA [] s H := by
    refine ⟨rfl, md, ?_, Nat.le_of_eq (hidT_size _ _), trivial, ?_, hok, .of_eq hg⟩
    · exact fun b o e => of_hidT e
    · exact fun b hb => absurd hb (List.not_mem_nil)
  refine codeAny_mono (F _ H inB (keep hns) env hS) fun r s' h => ?_
  match r, h with
  | .error _, h => exact h.elim
  | .ok .next, h => exact h.elim
  | .ok .brk, h => exact h.elim
  | .ok .cont, h => exact h.elim
  | .ok (.ret u), h =>
    obtain ⟨v, H', os, bare, un, hok', rel, q⟩ := h
    have hv : v = .bl true := q
    rw [hv] at rel
    have hu : u = Value.bool true := rel
    rw [hu]
    refine ⟨rfl, OldK.of_keep ?_, os, bare⟩
    intro b o e
    rcases hO b with z | ⟨ob, xs, z⟩
    · exact un.keep b o e z (List.not_mem_nil) (List.not_mem_nil)
    · have before := (hok b _ z).1
      have after := (hok' b _ (un.frzs b ob _ z)).1
      exact (Option.some.inj (e.symm.trans before)) ▸ after
theorem top_call (KX : K.In s.heap) (hns : s.heap.Ns mainGlobals mg) (hb : s.heap.Ns builtinsNs mb) (hbb : ∀ x : Str, x ≠ "__name__" → mb x = bootBuiltins x)
    (hlim : s.heap.NoLimit) (hg : s.gens = #[]) (ha : s.heap.get? a = some { cls := .type "list", data := .seq vs.toArray }) (hi : IntsAre vs ns) (hl : ns.length ≤ sizeLine) (F : AtTop P w K mg fa a ns s) :
    codeAny (model P w) callerA (.call (.ref fa) ⟨[.ref a], []⟩)
      (fun r s' => r = .ok (.ret (.bool true)) ∧ OldK s.heap s'.heap ∧ s'.os = s.os ∧ AllBare s'.gens) s := by
  have rel := vals_ints hi
  have len := hi.length
  by_cases hk : K.lookup a = none
  · let T : HO := .frz { cls := .type "list", data := .seq vs.toArray } (.lst (ns.map V.int))
    let H : Hp := fun b => if b = a then some T else none
    have at_a : H a = some T := if_pos rfl
    have off : ∀ b, b ≠ a → H b = none := fun b n => if_neg n
    refine top_core KX hns hb hbb hlim hg ha F (H := H) (fun b => ?_) (.inl (.inr ⟨_, at_a⟩)) (fun b u z => ?_) off (.inl hk)
    · by_cases n : b = a
      · exact .inr ⟨_, _, by rw [n]; exact at_a⟩
      · exact .inl (off b n)
    · by_cases n : b = a
      · subst n
        rw [at_a] at z
        cases z
        exact ⟨ha, by rw [List.length_map]; exact hl, vs, _, rel, ha⟩
      · rw [off b n] at z
        cases z
  · obtain ⟨o, ho⟩ := Option.ne_none_iff_exists'.mp hk
    have same := Option.some.inj ((KX a o ho).symm.trans ha)
    subst same
    exact top_core KX hns hb hbb hlim hg ha F (H := fun _ => none) (fun _ => .inl rfl)
      (.inr ⟨_, vs.toArray, _, ho, rfl, rfl, rfl, by rw [List.size_toArray, len]; exact hl, by simpa using rel⟩)
      (fun b u z => nomatch z) (fun _ _ => rfl) (.inr rfl)
end
/-- the walk's end for such a law -/
theorem walk_top {l : PySem.W.OpenLaw} {n : Nat} {q : Program} {loose : List Str} {XP : (Str → Option Value) → Heap → Prop} {YP : World → Heap → Prop} {d : DefRec} {K : Params → PySem.W.Frag}
    (hn : l.most = some n) (hn2 : n ≤ sizeLine) (hdf : d.params.defaults = []) (hY : ∀ (w : World) (h : Heap), YP w h → (K w.params).In h)
    (F : ∀ (w : World) (mg : Str → Option Value) (fa : Addr) (h : Heap), (K w.params).In h → h.Ns mainGlobals mg → mg d.name = some (.ref fa) →
      ∀ (s : Shared) (a : Addr) (ns : List Int), s.heap = h → ns.length ≤ n → AtTop l.prog w (K w.params) mg fa a ns s) :
    PySem.W.WalkO q loose XP YP l.row.toRowW d [] (fun f vs => PySem.call f vs) := by
  refine Att.attach_call hn hdf fun w s0 s1 mg mb fa o pm cd doc a vs ns G Y ho hd hcd hmg hobj hints hlen hg => ?_
  have KX := hY w _ Y
  exact top_call KX G.T.g G.T.b G.T.builtins G.T.nolimit hg hobj hints (Nat.le_trans hlen hn2) (F w mg fa _ KX G.T.g hmg s1 a ns rfl hlen)
/-! ### repr of a list or a tuple of data -/
mutual
theorem dp_noDict {K : PySem.W.Frag} {H : Hp} : ∀ (d : PyData) (v : V), Dp K H v d → d.hasDict = false
  | .none, _, _ => rfl
  | .bool _, _, _ => rfl
  | .int _, _, _ => rfl
  | .str _, _, _ => rfl
  | .list ds, _, h => by
    cases h with
    | lst hs ha => exact dpa_noDict ds _ ha
  | .tuple ds, _, h => by
    cases h with
    | tup hs ha => exact dpa_noDict ds _ ha
  | .dict _, _, h => by cases h
theorem dpa_noDict {K : PySem.W.Frag} {H : Hp} : ∀ (ds : List PyData) (vs : List V), DpAll K H vs ds → PyData.hasDictAll ds = false
  | [], _, _ => rfl
  | d :: ds, _, h => by
    cases h with
    | cons h1 h2 =>
      have e1 := dp_noDict d _ h1
      have e2 := dpa_noDict ds _ h2
      show (d.hasDict || PyData.hasDictAll ds) = false
      rw [e1, e2]
      rfl
end
/-- repr(x), x a list or a tuple of data: the text that the data have -/
def rRepr (K : PySem.W.Frag) : List V → Hp → VK → Prop := fun xs H Q => ∃ a d, xs = [.ref a] ∧ Dp K H (.ref a) d ∧ d.showable = true ∧ d.depth ≤ 64 ∧ d.shown.length ≤ sizeLine ∧ Q (.str d.shown) H
theorem call_reprD {X : Cx} (hg : X.A.guards = some []) (hu : X.A.units + 80 < cLine) : CallR X (.builtin "repr") (rRepr X.K) := by
  intro pins s σ H xs us Q I r h
  obtain ⟨a, d, rfl, hd, hs, hdep, hz, q⟩ := h
  obtain ⟨u, rfl, ru⟩ := vals1 r
  obtain ⟨as, rd⟩ := Dp.reads I d _ u hd ru
  obtain rfl : u = Value.ref a := ru
  refine repr_of_reads' rd hs (fun z => ?_) hg (by omega) (fun _ _ e => e) (fun h' t tk hk => ?_) hz
  · rw [dp_noDict d _ hd] at z
    cases z
  · exact ⟨.str d.shown, H, I.kept hk, ⟨t, rfl⟩, q⟩
theorem top_guards (env : Env) : (callerA.deeper env).guards = some [] := rfl
/-- the law's def, its body told where the law is called -/
theorem atTop_of {P : Program} {w : World} {K : PySem.W.Frag} {mg : Str → Option Value} {fa a : Addr} {ns : List Int} {s : Shared} {name x : Str} {st : Stmt} {fd : FuncData} {N : List Str} {k : Nat}
    (F : Fun K name name st fa fd) (S : FnScope N [x] (defScope st)) (hb : BindsTo s fd ⟨[.ref a], []⟩ [(x, .ref a)]) (hr : Room (k + 1) callerA)
    (hbody : ∀ (base : Heap) (cdv : Value) (H : Hp), Room k (callerA.deeper (envOfC name (defScope st) s.heap.objs.size fa cdv)) → SqL K H a (ns.map V.int) →
      ∃ t, PSs (cxOf CX0 P w K mg base N name (defScope st) fa cdv callerA [] s H E0).nox (defBody st) t ∧
        t { nx := fun _ _ => V.non = V.bl true, rt := fun v _ => v = V.bl true } (L2.start N [V.ref a]) H) : AtTop P w K mg fa a ns s := by
  intro base H _ _ e0 hS
  obtain ⟨oc, od, kV, doc, pm, an, cdv, ct, osl, rfl, lk, hcd⟩ := F.ex
  refine LamX.run_ofS (ps := [x]) (us := [Value.ref a]) (vs := [V.ref a]) lk hcd S hr e0 hb (show Vals [V.ref a] [Value.ref a] from .cons rfl .nil) rfl fun r => ?_
  obtain ⟨t, h1, h2⟩ := hbody base cdv H r hS
  exact ⟨t, h1.nox, h2⟩
end UG

set_option Elab.async false
set_option linter.all false
set_option maxRecDepth 100000
set_option maxHeartbeats 4000000
namespace U
open PySem PySem.Spec PyProof.Rows L2
open Evl (Ex)
abbrev s_Lsays : Stmt := top 27
abbrev sc_Lsays_N : List Str := ["_law_rule_here", "_law_point_here", "_law_word", "_law_lows", "_law_highs", "_law_rows", "_law_many", "_law_told", "_law_weight", "_law_entry", "_law_low", "_law_high", "_law_corner_here", "_law_end", "_law_row", "_law_change", "_law_inner"]
theorem sc_Lsays : FnScope sc_Lsays_N ["_law_rule_here", "_law_point_here"] (defScope s_Lsays) := ⟨rfl, rfl, rfl, by decide +kernel, rfl, by decide +kernel, by decide +kernel⟩
abbrev scR : Scope := { kind := .function, names := [(".0", .local), ("_law_corner_here", .local), ("zip", .globalImplicit), ("_law_point_here", .cell)], isGenerator := false, isCoroutine := false }
def spTold (K : PySem.W.Frag) (n : Nat) : Sp := fun vs H Q _ => ∃ v w r x, vs = [v, w] ∧ Dp K H v (rlD true r) ∧ Dp K H w (.tuple ((x : List Int).map .int)) ∧ okR x.length r ∧ depR r ≤ n ∧ x.length ≤ 100 ∧ Bits 59 x ∧ ∀ H', Ex H H' → Q (.bl (sayR x r)) H'
def spToldP (K : PySem.W.Frag) : Nat → Sp
  | 0 => fun _ _ _ _ => False
  | n + 1 => spTold K n
section
variable {K : PySem.W.Frag} {L : List Addr} {σ : L2.St} {H H2 : Hp} {ta tl te : TE} {t : TT} {j j1 j2 j3 : Nat} {vs : List Nat} {a b : Addr} {x : List Int} {rs : List (Option Int × Option Int)} {xs ys us : List V}
/-- a tuple that stands, or a new one -/
def EvS (K : PySem.W.Frag) (te : TE) (σ : L2.St) (H : Hp) (xs : List V) : Prop := ∀ H1, Ex H H1 → ∀ Q : VK, (∀ a H2, Ex H1 H2 → SqT K H2 a xs → Q (.ref a) H2) → te σ H1 Q
theorem evs_of (h : Evl.Ev te σ H (.ref a)) (hs : SqT K H a xs) : EvS K te σ H xs := fun H1 e Q q => h H1 e _ fun H2 e2 => q a H2 e2 (Evl.ex_t (e.trans e2) hs)
theorem evs_tail {v : V} (h : Evl.Ev te σ H (.ref a)) (hs : SqT K H a (v :: us)) (h0 : us ≠ []) : EvS K (tSl (rSlT K) te (tPart (tC (.int 1))) tNoPart) σ H us := fun H1 e Q q => h H1 e _ fun H2 e2 => by
  refine ⟨1, rfl, a, _, rfl, Evl.ex_t (e.trans e2) hs, ?_, fun p hp => ?_⟩
  · rintro ⟨z, _⟩
    have e1 : HT.sIx (v :: us).length 0 (some ((1 : Nat) : Int)) = 1 := by
      rw [HT.sIx_nat, List.length_cons]
      omega
    rw [show HT.sIx (v :: us).length 0 (some (1 : Int)) = 1 from e1] at z
    cases z
  · rw [cut_tail]
    exact q p _ (e2.trans (Ex.new hp)) (SqT.of upd_same)
theorem el_lcS (f : Nat → Bool) (v : Nat → V) (h : EvS K tl σ H xs) (hz : xs.length ≤ 40000) (hw : ∀ x, wipe ((wipe σ vs).set j (some x)) vs = wipe σ vs)
    (ht : ∀ (i : Nat) (x : V) H1, Ex H H1 → xs[i]? = some x → Evl.EvT t ((wipe σ vs).set j (some x)) H1 (f i)) (he : ∀ (i : Nat) (x : V) H1, Ex H H1 → xs[i]? = some x → f i = true → Evl.Ev te ((wipe σ vs).set j (some x)) H1 (v i)) :
    Evl.EvL (tLc (iTup K tl) (gName j) t te vs) σ H (Evl.given xs.length f v) := fun H0 e Q q => h H0 e _ fun a H1 e1 hx => ⟨a, rfl, ⟨xs, hx⟩, fun Dl hD => by
  refine lc_it (walk_tup (xs := xs)) (Evl.Cw H1 f v Dl) ⟨hD, Ex.new hD, upd_same⟩ (fun i H' _ p => Evl.ex_t p.2.1 hx) (fun i y H2 H3 hi p yp => ?_) (fun H' p => q Dl H' (Evl.fresh_back e1 p.1) (e1.trans p.2.1) p.2.2)
  obtain ⟨rfl, hu⟩ := yp
  exact ⟨hw y, Evl.cw_turn p (by omega) (ht i y H1 (e.trans e1) hu) (fun hf => he i y H1 (e.trans e1) hu hf)⟩⟩
theorem given_all {n : Nat} {α : Type} {g : α → V} {l : List α} {v : Nat → V} (hn : l.length = n) (hv : ∀ i (h : i < l.length), v i = g l[i]) : Evl.given n (fun _ => true) v = l.map g := by
  unfold Evl.given
  rw [List.filter_eq_self.mpr (fun _ _ => rfl)]
  apply List.ext_getElem
  · simp [hn]
  · intro i h1 h2
    have hi : i < l.length := by simpa using h2
    simp [hv i hi]
theorem el_zipX {tz : TA} {f : Int → (Option Int × Option Int) → Bool} (h : Evl.EvA tz σ H [.ref a, .ref b]) (sa : SqT K H a (x.map V.int)) (sb : SqT K H b ys) (yb : DpAll K H ys (rs.map (rgD true))) (hl : rs.length = x.length) (hz : x.length ≤ 1000)
    (hw : ∀ u v w, wipe ((((wipe σ vs).set j1 (some u)).set j2 (some v)).set j3 (some w)) vs = wipe σ vs)
    (he : ∀ (i : Nat) (h1 : i < x.length) (h2 : i < rs.length) H1, Ex H H1 → Evl.Ev te ((((wipe σ vs).set j1 (some (.int x[i]))).set j2 (some (oV rs[i].1))).set j3 (some (oV rs[i].2))) H1 (.bl (f x[i] rs[i]))) :
    Evl.EvL (tLc (RZ.iZipA K tz) (gTup K 2 (gCons (gName j1) (gCons (gTup K 2 (gCons (gName j2) (gCons (gName j3) gNil))) gNil))) tYes te vs) σ H ((List.zipWith f x rs).map V.bl) := fun H0 e0 Q q => h H0 e0 _ fun H1 e1 => by
  have ly := dpa_len yb
  rw [List.length_map] at ly
  let v : Nat → V := fun i => .bl (f (x.getD i 0) (rs.getD i (none, none)))
  have turn : ∀ (Dl : Addr) (i : Nat) (y : V) (H2 H3 : Hp), i < (x.map V.int).length → Cm H1 v Dl i H2 → YPair (fun i => (x.map V.int)[i]?) (fun i => ys[i]?) i H2 y H3 → gTup K 2 (gCons (gName j1) (gCons (gTup K 2 (gCons (gName j2) (gCons (gName j3) gNil))) gNil)) y (wipe σ vs) H3 fun σ2 H2 => wipe σ2 vs = wipe σ vs ∧ tYes σ2 H2 fun b H3 =>
      if b = true then te σ2 H3 fun y H4 => ∃ acc, H4 Dl = some (.lst acc) ∧ acc.length < sizeLine ∧ Cm H1 v Dl (i + 1) (upd H4 Dl (.lst (acc ++ [y]))) else Cm H1 v Dl (i + 1) H3 := by
    intro Dl i y H2 H3 hi p yp
    obtain ⟨T, u, w, rfl, hT, rfl, hu, hw'⟩ := yp
    rw [List.length_map] at hi
    have hi2 : i < rs.length := by omega
    have hu' : (x.map V.int)[i]? = some u := hu
    have hq' : ys[i]? = some w := hw'
    rw [List.getElem?_map, List.getElem?_eq_getElem hi] at hu'
    have eu : u = .int x[i] := (Option.some.inj hu').symm
    subst eu
    obtain ⟨d, hd1, hd2⟩ := dpa_get yb hq'
    rw [List.getElem?_map, List.getElem?_eq_getElem hi2] at hd1
    have ed : d = rgD true rs[i] := (Option.some.inj hd1).symm
    subst ed
    have eN : Ex H (upd H2 T (.tup [.int x[i], w])) := ((e0.trans e1).trans p.2.1).trans (Ex.new hT)
    have hd3 := hd2.up eN
    cases hd3 with
    | @tup c us _ sc uc =>
      cases uc with
      | @cons u1 _ _ _ r1 q1 =>
        cases q1 with
        | @cons u2 _ _ _ r2 q2 =>
          cases q2
          have e1' := oD_inv r1
          have e2' := oD_inv r2
          subst e1' e2'
          refine ⟨T, [.int x[i], .ref c], rfl, SqT.of upd_same, rfl, .int x[i], [.ref c], rfl, .ref c, [], rfl, ⟨c, _, rfl, sc, rfl, _, _, rfl, _, [], rfl, rfl, rfl, ?_⟩⟩
          refine ⟨hw _ _ _, ?_⟩
          refine yes_lc (B := fun H3 => Cm H1 v Dl (i + 1) H3) ?_
          have ev : v i = .bl (f x[i] rs[i]) := by
            show V.bl (f (x.getD i 0) (rs.getD i (none, none))) = _
            rw [List.getD_eq_getElem?_getD, List.getD_eq_getElem?_getD, List.getElem?_eq_getElem hi, List.getElem?_eq_getElem hi2]
            rfl
          refine cm_turn p (by omega) _ (Ex.new hT) ?_
          rw [ev]
          exact he i hi hi2 _ (e0.trans e1)
  have fin : ∀ Dl H2, Cm H1 v Dl (x.map V.int).length H2 → Q (.ref Dl) H2 := fun Dl H2 p => by
    refine q Dl H2 (Evl.fresh_back e1 p.1) (e1.trans p.2.1) ?_
    rw [p.2.2, List.length_map, List.map_zipWith]
    congr 2
    refine rng_zw (by omega) _ fun i h1 h2 => ?_
    show V.bl (f (x.getD i 0) (rs.getD i (none, none))) = _
    rw [List.getD_eq_getElem?_getD, List.getD_eq_getElem?_getD, List.getElem?_eq_getElem h1, List.getElem?_eq_getElem h2]
    rfl
  have hm : (x.map V.int).length = min (x.map V.int).length ys.length := by rw [List.length_map]; omega
  refine ⟨a, b, _, ys, rfl, .inr ⟨Evl.ex_t (e0.trans e1) sa, Evl.ex_t (e0.trans e1) sb, fun Dl hD => ?_⟩⟩
  exact lc_it (walk_zipT (n := (x.map V.int).length) hm) (Cm H1 v Dl) (cm_0 hD) (fun i H2 _ p => ⟨Evl.ex_t ((e0.trans e1).trans p.2.1) sa, Evl.ex_t ((e0.trans e1).trans p.2.1) sb⟩) (fun i x H2 H3 hi p y => turn Dl i x H2 H3 hi p y) (fun H2 p => fin Dl H2 p)
theorem zip_ints {tz : TA} {c : List (Option Int)} (f : Int → Option Int → Bool) (h : Evl.EvA tz σ H [.ref a, .ref b]) (sa : SqT K H a (x.map V.int)) (sb : SqT K H b ys) (yb : DpAll K H ys (c.map oD)) (hl : c.length = x.length) (hz : x.length ≤ 1000)
    (hw : ∀ u v, wipe (((wipe σ vs).set j1 (some u)).set j2 (some v)) vs = wipe σ vs) (he : ∀ (y : Int) (o : Option Int) H1, Ex H H1 → Evl.Ev te (((wipe σ vs).set j1 (some (.int y))).set j2 (some (oV o))) H1 (.bl (f y o))) :
    Evl.EvL (tLc (RZ.iZipA K tz) (gTup K 2 (gCons (gName j1) (gCons (gName j2) gNil))) tYes te vs) σ H ((List.zipWith f x c).map V.bl) := by
  have ly := dpa_len yb
  rw [List.length_map] at ly
  have z := el_zip (K := K) (te := te) (i1 := j1) (i2 := j2) (vs := vs) (σ := σ) (H := H) (v := fun i => .bl (f (x.getD i 0) (c.getD i none))) h (.inr ⟨sa, sb⟩) (by rw [List.length_map]; omega) (by rw [List.length_map]; omega) hw (fun i u q H1 e1 hu hq => ?_)
  · have e : (List.range (x.map V.int).length).map (fun i => V.bl (f (x.getD i 0) (c.getD i none))) = (List.zipWith f x c).map V.bl := by
      rw [List.length_map, List.map_zipWith]
      refine rng_zw (by omega) _ fun i h1 h2 => ?_
      rw [List.getD_eq_getElem?_getD, List.getD_eq_getElem?_getD, List.getElem?_eq_getElem h1, List.getElem?_eq_getElem h2]
      rfl
    rw [← e]
    exact z
  · obtain ⟨d, hd1, hd2⟩ := dpa_get yb hq
    have hi : i < x.length := by
      have := (List.getElem?_eq_some_iff.mp hu).1
      rwa [List.length_map] at this
    have hi2 : i < c.length := by omega
    rw [List.getElem?_map, List.getElem?_eq_getElem hi] at hu
    rw [List.getElem?_map, List.getElem?_eq_getElem hi2] at hd1
    have eu : u = .int x[i] := (Option.some.inj hu).symm
    have ed : d = oD c[i] := (Option.some.inj hd1).symm
    subst eu ed
    have eq := oD_inv hd2
    subst eq
    rw [List.getD_eq_getElem?_getD, List.getD_eq_getElem?_getD, List.getElem?_eq_getElem hi, List.getElem?_eq_getElem hi2]
    exact he _ _ _ e1
theorem lows_highs : ∀ (x : List Int) (rs : List (Option Int × Option Int)), ((List.zipWith (fun e (p : Option Int × Option Int) => geO e p.1) x rs).all id && (List.zipWith (fun e (p : Option Int × Option Int) => leO e p.2) x rs).all id) = boxR rs x
  | [], _ => rfl
  | _ :: _, [] => rfl
  | e :: x, p :: rs => by
    have ih := lows_highs x rs
    unfold boxR at ih ⊢
    simp only [List.zipWith_cons_cons, List.all_cons, id]
    rw [← ih]
    cases geO e p.1 <;> cases leO e p.2 <;> simp
theorem turns_count (x0 : Int) : ∀ (cs : List Int) (f : Bool), turnsR f cs x0 = decide (V.bl f = V.bl (decide (V.int ((((cs.filter fun c => decide (c ≤ x0)).length : Nat) : Int) % 2) = V.int 0)))
  | [], f => by cases f <;> rfl
  | c :: cs, f => by
    have e : turnsR f (c :: cs) x0 = turnsR (if c ≤ x0 then !f else f) cs x0 := rfl
    rw [e, turns_count x0 cs, List.filter_cons]
    by_cases hc : c ≤ x0
    · rw [if_pos hc, if_pos (decide_eq_true hc), List.length_cons]
      generalize (List.filter (fun c => decide (c ≤ x0)) cs).length = n
      rcases Nat.mod_two_eq_zero_or_one n with h | h
      · have h1 : ((n : Int) % 2) = 0 := by omega
        have h2 : (((n + 1 : Nat) : Int) % 2) = 1 := by omega
        rw [h1, h2]
        cases f <;> decide
      · have h1 : ((n : Int) % 2) = 1 := by omega
        have h2 : (((n + 1 : Nat) : Int) % 2) = 0 := by omega
        rw [h1, h2]
        cases f <;> decide
    · rw [if_neg hc, if_neg (by simpa using hc)]
/-- how many relations -/
theorem ev_rel {te : TE} {zs : List V} {ps : List (List Int)} {d : Nat} (h : Evl.EvL te σ H zs) (hd : DpAll K H zs (ps.map tD)) (hps : ∀ y ∈ ps, y.length = d) (hd1 : d ≤ 100) (h4 : ps.length ≤ 4) (hb : ∀ y ∈ ps, Bits 59 y) :
    Evl.Ev (tCB (fun xs H Q => ∃ p ys, xs = [.ref p] ∧ (SqL K H p ys ∨ SqT K H p ys) ∧ Q (.int ys.length) H) (tCons (tCallD (spRel K) (tCons te tNil)) tNil)) σ H (.int ((relN (d + 1) (rowsL ps.length ps 0) : Nat) : Int)) := fun H1 e1 Q q =>
  h H1 e1 _ fun p H2 hp e2 h2 => ⟨.ref p, ps, d, rfl, .lst (SqL.of h2) (hd.up (e1.trans e2)), hps, hd1, h4, hb, fun t xs H3 e3 ht hl => ⟨t, xs, rfl, .inl (SqL.of ht), by rw [hl]; exact q H3 (e2.trans e3)⟩⟩
end
section
variable {K : PySem.W.Frag} {L : List Addr} {σ : L2.St} {H H2 : Hp} {ta tl te : TE} {j : Nat} {vs : List Nat} {a c e : Addr} {x : List Int} {xs ys us zs : List V} {n : Nat}
theorem ev_allV {bs : List Bool} (h : Evl.Ev te σ H (.ref a)) (hs : SqL K H a (bs.map V.bl)) : Evl.Ev (tCB (rAll K) (tCons te tNil)) σ H (.bl (bs.all id)) := fun H1 e1 Q q =>
  h H1 e1 _ fun H2 e2 => ⟨a, bs, rfl, Evl.ex_l (e1.trans e2) hs, q H2 e2⟩
theorem ev_anyV {bs : List Bool} (h : Evl.Ev te σ H (.ref a)) (hs : SqL K H a (bs.map V.bl)) : Evl.Ev (tCB (rAny K) (tCons te tNil)) σ H (.bl (bs.any id)) := fun H1 e1 Q q =>
  h H1 e1 _ fun H2 e2 => ⟨a, bs, rfl, Evl.ex_l (e1.trans e2) hs, q H2 e2⟩
theorem ev_lenL (h : Evl.EvL te σ H xs) : Evl.Ev (tCB (fun xs H Q => ∃ p ys, xs = [.ref p] ∧ (SqL K H p ys ∨ SqT K H p ys) ∧ Q (.int ys.length) H) (tCons te tNil)) σ H (.int (xs.length : Int)) := fun H1 e1 Q q =>
  h H1 e1 _ fun p H2 hp e2 h2 => ⟨p, xs, rfl, .inl (SqL.of h2), q H2 e2⟩
theorem given_filter (cs : List Int) (x0 : Int) : (Evl.given cs.length (fun i => decide (cs.getD i 0 ≤ x0)) (fun i => V.int (cs.getD i 0))).length = (cs.filter fun c => decide (c ≤ x0)).length := by
  unfold Evl.given
  rw [List.length_map]
  have e : cs.filter (fun c => decide (c ≤ x0)) = ((List.range cs.length).map fun i => cs.getD i 0).filter (fun c => decide (c ≤ x0)) := by
    congr 1
    apply List.ext_getElem
    · simp
    · intro i h1 h2
      simp [h1]
  rw [e, List.filter_map, List.length_map]
  rfl
/-- a row of what is due, of a corner -/
def rowG (x : List Int) : PyData → PyData
  | .tuple ds => .list (List.zipWith (fun e d => .bool (match d with | .int i => decide (e ≥ i) | _ => true)) x ds)
  | d => d
theorem rowG_oD (c : List (Option Int)) : rowG x (.tuple (c.map oD)) = .list ((List.zipWith geO x c).map .bool) := by
  show PyData.list (List.zipWith _ x (c.map oD)) = _
  rw [List.zipWith_map_right, List.map_zipWith]
  congr 2
  funext e o
  cases o <;> rfl
theorem bl_all {H : Hp} : ∀ bs : List Bool, DpAll K H (bs.map V.bl) (bs.map PyData.bool)
  | [] => .nil
  | b :: bs => .cons (.bl b) (bl_all bs)
theorem bl_inv {H : Hp} {vs : List V} {bs : List Bool} (h : DpAll K H vs (bs.map PyData.bool)) : vs = bs.map V.bl := by
  induction bs generalizing vs with
  | nil => cases h; rfl
  | cons b bs ih =>
    cases h with
    | cons r rr =>
      cases r
      rw [ih rr]
      rfl
theorem eg_tupS {ds : List PyData} {g : PyData → PyData} (h : EvS K tl σ H xs) (hd : DpAll K (W L H) xs ds) (hL : Hid L H) (hz : ds.length ≤ 50000) (hw : ∀ x, wipe ((wipe σ vs).set j (some x)) vs = wipe σ vs)
    (he : ∀ L' (x : V) d H1, d ∈ ds → Hid L' H1 → Ex H H1 → Dp K (W L' H1) x d → EvD K L' te ((wipe σ vs).set j (some x)) H1 (g d)) : EvG K L (tLc (iTup K tl) (gName j) tYes te vs) σ H (ds.map g) := fun H0 e0 Q q => h H0 e0 _ fun a H1 e1 hx => by
  have hlen := dpa_len hd
  have hL1 : Hid L H1 := hid_ex (e0.trans e1) hL
  refine ⟨a, rfl, ⟨xs, hx⟩, fun Dl hD => ?_⟩
  refine lc_it (walk_tup (xs := xs)) (Cmd K L H1 (fun i => (ds.take i).map g) Dl) (cmd_0 hL1 hD rfl) (fun i H2 _ p => Evl.ex_t p.2.1 hx) (fun i y H2 H3 hi p yp => ?_) (fun H2 p => ?_)
  · obtain ⟨rfl, hu⟩ := yp
    obtain ⟨d, hd1, hd2⟩ := dpa_get hd hu
    obtain ⟨p1, p2, p3⟩ := id p
    refine ⟨hw y, yes_lc (B := fun H3 => Cmd K L H1 (fun i => (ds.take i).map g) Dl (i + 1) H3) ?_⟩
    refine cmd_yes p (by simp; omega) (Ex.refl _) (he _ y d _ (List.mem_of_getElem? hd1) ?_ ((e0.trans e1).trans p2) (hd2.up (w_past (Evl.fresh_back (e0.trans e1) p1) ((e0.trans e1).trans p2)))) ?_
    · intro b hb
      rcases List.mem_cons.mp hb with z | z
      · rw [z]
        exact p3.ne
      · exact hid_ex ((e0.trans e1).trans p2) hL b z
    · rw [List.take_add_one, hd1]
      simp
  · obtain ⟨p1, p2, p3⟩ := p
    refine q Dl H2 (Evl.fresh_back e1 p1) (e1.trans p2) ?_
    have e : (ds.take xs.length).map g = ds.map g := by rw [hlen, List.take_length]
    rw [← e]
    exact p3
theorem rows_run {cs : List (List (Option Int))} (h : Evl.Ev tl σ H (.ref e)) (cA : SqT K H c (x.map V.int)) (se : SqT K H e zs) (ze : DpAll K H zs (cs.map fun y => .tuple (y.map oD))) (hl : ∀ y ∈ cs, y.length = x.length) (hz : x.length ≤ 1000) (hc : cs.length ≤ 1000) (h1 : σ[1]? = some (some (.ref c)))
    (hw : ∀ v, wipe ((wipe σ [12]).set 12 (some v)) [12] = wipe σ [12]) (h12 : ∀ v, ((wipe σ [12]).set 12 (some v))[12]? = some (some v)) (h1' : ∀ v : V, ((wipe σ [12]).set 12 (some v))[1]? = σ[1]?) (hw2 : ∀ u v w, wipe (((wipe ((wipe σ [12]).set 12 (some u)) [9, 13]).set 9 (some v)).set 13 (some w)) [9, 13] = wipe ((wipe σ [12]).set 12 (some u)) [9, 13])
    (g9 : ∀ u v w : V, (((wipe ((wipe σ [12]).set 12 (some u)) [9, 13]).set 9 (some v)).set 13 (some w))[9]? = some (some v)) (g13 : ∀ u v w : V, (((wipe ((wipe σ [12]).set 12 (some u)) [9, 13]).set 9 (some v)).set 13 (some w))[13]? = some (some w)) :
    EvG K [] (tLc (iTup K tl) (gName 12) tYes (tLc (RZ.iZipA K (tCons (tVar 1) (tCons (tVar 12) tNil))) (gTup K 2 (gCons (gName 9) (gCons (gName 13) gNil))) tYes (tOrV (tIsN (tVar 13)) (tOp (rI0 fun i j => .bl (decide (i ≤ j))) (tVar 13) (tVar 9))) [9, 13]) [12]) σ H (cs.map fun y => .list ((List.zipWith geO x y).map .bool)) := by
  have w0 : W [] H = H := w_nil
  have z := eg_tupS (K := K) (L := []) (te := tLc (RZ.iZipA K (tCons (tVar 1) (tCons (tVar 12) tNil))) (gTup K 2 (gCons (gName 9) (gCons (gName 13) gNil))) tYes (tOrV (tIsN (tVar 13)) (tOp (rI0 fun i j => .bl (decide (i ≤ j))) (tVar 13) (tVar 9))) [9, 13]) (tl := tl) (j := 12) (vs := [12]) (σ := σ) (H := H) (xs := zs) (ds := cs.map fun y => .tuple (y.map oD)) (g := rowG x) (evs_of h se) (by rw [w0]; exact ze) (fun _ q => (nomatch q)) (by rw [List.length_map]; omega) hw (fun L' u d H1 hd hL' e1 hu => ?_)
  · rw [List.map_map] at z
    have em : cs.map (rowG x ∘ fun y => .tuple (y.map oD)) = cs.map fun y => .list ((List.zipWith geO x y).map .bool) := List.map_congr_left fun y _ => rowG_oD y
    rw [em] at z
    exact z
  · obtain ⟨y, hy, rfl⟩ := List.mem_map.mp hd
    rw [rowG_oD]
    cases hu with
    | @tup b us _ sb ub =>
      have zz := zip_ints (K := K) (te := tOrV (tIsN (tVar 13)) (tOp (rI0 fun i j => .bl (decide (i ≤ j))) (tVar 13) (tVar 9))) (tz := tCons (tVar 1) (tCons (tVar 12) tNil)) (j1 := 9) (j2 := 13) (vs := [9, 13]) (σ := (wipe σ [12]).set 12 (some (.ref b))) (H := H1) geO (Evl.ea_cons (Evl.ev_var (v := .ref c) (by rw [h1', h1])) (Evl.ea_cons (Evl.ev_var (v := .ref b) (h12 _)) Evl.ea_nil)) (Evl.ex_t e1 cA) (Evl.ex_t w_sub sb) (ub.up w_sub) (hl y hy) hz (hw2 _)
        (fun i o H2 e2 => by
          cases o with
          | none => exact Evl.ev_orV (a := true) (b := true) (ev_isN (Evl.ev_var (v := .non) (g13 _ _ _))) fun z => nomatch z
          | some j => exact Evl.ev_orV (a := false) (ev_isN (Evl.ev_var (v := .int j) (g13 _ _ _))) fun _ => Evl.ev_op (Evl.ev_var (v := .int j) (g13 _ _ _)) (Evl.ev_var (v := .int i) (g9 _ _ _)) (Evl.rv_I0 (g := fun i j => .bl (decide (i ≤ j)))))
      intro H2 e2 Q q
      refine zz H2 e2 _ fun p H3 hp e3 h3 => q _ H3 e3 (.lst (SqL.of (w_of (fun m => hid_ex e2 hL' p m hp) h3)) (bl_all _))
theorem rowsAll {cs : List (List (Option Int))} {pr : Addr} (h : Evl.Ev tl σ H (.ref pr)) (g : Gr K [] H pr (cs.map fun y => .list ((List.zipWith geO x y).map .bool))) (hc : cs.length ≤ 1000) (hw : ∀ v, wipe ((wipe σ [j]).set j (some v)) [j] = wipe σ [j]) (hj : ∀ v, ((wipe σ [j]).set j (some v))[j]? = some (some v)) :
    Evl.EvL (tLc (iList K tl) (gName j) tYes (tCB (rAll K) (tCons (tVar j) tNil)) [j]) σ H ((cs.map (aboveR x)).map V.bl) := by
  obtain ⟨_, ws, h1, h2⟩ := g
  have lw := dpa_len h2
  rw [List.length_map] at lw
  have z := Evl.el_lcL (K := K) (t := tYes) (te := tCB (rAll K) (tCons (tVar j) tNil)) (j := j) (vs := [j]) (σ := σ) (H := H) (xs := ws) (fun _ => true) (fun i => .bl (aboveR x (cs.getD i []))) h (SqL.of h1) (by omega) hw (fun i y H1 e1 hy => fun H2 e2 Q q => q H2 (Ex.refl _)) (fun i y H1 e1 hy _ => ?_)
  · have em : Evl.given ws.length (fun _ => true) (fun i => V.bl (aboveR x (cs.getD i []))) = (cs.map (aboveR x)).map V.bl := by
      rw [List.map_map]
      exact given_all lw.symm fun i hi => by
        rw [List.getD_eq_getElem?_getD, List.getElem?_eq_getElem hi]
        rfl
    rw [em] at z
    exact z
  · obtain ⟨d, hd1, hd2⟩ := dpa_get h2 hy
    have hi : i < cs.length := by
      have := (List.getElem?_eq_some_iff.mp hy).1
      omega
    rw [List.getElem?_map, List.getElem?_eq_getElem hi] at hd1
    have ed : d = .list ((List.zipWith geO x cs[i]).map .bool) := (Option.some.inj hd1).symm
    subst ed
    rw [List.getD_eq_getElem?_getD, List.getElem?_eq_getElem hi]
    cases hd2 with
    | @lst b us _ sb ub =>
      have ex := bl_inv ub
      subst ex
      exact ev_allV (Evl.ev_var (v := .ref b) (hj _)) (Evl.ex_l (w_sub.trans e1) sb)
/-- what the parts of a rule say -/
theorem kids_told {rs : List Rl} {v0 : V} (h : Evl.Ev te σ H (.ref a)) (hs : SqT K H a (v0 :: us)) (hu : DpAll K H us (rs.map (rlD true))) (hk : rs.length ≤ 2) (hk0 : rs ≠ []) (hok : ∀ y ∈ rs, okR x.length y ∧ depR y ≤ n) (cA : SqT K H c (x.map V.int)) (hz : x.length ≤ 100) (hb : Bits 59 x)
    (hw : ∀ v, wipe ((wipe σ [16]).set 16 (some v)) [16] = wipe σ [16]) (h16 : ∀ v, ((wipe σ [16]).set 16 (some v))[16]? = some (some v)) (h1 : ∀ v : V, ((wipe σ [16]).set 16 (some v))[1]? = some (some (.ref c))) :
    Evl.EvL (tLc (iTup K (tSl (rSlT K) te (tPart (tC (.int 1))) tNoPart)) (gName 16) tYes (tCallD (spToldP K (n + 1)) (tCons (tVar 16) (tCons (tVar 1) tNil))) [16]) σ H ((rs.map (sayR x)).map V.bl) := by
  have lu := dpa_len hu
  rw [List.length_map] at lu
  have z := el_lcS (K := K) (t := tYes) (te := tCallD (spToldP K (n + 1)) (tCons (tVar 16) (tCons (tVar 1) tNil))) (j := 16) (vs := [16]) (σ := σ) (H := H) (xs := us) (fun _ => true) (fun i => .bl (sayR x (rs.getD i (.turns true [])))) (evs_tail h hs (fun e => by rw [e] at lu; exact hk0 (List.length_eq_zero_iff.mp lu.symm))) (by omega) hw (fun i y H1 e1 hy => fun H2 e2 Q q => q H2 (Ex.refl _)) (fun i y H1 e1 hy _ => ?_)
  · have em : Evl.given us.length (fun _ => true) (fun i => V.bl (sayR x (rs.getD i (.turns true [])))) = (rs.map (sayR x)).map V.bl := by
      rw [List.map_map]
      exact given_all lu.symm fun i hi => by
        rw [List.getD_eq_getElem?_getD, List.getElem?_eq_getElem hi]
        rfl
    rw [em] at z
    exact z
  · obtain ⟨d, hd1, hd2⟩ := dpa_get hu hy
    have hi : i < rs.length := by
      have := (List.getElem?_eq_some_iff.mp hy).1
      omega
    rw [List.getElem?_map, List.getElem?_eq_getElem hi] at hd1
    have ed : d = rlD true rs[i] := (Option.some.inj hd1).symm
    subst ed
    rw [List.getD_eq_getElem?_getD, List.getElem?_eq_getElem hi]
    obtain ⟨o1, o2⟩ := hok _ (List.getElem_mem hi)
    exact ev_callD (Evl.ea_cons (Evl.ev_var (v := y) (h16 _)) (Evl.ea_cons (Evl.ev_var (v := .ref c) (h1 _)) Evl.ea_nil)) fun H2 e2 Q q => ⟨y, .ref c, rs[i], x, rfl, hd2.up (e1.trans e2), .tup (Evl.ex_t (e1.trans e2) cA) (dpi_of x), o1, o2, hz, hb, q⟩
end
section
variable {P : Program} {w : World} {K : PySem.W.Frag} {mg : Str → Option Value} {base : Heap}
theorem told_body {f : Addr} {fd : FuncData} (F : Fun K "_law_says" "_law_says" s_Lsays f fd) (T : TxL mg) (n : Nat) (D_relations : DefAt P w K mg base "_law_relations" 1 ["_law_points"] (spRel K)) (D_Lsays : DefAt P w K mg base "_law_says" (n + 1) ["_law_rule_here", "_law_point_here"] (spToldP K n)) : FnOk P w K mg base CX0 (n + 2) f fd ["_law_rule_here", "_law_point_here"] (spTold K n) := by
  refine F.ok sc_Lsays (fun vs H Q E h => ?_) (fun cdv A outer s H vs Q E hr h => ?_)
  · obtain ⟨_, _, _, _, rfl, _⟩ := h
    rfl
  · obtain ⟨v, u, r, x, rfl, hv, hu, hok, hdep, hz, hbx, k⟩ := h
    refine ⟨_, (pss_cons (ps_set (i := 2) sc_Lsays.nd rfl (by first | exact Or.inl rfl | exact Or.inr rfl) (pe_ix ix_tup (pv 0) pe_int (fun _ _ => rfl)))
    (pss_cons (ps_if (pt_cmpR op_eq (pv 2) pe_str (nomark _)) (pss_one (ps_ret (pe_cmpR op_ge (pe_callB (cr_sum rfl) (by rfl) T.m_sum (by decide +kernel) (pa_cons (pe_lc (own := [("_law_weight", 8), ("_law_entry", 9)]) (g := gTup K 2 (gCons (gName 8) (gCons (gName 9) (gNil)))) (tt := tYes) (by rfl) sc_Lsays.nd (RZ.pi_zipA (by rfl) T.m_zip (pa_cons (pe_ix ix_tup (pv 0) pe_int (fun _ _ => rfl)) (pa_cons (pv 1) pa_nil))) (blkOk_by (N := sc_Lsays_N) (sc := defScope s_Lsays) (by decide +kernel)) (fun _ _ _ _ _ => (pg_tup (by rfl) (pgs_cons (pg_name (i := 8) sc_Lsays.nd rfl (by first | exact Or.inl rfl | exact Or.inr rfl)) (pgs_cons (pg_name (i := 9) sc_Lsays.nd rfl (by first | exact Or.inl rfl | exact Or.inr rfl)) pgs_nil)))) (fun _ _ _ _ _ => pts_nil) (fun _ _ _ _ _ => (pe_op op_mul (pv 8) (pv 9)))) pa_nil)) (pe_ix ix_tup (pv 0) pe_int (fun _ _ => rfl)) (nomark _)))) pss_nil)
    (pss_cons (ps_if (pt_cmpR op_eq (pv 2) pe_str (nomark _)) (pss_cons (ps_setLc (i := 3) (own := [("_law_entry", 9), ("_law_low", 10), ("_law_high", 11)]) (g := gTup K 2 (gCons (gName 9) (gCons (gTup K 2 (gCons (gName 10) (gCons (gName 11) (gNil)))) (gNil)))) (tt := tYes) (by rfl) sc_Lsays.nd rfl rfl (sw_true rfl rfl rfl (by decide +kernel)) (RZ.pi_zipA (by rfl) T.m_zip (pa_cons (pv 1) (pa_cons (pe_ix ix_tup (pv 0) pe_int (fun _ _ => rfl)) pa_nil))) (blkOk_by (N := sc_Lsays_N) (sc := defScope s_Lsays) (by decide +kernel)) (fun _ _ _ _ _ => (pg_tup (by rfl) (pgs_cons (pg_name (i := 9) sc_Lsays.nd rfl (by first | exact Or.inl rfl | exact Or.inr rfl)) (pgs_cons (pg_tup (by rfl) (pgs_cons (pg_name (i := 10) sc_Lsays.nd rfl (by first | exact Or.inl rfl | exact Or.inr rfl)) (pgs_cons (pg_name (i := 11) sc_Lsays.nd rfl (by first | exact Or.inl rfl | exact Or.inr rfl)) pgs_nil))) pgs_nil)))) (fun _ _ _ _ _ => pts_nil) (fun _ _ _ _ _ => (pe_or (pe_cmp (pc_isN (pv 10)) rfl) (pe_one (pe_cmpR op_le (pv 10) (pv 9) (nomark _))))))
      (pss_cons (ps_setLc (i := 4) (own := [("_law_entry", 9), ("_law_low", 10), ("_law_high", 11)]) (g := gTup K 2 (gCons (gName 9) (gCons (gTup K 2 (gCons (gName 10) (gCons (gName 11) (gNil)))) (gNil)))) (tt := tYes) (by rfl) sc_Lsays.nd rfl rfl (sw_true rfl rfl rfl (by decide +kernel)) (RZ.pi_zipA (by rfl) T.m_zip (pa_cons (pv 1) (pa_cons (pe_ix ix_tup (pv 0) pe_int (fun _ _ => rfl)) pa_nil))) (blkOk_by (N := sc_Lsays_N) (sc := defScope s_Lsays) (by decide +kernel)) (fun _ _ _ _ _ => (pg_tup (by rfl) (pgs_cons (pg_name (i := 9) sc_Lsays.nd rfl (by first | exact Or.inl rfl | exact Or.inr rfl)) (pgs_cons (pg_tup (by rfl) (pgs_cons (pg_name (i := 10) sc_Lsays.nd rfl (by first | exact Or.inl rfl | exact Or.inr rfl)) (pgs_cons (pg_name (i := 11) sc_Lsays.nd rfl (by first | exact Or.inl rfl | exact Or.inr rfl)) pgs_nil))) pgs_nil)))) (fun _ _ _ _ _ => pts_nil) (fun _ _ _ _ _ => (pe_or (pe_cmp (pc_isN (pv 11)) rfl) (pe_one (pe_cmpR op_ge (pv 11) (pv 9) (nomark _))))))
      (pss_one (ps_ret (pe_and (pe_callB (cr_all rfl) (by rfl) T.m_all (by decide +kernel) (pa_cons (pv 3) pa_nil)) (pe_one (pe_callB (cr_all rfl) (by rfl) T.m_all (by decide +kernel) (pa_cons (pv 4) pa_nil)))))))) pss_nil)
    (pss_cons (ps_if (pt_cmpR op_eq (pv 2) pe_str (nomark _)) (pss_cons (ps_setLc (i := 5) (own := [("_law_corner_here", 12)]) (g := gName 12) (tt := tYes) (te := tLc (RZ.iZipA K (tCons (tVar 1) (tCons (tVar 12) tNil))) (gTup K 2 (gCons (gName 9) (gCons (gName 13) (gNil)))) tYes (tOrV (tIsN (tVar 13)) (tOp (rI0 fun i j => .bl (decide (i ≤ j))) (tVar 13) (tVar 9))) [9, 13]) (by rfl) sc_Lsays.nd rfl rfl (sw_true rfl rfl rfl (by decide +kernel)) (pi_tup (pe_ix ix_tup (pv 0) pe_int (fun _ _ => rfl))) (blkOk_by (N := sc_Lsays_N) (sc := defScope s_Lsays) (by decide +kernel)) (fun _ _ _ _ _ => (pg_name (i := 12) sc_Lsays.nd rfl (by first | exact Or.inl rfl | exact Or.inr rfl))) (fun _ _ _ _ _ => pts_nil) (fun _ _ _ _ _ => (pe_lc (own := [("_law_entry", 9), ("_law_end", 13)]) (g := gTup K 2 (gCons (gName 9) (gCons (gName 13) (gNil)))) (tt := tYes) (te := tOrV (tIsN (tVar 13)) (tOp (rI0 fun i j => .bl (decide (i ≤ j))) (tVar 13) (tVar 9))) (by rfl) sc_Lsays.nd (RZ.pi_zipA (by rfl) T.m_zip (pa_cons (pv 1) (pa_cons (pv 12) pa_nil))) (blkOk_by (N := sc_Lsays_N) (sc := scR) (by decide +kernel)) (fun _ _ _ _ _ => (pg_tup (by rfl) (pgs_cons (pg_name (i := 9) sc_Lsays.nd rfl (by first | exact Or.inl rfl | exact Or.inr rfl)) (pgs_cons (pg_name (i := 13) sc_Lsays.nd rfl (by first | exact Or.inl rfl | exact Or.inr rfl)) pgs_nil)))) (fun _ _ _ _ _ => pts_nil) (fun _ _ _ _ _ => (pe_or (pe_cmp (pc_isN (pv 13)) rfl) (pe_one (pe_cmpR op_le (pv 13) (pv 9) (nomark _))))))))
      (pss_one (ps_ret (pe_callB (cr_any rfl) (by rfl) T.m_any (by decide +kernel) (pa_cons (pe_lc (own := [("_law_row", 14)]) (g := gName 14) (tt := tYes) (te := tCB (rAll K) (tCons (tVar 14) tNil)) (by rfl) sc_Lsays.nd (pi_list (pv 5)) (blkOk_by (N := sc_Lsays_N) (sc := defScope s_Lsays) (by decide +kernel)) (fun _ _ _ _ _ => (pg_name (i := 14) sc_Lsays.nd rfl (by first | exact Or.inl rfl | exact Or.inr rfl))) (fun _ _ _ _ _ => pts_nil) (fun _ _ _ _ _ => (pe_callB (cr_all rfl) (by rfl) T.m_all (by decide +kernel) (pa_cons (pv 14) pa_nil)))) pa_nil))))) pss_nil)
    (pss_cons (ps_if (pt_cmpR op_eq (pv 2) pe_str (nomark _)) (pss_cons (ps_set (i := 6) sc_Lsays.nd rfl (by first | exact Or.inl rfl | exact Or.inr rfl) (pe_callB call_len_seq (by rfl) T.m_len (by decide +kernel) (pa_cons (pe_callD D_relations (by first | exact hr | exact hr.mono (by decide) | exact hr.mono (by omega)) (by rfl) (pa_cons (pe_callTy call_list_of (by rfl) T.m_list (by decide +kernel) (pa_cons (pe_ix ix_tup (pv 0) pe_int (fun _ _ => rfl)) pa_nil)) pa_nil)) pa_nil)))
      (pss_one (ps_ret (pe_cmpR op_gt (pe_callB call_len_seq (by rfl) T.m_len (by decide +kernel) (pa_cons (pe_callD D_relations (by first | exact hr | exact hr.mono (by decide) | exact hr.mono (by omega)) (by rfl) (pa_cons (pe_op op_cat (pe_callTy call_list_of (by rfl) T.m_list (by decide +kernel) (pa_cons (pe_ix ix_tup (pv 0) pe_int (fun _ _ => rfl)) pa_nil)) (pe_lst (pa_cons (pv 1) pa_nil))) pa_nil)) pa_nil)) (pv 6) (nomark _))))) pss_nil)
    (pss_cons (ps_if (pt_cmpR op_eq (pv 2) pe_str (nomark _)) (pss_one (ps_ret (pe_cmpR op_eq (pe_ix ix_tup (pv 0) pe_int (fun _ _ => rfl)) (pe_cmpR op_eq (pe_op op_mod (pe_callB call_len_seq (by rfl) T.m_len (by decide +kernel) (pa_cons (pe_lc (own := [("_law_change", 15)]) (g := gName 15) (tt := tTest (tOp (rI0 fun i j => .bl (decide (i ≤ j))) (tVar 15) (tOp (rIxT K) (tVar 1) (tC (.int 0))))) (by rfl) sc_Lsays.nd (pi_tup (pe_ix ix_tup (pv 0) pe_int (fun _ _ => rfl))) (blkOk_by (N := sc_Lsays_N) (sc := defScope s_Lsays) (by decide +kernel)) (fun _ _ _ _ _ => (pg_name (i := 15) sc_Lsays.nd rfl (by first | exact Or.inl rfl | exact Or.inr rfl))) (fun _ _ _ _ _ => pts_one (pt_cmpR op_le (pv 15) (pe_ix ix_tup (pv 1) pe_int (fun _ _ => rfl)) (nomark _))) (fun _ _ _ _ _ => (pv 15))) pa_nil)) pe_int) pe_int (nomark _)) (nomark _)))) pss_nil)
    (pss_cons (ps_setLc (i := 7) (own := [("_law_inner", 16)]) (g := gName 16) (tt := tYes) (te := tCallD (spToldP K n) (tCons (tVar 16) (tCons (tVar 1) tNil))) (by rfl) sc_Lsays.nd rfl rfl (sw_true rfl rfl rfl (by decide +kernel)) (pi_tup (pe_slice sl_tup (pv 0) (po_some pe_int) po_none)) (blkOk_by (N := sc_Lsays_N) (sc := defScope s_Lsays) (by decide +kernel)) (fun _ _ _ _ _ => (pg_name (i := 16) sc_Lsays.nd rfl (by first | exact Or.inl rfl | exact Or.inr rfl))) (fun _ _ _ _ _ => pts_nil) (fun _ _ _ _ _ => (pe_callD D_Lsays (by first | exact hr | exact hr.mono (by decide) | exact hr.mono (by omega)) (by rfl) (pa_cons (pv 16) (pa_cons (pv 1) pa_nil)))))
    (pss_cons (ps_if (pt_cmpR op_eq (pv 2) pe_str (nomark _)) (pss_one (ps_ret (pe_not (pe_ix ix_list (pv 7) pe_int (fun _ _ => rfl))))) pss_nil)
    (pss_one (ps_ret (pe_ifExp (pt_cmpR op_eq (pv 2) pe_str (nomark _)) (pe_callB (cr_all rfl) (by rfl) T.m_all (by decide +kernel) (pa_cons (pv 7) pa_nil)) (pe_callB (cr_any rfl) (by rfl) T.m_any (by decide +kernel) (pa_cons (pv 7) pa_nil))))))))))))), ?_⟩
    obtain ⟨c, xs, rfl, sc, xc⟩ := sq_inv (t := true) hu
    have ex := dpi_inv xc
    subst ex
    cases r with
    | half ws b =>
      obtain ⟨a, ys, rfl, sa, ya⟩ := sq_inv (t := true) hv
      cases ya with
      | @cons u0 _ _ _ r0 q0 =>
        cases r0
        cases q0 with
        | @cons u1 _ _ _ r1 q0 =>
          cases q0 with
          | @cons u2 _ _ _ r2 q0 =>
            cases q0
            refine Evl.q_asg (v := .str "half") (Evl.ev_op (Evl.ev_var (v := .ref a) rfl) Evl.ev_c (Evl.rv_ixT sa rfl)) fun H1 e1 => ?_
            refine Evl.q_when (b := true) (Evl.et_is (Evl.et_test (Evl.ev_op (Evl.ev_var (v := .str "half") rfl) Evl.ev_c (Evl.rv_eq rfl))) (by decide)) (fun _ H2 e2 => ?_) (fun z => nomatch z)
            have eA := (e1.trans e2)
            have sA := Evl.ex_t eA sa
            have cA : SqT K H2 c (x.map V.int) := Evl.ex_t eA sc
            have kA := fun H' e => k H' (eA.trans e)
            cases r2
            cases r1 with
            | @tup e zs _ se ze =>
              have ex := dpi_inv ze
              subst ex
              have seA := Evl.ex_t eA se
              have z := el_zip (K := K) (te := tOp (rI CMul fun i j => .int (i * j)) (tVar 8) (tVar 9)) (ta := tCons (tOp (rIxT K) (tVar 0) (tC (.int 1))) (tCons (tVar 1) tNil)) (i1 := 8) (i2 := 9) (vs := [8, 9]) (σ := [some (V.ref a), some (V.ref c), some (V.str "half"), none, none, none, none, none, none, none, none, none, none, none, none, none, none]) (H := H2) (v := fun i => .int (ws.getD i 0 * x.getD i 0)) (a := e) (b := c) (Evl.ea_cons (Evl.ev_op (Evl.ev_var (v := .ref a) rfl) Evl.ev_c (Evl.rv_ixT sA rfl)) (Evl.ea_cons (Evl.ev_var (v := .ref c) rfl) Evl.ea_nil)) (.inr ⟨seA, cA⟩) (by rw [List.length_map, List.length_map]; exact hok.1) (by rw [List.length_map, hok.1]; omega) (fun _ _ => rfl)
                (fun i u q H9 e9 hu hq => ?_)
              · have ee : (List.range (ws.map V.int).length).map (fun i => V.int (ws.getD i 0 * x.getD i 0)) = (List.zipWith (fun a b => a * b) ws x).map V.int := by
                  rw [List.length_map, List.map_zipWith]
                  refine rng_zw hok.1.symm _ fun i h1 h2 => ?_
                  rw [List.getD_eq_getElem?_getD, List.getD_eq_getElem?_getD, List.getElem?_eq_getElem h1, List.getElem?_eq_getElem h2]
                  rfl
                rw [ee] at z
                exact Evl.s_ret (D := { nx := fun _ H' => Q .non H', rt := Q }) (v := .bl (sayR x (.half ws b))) (Evl.ev_op (ev_sum z) (Evl.ev_op (Evl.ev_var (v := .ref a) rfl) Evl.ev_c (Evl.rv_ixT (v := .int b) sA rfl)) (Evl.rv_I0 (g := fun i j => .bl (decide (i ≥ j))))) kA
              · have hlw : ws.length = x.length := hok.1
                have hi : i < ws.length := by
                  have := (List.getElem?_eq_some_iff.mp hu).1
                  rwa [List.length_map] at this
                have hi2 : i < x.length := by omega
                rw [List.getElem?_map, List.getElem?_eq_getElem hi] at hu
                rw [List.getElem?_map, List.getElem?_eq_getElem hi2] at hq
                have eu : u = .int ws[i] := (Option.some.inj hu).symm
                have eq : q = .int x[i] := (Option.some.inj hq).symm
                subst eu eq
                rw [List.getD_eq_getElem?_getD, List.getD_eq_getElem?_getD, List.getElem?_eq_getElem hi, List.getElem?_eq_getElem hi2]
                exact Evl.ev_op (Evl.ev_var rfl) (Evl.ev_var rfl) (Evl.rv_I (C := CMul) (g := fun a b => .int (a * b)) (.inl (hok.2 _ (List.getElem_mem hi))))
    | box rs =>
      obtain ⟨a, ys, rfl, sa, ya⟩ := sq_inv (t := true) hv
      cases ya with
      | @cons u0 _ _ _ r0 q0 =>
        cases r0
        cases q0 with
        | @cons u1 _ _ _ r1 q0 =>
          cases q0
          refine Evl.q_asg (v := .str "box") (Evl.ev_op (Evl.ev_var (v := .ref a) rfl) Evl.ev_c (Evl.rv_ixT sa rfl)) fun H1 e1 => ?_
          refine Evl.q_when (b := false) (Evl.et_is (Evl.et_test (Evl.ev_op (Evl.ev_var (v := .str "box") rfl) Evl.ev_c (Evl.rv_eq rfl))) (by decide)) (fun z => nomatch z) (fun _ H2 e2 => ?_)
          refine Evl.q_when (b := true) (Evl.et_is (Evl.et_test (Evl.ev_op (Evl.ev_var (v := .str "box") rfl) Evl.ev_c (Evl.rv_eq rfl))) (by decide)) (fun _ H3 e3 => ?_) (fun z => nomatch z)
          have eA := ((e1.trans e2).trans e3)
          have sA := Evl.ex_t eA sa
          have cA : SqT K H3 c (x.map V.int) := Evl.ex_t eA sc
          have kA := fun H' e => k H' (eA.trans e)
          cases r1 with
          | @tup e zs _ se ze =>
            have seA := Evl.ex_t eA se
            have zeA := ze.up eA
            have z1 := el_zipX (K := K) (te := tOrV (tIsN (tVar 10)) (tOp (rI0 fun i j => .bl (decide (i ≤ j))) (tVar 10) (tVar 9))) (tz := tCons (tVar 1) (tCons (tOp (rIxT K) (tVar 0) (tC (.int 1))) tNil)) (j1 := 9) (j2 := 10) (j3 := 11) (vs := [9, 10, 11]) (σ := [some (V.ref a), some (V.ref c), some (V.str "box"), none, none, none, none, none, none, none, none, none, none, none, none, none, none]) (H := H3) (f := fun e p => geO e p.1)
              (Evl.ea_cons (Evl.ev_var (v := .ref c) rfl) (Evl.ea_cons (Evl.ev_op (Evl.ev_var (v := .ref a) rfl) Evl.ev_c (Evl.rv_ixT sA rfl)) Evl.ea_nil)) cA seA zeA hok (by omega) (fun _ _ _ => rfl) (fun i h1 h2 H9 e9 => ?_)
            · refine Evl.q_asgL z1 fun pl H9 hp9 e9 h9 => ?_
              have z2 := el_zipX (K := K) (te := tOrV (tIsN (tVar 11)) (tOp (rI0 fun i j => .bl (decide (j ≤ i))) (tVar 11) (tVar 9))) (tz := tCons (tVar 1) (tCons (tOp (rIxT K) (tVar 0) (tC (.int 1))) tNil)) (j1 := 9) (j2 := 10) (j3 := 11) (vs := [9, 10, 11]) (σ := [some (V.ref a), some (V.ref c), some (V.str "box"), some (V.ref pl), none, none, none, none, none, none, none, none, none, none, none, none, none]) (H := H9) (f := fun e p => leO e p.2)
                (Evl.ea_cons (Evl.ev_var (v := .ref c) rfl) (Evl.ea_cons (Evl.ev_op (Evl.ev_var (v := .ref a) rfl) Evl.ev_c (Evl.rv_ixT (Evl.ex_t e9 sA) rfl)) Evl.ea_nil)) (Evl.ex_t e9 cA) (Evl.ex_t e9 seA) (zeA.up e9) hok (by omega) (fun _ _ _ => rfl) (fun i h1 h2 H10 e10 => ?_)
              · refine Evl.q_asgL z2 fun ph H10 hp10 e10 h10 => ?_
                refine Evl.s_ret (D := { nx := fun _ H' => Q .non H', rt := Q }) (v := .bl (sayR x (.box rs))) (Evl.ev_is (Evl.ev_andV (ev_allV (Evl.ev_var (v := .ref pl) rfl) (SqL.of (e10 pl _ h9))) fun _ => ev_allV (Evl.ev_var (v := .ref ph) rfl) (SqL.of h10)) (congrArg V.bl (lows_highs x rs))) fun H11 e11 => kA H11 ((e9.trans e10).trans e11)
              · cases h3 : rs[i].2 with
                | none => exact Evl.ev_orV (a := true) (b := true) (ev_isN (Evl.ev_var (v := .non) rfl)) fun z => nomatch z
                | some j => exact Evl.ev_orV (a := false) (ev_isN (Evl.ev_var (v := .int j) rfl)) fun _ => Evl.ev_op (Evl.ev_var (v := .int j) rfl) (Evl.ev_var (v := .int x[i]) rfl) (Evl.rv_I0 (g := fun i j => .bl (decide (j ≤ i))))
            · cases h3 : rs[i].1 with
              | none => exact Evl.ev_orV (a := true) (b := true) (ev_isN (Evl.ev_var (v := .non) rfl)) fun z => nomatch z
              | some j => exact Evl.ev_orV (a := false) (ev_isN (Evl.ev_var (v := .int j) rfl)) fun _ => Evl.ev_op (Evl.ev_var (v := .int j) rfl) (Evl.ev_var (v := .int x[i]) rfl) (Evl.rv_I0 (g := fun i j => .bl (decide (i ≤ j))))
    | rise cs =>
      obtain ⟨a, ys, rfl, sa, ya⟩ := sq_inv (t := true) hv
      cases ya with
      | @cons u0 _ _ _ r0 q0 =>
        cases r0
        cases q0 with
        | @cons u1 _ _ _ r1 q0 =>
          cases q0
          refine Evl.q_asg (v := .str "rise") (Evl.ev_op (Evl.ev_var (v := .ref a) rfl) Evl.ev_c (Evl.rv_ixT sa rfl)) fun H1 e1 => ?_
          refine Evl.q_when (b := false) (Evl.et_is (Evl.et_test (Evl.ev_op (Evl.ev_var (v := .str "rise") rfl) Evl.ev_c (Evl.rv_eq rfl))) (by decide)) (fun z => nomatch z) (fun _ H2 e2 => ?_)
          refine Evl.q_when (b := false) (Evl.et_is (Evl.et_test (Evl.ev_op (Evl.ev_var (v := .str "rise") rfl) Evl.ev_c (Evl.rv_eq rfl))) (by decide)) (fun z => nomatch z) (fun _ H3 e3 => ?_)
          refine Evl.q_when (b := true) (Evl.et_is (Evl.et_test (Evl.ev_op (Evl.ev_var (v := .str "rise") rfl) Evl.ev_c (Evl.rv_eq rfl))) (by decide)) (fun _ H4 e4 => ?_) (fun z => nomatch z)
          have eA := (((e1.trans e2).trans e3).trans e4)
          have sA := Evl.ex_t eA sa
          have cA : SqT K H4 c (x.map V.int) := Evl.ex_t eA sc
          have kA := fun H' e => k H' (eA.trans e)
          cases r1 with
          | @tup e zs _ se ze =>
            have seA := Evl.ex_t eA se
            have zeA := ze.up eA
            have hok1 : ∀ y ∈ cs, y.length = x.length := hok.1
            have hok2 : cs.length ≤ 1000 := hok.2
            have z1 := rows_run (K := K) (x := x) (σ := [some (V.ref a), some (V.ref c), some (V.str "rise"), none, none, none, none, none, none, none, none, none, none, none, none, none, none]) (H := H4) (tl := tOp (rIxT K) (tVar 0) (tC (.int 1))) (Evl.ev_op (Evl.ev_var (v := .ref a) rfl) Evl.ev_c (Evl.rv_ixT sA rfl)) cA seA zeA hok1 (by omega) (by omega) rfl (fun _ => rfl) (fun _ => rfl) (fun _ => rfl) (fun _ _ _ => rfl)
              (fun _ _ _ => rfl) (fun _ _ _ => rfl)
            refine q_asgG6 (K := K) (L := []) z1 fun pr H9 hp9 e9 g9 => ?_
            refine Evl.s_ret (D := { nx := fun _ H' => Q .non H', rt := Q }) (v := .bl (sayR x (.rise cs))) (Evl.ev_is (ev_any (rowsAll (K := K) (x := x) (cs := cs) (j := 14) (Evl.ev_var (v := .ref pr) rfl) g9 (by omega) (fun _ => rfl) (fun _ => rfl))) (congrArg V.bl (by rw [List.any_map]; rfl))) fun H11 e11 => kA H11 (e9.trans e11)
    | flat ps =>
      obtain ⟨a, ys, rfl, sa, ya⟩ := sq_inv (t := true) hv
      cases ya with
      | @cons u0 _ _ _ r0 q0 =>
        cases r0
        cases q0 with
        | @cons u1 _ _ _ r1 q0 =>
          cases q0
          refine Evl.q_asg (v := .str "flat") (Evl.ev_op (Evl.ev_var (v := .ref a) rfl) Evl.ev_c (Evl.rv_ixT sa rfl)) fun H1 e1 => ?_
          refine Evl.q_when (b := false) (Evl.et_is (Evl.et_test (Evl.ev_op (Evl.ev_var (v := .str "flat") rfl) Evl.ev_c (Evl.rv_eq rfl))) (by decide)) (fun z => nomatch z) (fun _ H2 e2 => ?_)
          refine Evl.q_when (b := false) (Evl.et_is (Evl.et_test (Evl.ev_op (Evl.ev_var (v := .str "flat") rfl) Evl.ev_c (Evl.rv_eq rfl))) (by decide)) (fun z => nomatch z) (fun _ H3 e3 => ?_)
          refine Evl.q_when (b := false) (Evl.et_is (Evl.et_test (Evl.ev_op (Evl.ev_var (v := .str "flat") rfl) Evl.ev_c (Evl.rv_eq rfl))) (by decide)) (fun z => nomatch z) (fun _ H4 e4 => ?_)
          refine Evl.q_when (b := true) (Evl.et_is (Evl.et_test (Evl.ev_op (Evl.ev_var (v := .str "flat") rfl) Evl.ev_c (Evl.rv_eq rfl))) (by decide)) (fun _ H5 e5 => ?_) (fun z => nomatch z)
          have eA := ((((e1.trans e2).trans e3).trans e4).trans e5)
          have sA := Evl.ex_t eA sa
          have cA : SqT K H5 c (x.map V.int) := Evl.ex_t eA sc
          have kA := fun H' e => k H' (eA.trans e)
          cases r1 with
          | @tup e zs _ se ze =>
            have seA := Evl.ex_t eA se
            have zeA : DpAll K H5 zs (ps.map tD) := ze.up eA
            obtain ⟨hok1, hok2, hok3⟩ : (∀ y ∈ ps, y.length = x.length) ∧ ps.length ≤ 3 ∧ ∀ y ∈ ps, Bits 59 y := hok
            have v1 : Evl.Ev (tOp (rIxT K) (tVar 0) (tC (.int 1))) [some (V.ref a), some (V.ref c), some (V.str "flat"), none, none, none, none, none, none, none, none, none, none, none, none, none, none] H5 (.ref e) := Evl.ev_op (Evl.ev_var (v := .ref a) rfl) Evl.ev_c (Evl.rv_ixT sA rfl)
            refine Evl.q_asg (ev_rel (el_listT (K := K) v1 (.inr seA)) zeA hok1 hz (by omega) hok3) fun H9 e9 => ?_
            have v2 : Evl.Ev (tOp (rIxT K) (tVar 0) (tC (.int 1))) [some (V.ref a), some (V.ref c), some (V.str "flat"), none, none, none, some (V.int ((relN (x.length + 1) (rowsL ps.length ps 0) : Nat) : Int)), none, none, none, none, none, none, none, none, none, none] H9 (.ref e) := Evl.ev_op (Evl.ev_var (v := .ref a) rfl) Evl.ev_c (Evl.rv_ixT (Evl.ex_t e9 sA) rfl)
            have lz := dpa_len ze
            rw [List.length_map] at lz
            have z2 := ev_rel (K := K) (ps := ps ++ [x]) (d := x.length) (el_cat (el_listT (K := K) v2 (.inr (Evl.ex_t e9 seA))) (Evl.el_lst (Evl.ea_cons (Evl.ev_var (i := 1) (v := .ref c) rfl) Evl.ea_nil) (by simp)) (by simp; omega)) (by
              rw [List.map_append]
              exact dpa_app (zeA.up e9) (.cons (.tup (Evl.ex_t e9 cA) (dpi_of x)) .nil)) (fun y hy => (List.mem_append.mp hy).elim (hok1 y) fun q => by rw [List.mem_singleton.mp q]) hz (by rw [List.length_append]; show ps.length + 1 ≤ 4; omega) (fun y hy => (List.mem_append.mp hy).elim (hok3 y) fun q => by rw [List.mem_singleton.mp q]; exact hbx)
            rw [List.length_append] at z2
            refine Evl.s_ret (D := { nx := fun _ H' => Q .non H', rt := Q }) (v := .bl (sayR x (.flat ps))) (Evl.ev_is (Evl.ev_op z2 (Evl.ev_var (v := .int ((relN (x.length + 1) (rowsL ps.length ps 0) : Nat) : Int)) rfl) (Evl.rv_I0 (g := fun i j => .bl (decide (j < i))))) (congrArg V.bl ?_)) fun H11 e11 => kA H11 (e9.trans e11)
            show _ = flatR ps x
            unfold flatR
            rw [flat_both hok1 rfl]
            exact decide_eq_decide.mpr (by show ((relN (x.length + 1) (rowsL ps.length ps 0) : Nat) : Int) < ((relN (x.length + 1) (rowsL (ps.length + 1) (ps ++ [x]) 0) : Nat) : Int) ↔ _; omega)
    | turns f0 cs =>
      obtain ⟨a, ys, rfl, sa, ya⟩ := sq_inv (t := true) hv
      cases ya with
      | @cons u0 _ _ _ r0 q0 =>
        cases r0
        cases q0 with
        | @cons u1 _ _ _ r1 q0 =>
          cases q0 with
          | @cons u2 _ _ _ r2 q0 =>
            cases q0
            refine Evl.q_asg (v := .str "turns") (Evl.ev_op (Evl.ev_var (v := .ref a) rfl) Evl.ev_c (Evl.rv_ixT sa rfl)) fun H1 e1 => ?_
            refine Evl.q_when (b := false) (Evl.et_is (Evl.et_test (Evl.ev_op (Evl.ev_var (v := .str "turns") rfl) Evl.ev_c (Evl.rv_eq rfl))) (by decide)) (fun z => nomatch z) (fun _ H2 e2 => ?_)
            refine Evl.q_when (b := false) (Evl.et_is (Evl.et_test (Evl.ev_op (Evl.ev_var (v := .str "turns") rfl) Evl.ev_c (Evl.rv_eq rfl))) (by decide)) (fun z => nomatch z) (fun _ H3 e3 => ?_)
            refine Evl.q_when (b := false) (Evl.et_is (Evl.et_test (Evl.ev_op (Evl.ev_var (v := .str "turns") rfl) Evl.ev_c (Evl.rv_eq rfl))) (by decide)) (fun z => nomatch z) (fun _ H4 e4 => ?_)
            refine Evl.q_when (b := false) (Evl.et_is (Evl.et_test (Evl.ev_op (Evl.ev_var (v := .str "turns") rfl) Evl.ev_c (Evl.rv_eq rfl))) (by decide)) (fun z => nomatch z) (fun _ H5 e5 => ?_)
            refine Evl.q_when (b := true) (Evl.et_is (Evl.et_test (Evl.ev_op (Evl.ev_var (v := .str "turns") rfl) Evl.ev_c (Evl.rv_eq rfl))) (by decide)) (fun _ H6 e6 => ?_) (fun z => nomatch z)
            have eA := (((((e1.trans e2).trans e3).trans e4).trans e5).trans e6)
            have sA := Evl.ex_t eA sa
            have cA : SqT K H6 c (x.map V.int) := Evl.ex_t eA sc
            have kA := fun H' e => k H' (eA.trans e)
            cases r1
            cases r2 with
            | @tup e zs _ se ze =>
              have ex := dpi_inv ze
              subst ex
              have seA := Evl.ex_t eA se
              have hx1 : x.length = 1 := hok.1
              have hx0 : atI (x.map V.int) 0 = some (.int (x.getD 0 0)) := by
                match x, hx1 with
                | [y], _ => rfl
              have v2 : Evl.Ev (tOp (rIxT K) (tVar 0) (tC (.int 2))) [some (V.ref a), some (V.ref c), some (V.str "turns"), none, none, none, none, none, none, none, none, none, none, none, none, none, none] H6 (.ref e) := Evl.ev_op (Evl.ev_var (v := .ref a) rfl) Evl.ev_c (Evl.rv_ixT sA rfl)
              have z := el_lcS (K := K) (te := tVar 15) (t := tTest (tOp (rI0 fun i j => .bl (decide (i ≤ j))) (tVar 15) (tOp (rIxT K) (tVar 1) (tC (.int 0))))) (j := 15) (vs := [15]) (σ := [some (V.ref a), some (V.ref c), some (V.str "turns"), none, none, none, none, none, none, none, none, none, none, none, none, none, none]) (H := H6) (xs := cs.map V.int) (fun i => decide (cs.getD i 0 ≤ x.getD 0 0)) (fun i => .int (cs.getD i 0)) (evs_of v2 seA) (by rw [List.length_map]; have : cs.length ≤ 1000 := hok.2; omega) (fun _ => rfl)
                (fun i y H9 e9 hy => ?_) (fun i y H9 e9 hy _ => ?_)
              · have el : (Evl.given (cs.map V.int).length (fun i => decide (cs.getD i 0 ≤ x.getD 0 0)) (fun i => V.int (cs.getD i 0))).length = (cs.filter fun c => decide (c ≤ x.getD 0 0)).length := by
                  rw [List.length_map]
                  exact given_filter cs (x.getD 0 0)
                have zl := Evl.ev_is (ev_lenL (K := K) z) (show V.int ((Evl.given (cs.map V.int).length (fun i => decide (cs.getD i 0 ≤ x.getD 0 0)) (fun i => V.int (cs.getD i 0))).length : Int) = .int ((cs.filter fun c => decide (c ≤ x.getD 0 0)).length : Int) by rw [el])
                have v1 : Evl.Ev (tOp (rIxT K) (tVar 0) (tC (.int 1))) [some (V.ref a), some (V.ref c), some (V.str "turns"), none, none, none, none, none, none, none, none, none, none, none, none, none, none] H6 (.bl f0) := Evl.ev_op (Evl.ev_var (v := .ref a) rfl) Evl.ev_c (Evl.rv_ixT sA rfl)
                exact Evl.s_ret (D := { nx := fun _ H' => Q .non H', rt := Q }) (v := .bl (sayR x (.turns f0 cs))) (Evl.ev_is (Evl.ev_op v1 (Evl.ev_op (Evl.ev_op zl Evl.ev_c (Evl.rv_I (C := fun _ j => 0 < j) (g := fun i j => .int (i % j)) (j := 2) (by show (0 : Int) < 2; decide))) Evl.ev_c (Evl.rv_eq rfl)) (Evl.rv_eq rfl)) (congrArg V.bl (turns_count (x.getD 0 0) cs f0).symm)) kA
              · have hi : i < cs.length := by
                  have := (List.getElem?_eq_some_iff.mp hy).1
                  rwa [List.length_map] at this
                rw [List.getElem?_map, List.getElem?_eq_getElem hi] at hy
                have ey : y = .int cs[i] := (Option.some.inj hy).symm
                subst ey
                rw [List.getD_eq_getElem?_getD, List.getElem?_eq_getElem hi]
                exact Evl.et_test (Evl.ev_op (Evl.ev_var (v := .int cs[i]) rfl) (Evl.ev_op (Evl.ev_var (v := .ref c) rfl) Evl.ev_c (Evl.rv_ixT (Evl.ex_t e9 cA) hx0)) (Evl.rv_I0 (g := fun i j => .bl (decide (i ≤ j)))))
              · have hi : i < cs.length := by
                  have := (List.getElem?_eq_some_iff.mp hy).1
                  rwa [List.length_map] at this
                rw [List.getElem?_map, List.getElem?_eq_getElem hi] at hy
                have ey : y = .int cs[i] := (Option.some.inj hy).symm
                subst ey
                rw [List.getD_eq_getElem?_getD, List.getElem?_eq_getElem hi]
                exact Evl.ev_var rfl
    | no r1' =>
      obtain ⟨a, ys, rfl, sa, ya⟩ := sq_inv (t := true) hv
      cases ya with
      | @cons u0 _ _ _ r0 q0 =>
        cases r0
        cases q0 with
        | @cons u1 _ _ _ r1 q0 =>
          cases q0
          refine Evl.q_asg (v := .str "not") (Evl.ev_op (Evl.ev_var (v := .ref a) rfl) Evl.ev_c (Evl.rv_ixT sa rfl)) fun H1 e1 => ?_
          refine Evl.q_when (b := false) (Evl.et_is (Evl.et_test (Evl.ev_op (Evl.ev_var (v := .str "not") rfl) Evl.ev_c (Evl.rv_eq rfl))) (by decide)) (fun z => nomatch z) (fun _ H2 e2 => ?_)
          refine Evl.q_when (b := false) (Evl.et_is (Evl.et_test (Evl.ev_op (Evl.ev_var (v := .str "not") rfl) Evl.ev_c (Evl.rv_eq rfl))) (by decide)) (fun z => nomatch z) (fun _ H3 e3 => ?_)
          refine Evl.q_when (b := false) (Evl.et_is (Evl.et_test (Evl.ev_op (Evl.ev_var (v := .str "not") rfl) Evl.ev_c (Evl.rv_eq rfl))) (by decide)) (fun z => nomatch z) (fun _ H4 e4 => ?_)
          refine Evl.q_when (b := false) (Evl.et_is (Evl.et_test (Evl.ev_op (Evl.ev_var (v := .str "not") rfl) Evl.ev_c (Evl.rv_eq rfl))) (by decide)) (fun z => nomatch z) (fun _ H5 e5 => ?_)
          refine Evl.q_when (b := false) (Evl.et_is (Evl.et_test (Evl.ev_op (Evl.ev_var (v := .str "not") rfl) Evl.ev_c (Evl.rv_eq rfl))) (by decide)) (fun z => nomatch z) (fun _ H6 e6 => ?_)
          have eA := (((((e1.trans e2).trans e3).trans e4).trans e5).trans e6)
          have sA := Evl.ex_t eA sa
          have cA : SqT K H6 c (x.map V.int) := Evl.ex_t eA sc
          have kA := fun H' e => k H' (eA.trans e)
          have hd1 : depR r1' + 1 ≤ n := hdep
          obtain ⟨n, rfl⟩ : ∃ j, n = j + 1 := ⟨n - 1, by omega⟩
          have z := kids_told (K := K) (te := tVar 0) (n := n) (x := x) (rs := [r1']) (σ := [some (V.ref a), some (V.ref c), some (V.str "not"), none, none, none, none, none, none, none, none, none, none, none, none, none, none]) (H := H6) (Evl.ev_var (v := .ref a) rfl) sA (.cons (r1.up eA) .nil) (by simp) (by simp) (fun y hy => ?_) cA hz hbx (fun _ => rfl) (fun _ => rfl) (fun _ => rfl)
          · refine Evl.q_asgL z fun pt H9 hp9 e9 h9 => ?_
            refine Evl.q_when (b := true) (Evl.et_is (Evl.et_test (Evl.ev_op (Evl.ev_var (v := .str "not") rfl) Evl.ev_c (Evl.rv_eq rfl))) (by decide)) (fun _ H10 e10 => ?_) (fun z => nomatch z)
            exact Evl.s_ret (D := { nx := fun _ H' => Q .non H', rt := Q }) (v := .bl (sayR x (.no r1'))) (Evl.ev_notV (Evl.ev_op (Evl.ev_var (v := .ref pt) rfl) Evl.ev_c (Evl.rv_ixL (v := .bl (sayR x r1')) (SqL.of (e10 pt _ h9)) rfl))) fun H11 e11 => kA H11 ((e9.trans e10).trans e11)
          · rw [List.mem_singleton.mp hy]
            exact ⟨hok, by omega⟩
    | both r1' r2' =>
      obtain ⟨a, ys, rfl, sa, ya⟩ := sq_inv (t := true) hv
      cases ya with
      | @cons u0 _ _ _ r0 q0 =>
        cases r0
        cases q0 with
        | @cons u1 _ _ _ r1 q0 =>
          cases q0 with
          | @cons u2 _ _ _ r2 q0 =>
            cases q0
            refine Evl.q_asg (v := .str "both") (Evl.ev_op (Evl.ev_var (v := .ref a) rfl) Evl.ev_c (Evl.rv_ixT sa rfl)) fun H1 e1 => ?_
            refine Evl.q_when (b := false) (Evl.et_is (Evl.et_test (Evl.ev_op (Evl.ev_var (v := .str "both") rfl) Evl.ev_c (Evl.rv_eq rfl))) (by decide)) (fun z => nomatch z) (fun _ H2 e2 => ?_)
            refine Evl.q_when (b := false) (Evl.et_is (Evl.et_test (Evl.ev_op (Evl.ev_var (v := .str "both") rfl) Evl.ev_c (Evl.rv_eq rfl))) (by decide)) (fun z => nomatch z) (fun _ H3 e3 => ?_)
            refine Evl.q_when (b := false) (Evl.et_is (Evl.et_test (Evl.ev_op (Evl.ev_var (v := .str "both") rfl) Evl.ev_c (Evl.rv_eq rfl))) (by decide)) (fun z => nomatch z) (fun _ H4 e4 => ?_)
            refine Evl.q_when (b := false) (Evl.et_is (Evl.et_test (Evl.ev_op (Evl.ev_var (v := .str "both") rfl) Evl.ev_c (Evl.rv_eq rfl))) (by decide)) (fun z => nomatch z) (fun _ H5 e5 => ?_)
            refine Evl.q_when (b := false) (Evl.et_is (Evl.et_test (Evl.ev_op (Evl.ev_var (v := .str "both") rfl) Evl.ev_c (Evl.rv_eq rfl))) (by decide)) (fun z => nomatch z) (fun _ H6 e6 => ?_)
            have eA := (((((e1.trans e2).trans e3).trans e4).trans e5).trans e6)
            have sA := Evl.ex_t eA sa
            have cA : SqT K H6 c (x.map V.int) := Evl.ex_t eA sc
            have kA := fun H' e => k H' (eA.trans e)
            have hd1 : max (depR r1') (depR r2') + 1 ≤ n := hdep
            obtain ⟨n, rfl⟩ : ∃ j, n = j + 1 := ⟨n - 1, by omega⟩
            have z := kids_told (K := K) (te := tVar 0) (n := n) (x := x) (rs := [r1', r2']) (σ := [some (V.ref a), some (V.ref c), some (V.str "both"), none, none, none, none, none, none, none, none, none, none, none, none, none, none]) (H := H6) (Evl.ev_var (v := .ref a) rfl) sA (.cons (r1.up eA) (.cons (r2.up eA) .nil)) (by simp) (by simp) (fun y hy => ?_) cA hz hbx (fun _ => rfl) (fun _ => rfl) (fun _ => rfl)
            · refine Evl.q_asgL z fun pt H9 hp9 e9 h9 => ?_
              refine Evl.q_when (b := false) (Evl.et_is (Evl.et_test (Evl.ev_op (Evl.ev_var (v := .str "both") rfl) Evl.ev_c (Evl.rv_eq rfl))) (by decide)) (fun z => nomatch z) (fun _ H10 e10 => ?_)
              refine Evl.s_ret (D := { nx := fun _ H' => Q .non H', rt := Q }) (v := .bl (sayR x (.both r1' r2'))) (Evl.ev_if (b := true) (Evl.et_is (Evl.et_test (Evl.ev_op (Evl.ev_var (v := .str "both") rfl) Evl.ev_c (Evl.rv_eq rfl))) (by decide)) (fun _ => Evl.ev_is (ev_allV (bs := [sayR x r1', sayR x r2']) (Evl.ev_var (v := .ref pt) rfl) (SqL.of (e10 pt _ h9))) (congrArg V.bl ?_)) fun z => nomatch z) fun H11 e11 => kA H11 ((e9.trans e10).trans e11)
              show (sayR x r1' && (sayR x r2' && true)) = _
              simp [sayR]
            · rcases List.mem_cons.mp hy with q | q
              · rw [q]
                exact ⟨hok.1, by omega⟩
              · rw [List.mem_singleton.mp q]
                exact ⟨hok.2, by omega⟩
    | either r1' r2' =>
      obtain ⟨a, ys, rfl, sa, ya⟩ := sq_inv (t := true) hv
      cases ya with
      | @cons u0 _ _ _ r0 q0 =>
        cases r0
        cases q0 with
        | @cons u1 _ _ _ r1 q0 =>
          cases q0 with
          | @cons u2 _ _ _ r2 q0 =>
            cases q0
            refine Evl.q_asg (v := .str "either") (Evl.ev_op (Evl.ev_var (v := .ref a) rfl) Evl.ev_c (Evl.rv_ixT sa rfl)) fun H1 e1 => ?_
            refine Evl.q_when (b := false) (Evl.et_is (Evl.et_test (Evl.ev_op (Evl.ev_var (v := .str "either") rfl) Evl.ev_c (Evl.rv_eq rfl))) (by decide)) (fun z => nomatch z) (fun _ H2 e2 => ?_)
            refine Evl.q_when (b := false) (Evl.et_is (Evl.et_test (Evl.ev_op (Evl.ev_var (v := .str "either") rfl) Evl.ev_c (Evl.rv_eq rfl))) (by decide)) (fun z => nomatch z) (fun _ H3 e3 => ?_)
            refine Evl.q_when (b := false) (Evl.et_is (Evl.et_test (Evl.ev_op (Evl.ev_var (v := .str "either") rfl) Evl.ev_c (Evl.rv_eq rfl))) (by decide)) (fun z => nomatch z) (fun _ H4 e4 => ?_)
            refine Evl.q_when (b := false) (Evl.et_is (Evl.et_test (Evl.ev_op (Evl.ev_var (v := .str "either") rfl) Evl.ev_c (Evl.rv_eq rfl))) (by decide)) (fun z => nomatch z) (fun _ H5 e5 => ?_)
            refine Evl.q_when (b := false) (Evl.et_is (Evl.et_test (Evl.ev_op (Evl.ev_var (v := .str "either") rfl) Evl.ev_c (Evl.rv_eq rfl))) (by decide)) (fun z => nomatch z) (fun _ H6 e6 => ?_)
            have eA := (((((e1.trans e2).trans e3).trans e4).trans e5).trans e6)
            have sA := Evl.ex_t eA sa
            have cA : SqT K H6 c (x.map V.int) := Evl.ex_t eA sc
            have kA := fun H' e => k H' (eA.trans e)
            have hd1 : max (depR r1') (depR r2') + 1 ≤ n := hdep
            obtain ⟨n, rfl⟩ : ∃ j, n = j + 1 := ⟨n - 1, by omega⟩
            have z := kids_told (K := K) (te := tVar 0) (n := n) (x := x) (rs := [r1', r2']) (σ := [some (V.ref a), some (V.ref c), some (V.str "either"), none, none, none, none, none, none, none, none, none, none, none, none, none, none]) (H := H6) (Evl.ev_var (v := .ref a) rfl) sA (.cons (r1.up eA) (.cons (r2.up eA) .nil)) (by simp) (by simp) (fun y hy => ?_) cA hz hbx (fun _ => rfl) (fun _ => rfl) (fun _ => rfl)
            · refine Evl.q_asgL z fun pt H9 hp9 e9 h9 => ?_
              refine Evl.q_when (b := false) (Evl.et_is (Evl.et_test (Evl.ev_op (Evl.ev_var (v := .str "either") rfl) Evl.ev_c (Evl.rv_eq rfl))) (by decide)) (fun z => nomatch z) (fun _ H10 e10 => ?_)
              refine Evl.s_ret (D := { nx := fun _ H' => Q .non H', rt := Q }) (v := .bl (sayR x (.either r1' r2'))) (Evl.ev_if (b := false) (Evl.et_is (Evl.et_test (Evl.ev_op (Evl.ev_var (v := .str "either") rfl) Evl.ev_c (Evl.rv_eq rfl))) (by decide)) (fun z => nomatch z) fun _ => Evl.ev_is (ev_anyV (bs := [sayR x r1', sayR x r2']) (Evl.ev_var (v := .ref pt) rfl) (SqL.of (e10 pt _ h9))) (congrArg V.bl ?_)) fun H11 e11 => kA H11 ((e9.trans e10).trans e11)
              show (sayR x r1' || (sayR x r2' || false)) = _
              simp [sayR]
            · rcases List.mem_cons.mp hy with q | q
              · rw [q]
                exact ⟨hok.1, by omega⟩
              · rw [List.mem_singleton.mp q]
                exact ⟨hok.2, by omega⟩
    | first r1' =>
      obtain ⟨a, ys, rfl, sa, ya⟩ := sq_inv (t := true) hv
      cases ya with
      | @cons u0 _ _ _ r0 q0 =>
        cases r0
        cases q0 with
        | @cons u1 _ _ _ r1 q0 =>
          cases q0
          refine Evl.q_asg (v := .str "first") (Evl.ev_op (Evl.ev_var (v := .ref a) rfl) Evl.ev_c (Evl.rv_ixT sa rfl)) fun H1 e1 => ?_
          refine Evl.q_when (b := false) (Evl.et_is (Evl.et_test (Evl.ev_op (Evl.ev_var (v := .str "first") rfl) Evl.ev_c (Evl.rv_eq rfl))) (by decide)) (fun z => nomatch z) (fun _ H2 e2 => ?_)
          refine Evl.q_when (b := false) (Evl.et_is (Evl.et_test (Evl.ev_op (Evl.ev_var (v := .str "first") rfl) Evl.ev_c (Evl.rv_eq rfl))) (by decide)) (fun z => nomatch z) (fun _ H3 e3 => ?_)
          refine Evl.q_when (b := false) (Evl.et_is (Evl.et_test (Evl.ev_op (Evl.ev_var (v := .str "first") rfl) Evl.ev_c (Evl.rv_eq rfl))) (by decide)) (fun z => nomatch z) (fun _ H4 e4 => ?_)
          refine Evl.q_when (b := false) (Evl.et_is (Evl.et_test (Evl.ev_op (Evl.ev_var (v := .str "first") rfl) Evl.ev_c (Evl.rv_eq rfl))) (by decide)) (fun z => nomatch z) (fun _ H5 e5 => ?_)
          refine Evl.q_when (b := false) (Evl.et_is (Evl.et_test (Evl.ev_op (Evl.ev_var (v := .str "first") rfl) Evl.ev_c (Evl.rv_eq rfl))) (by decide)) (fun z => nomatch z) (fun _ H6 e6 => ?_)
          have eA := (((((e1.trans e2).trans e3).trans e4).trans e5).trans e6)
          have sA := Evl.ex_t eA sa
          have cA : SqT K H6 c (x.map V.int) := Evl.ex_t eA sc
          have kA := fun H' e => k H' (eA.trans e)
          have hd1 : depR r1' + 1 ≤ n := hdep
          obtain ⟨n, rfl⟩ : ∃ j, n = j + 1 := ⟨n - 1, by omega⟩
          have z := kids_told (K := K) (te := tVar 0) (n := n) (x := x) (rs := [r1']) (σ := [some (V.ref a), some (V.ref c), some (V.str "first"), none, none, none, none, none, none, none, none, none, none, none, none, none, none]) (H := H6) (Evl.ev_var (v := .ref a) rfl) sA (.cons (r1.up eA) .nil) (by simp) (by simp) (fun y hy => ?_) cA hz hbx (fun _ => rfl) (fun _ => rfl) (fun _ => rfl)
          · refine Evl.q_asgL z fun pt H9 hp9 e9 h9 => ?_
            refine Evl.q_when (b := false) (Evl.et_is (Evl.et_test (Evl.ev_op (Evl.ev_var (v := .str "first") rfl) Evl.ev_c (Evl.rv_eq rfl))) (by decide)) (fun z => nomatch z) (fun _ H10 e10 => ?_)
            refine Evl.s_ret (D := { nx := fun _ H' => Q .non H', rt := Q }) (v := .bl (sayR x (.first r1'))) (Evl.ev_if (b := false) (Evl.et_is (Evl.et_test (Evl.ev_op (Evl.ev_var (v := .str "first") rfl) Evl.ev_c (Evl.rv_eq rfl))) (by decide)) (fun z => nomatch z) fun _ => Evl.ev_is (ev_anyV (bs := [sayR x r1']) (Evl.ev_var (v := .ref pt) rfl) (SqL.of (e10 pt _ h9))) (congrArg V.bl ?_)) fun H11 e11 => kA H11 ((e9.trans e10).trans e11)
            show (sayR x r1' || false) = _
            simp [sayR]
          · rw [List.mem_singleton.mp hy]
            exact ⟨hok, by omega⟩
    | second r1' =>
      obtain ⟨a, ys, rfl, sa, ya⟩ := sq_inv (t := true) hv
      cases ya with
      | @cons u0 _ _ _ r0 q0 =>
        cases r0
        cases q0 with
        | @cons u1 _ _ _ r1 q0 =>
          cases q0
          refine Evl.q_asg (v := .str "second") (Evl.ev_op (Evl.ev_var (v := .ref a) rfl) Evl.ev_c (Evl.rv_ixT sa rfl)) fun H1 e1 => ?_
          refine Evl.q_when (b := false) (Evl.et_is (Evl.et_test (Evl.ev_op (Evl.ev_var (v := .str "second") rfl) Evl.ev_c (Evl.rv_eq rfl))) (by decide)) (fun z => nomatch z) (fun _ H2 e2 => ?_)
          refine Evl.q_when (b := false) (Evl.et_is (Evl.et_test (Evl.ev_op (Evl.ev_var (v := .str "second") rfl) Evl.ev_c (Evl.rv_eq rfl))) (by decide)) (fun z => nomatch z) (fun _ H3 e3 => ?_)
          refine Evl.q_when (b := false) (Evl.et_is (Evl.et_test (Evl.ev_op (Evl.ev_var (v := .str "second") rfl) Evl.ev_c (Evl.rv_eq rfl))) (by decide)) (fun z => nomatch z) (fun _ H4 e4 => ?_)
          refine Evl.q_when (b := false) (Evl.et_is (Evl.et_test (Evl.ev_op (Evl.ev_var (v := .str "second") rfl) Evl.ev_c (Evl.rv_eq rfl))) (by decide)) (fun z => nomatch z) (fun _ H5 e5 => ?_)
          refine Evl.q_when (b := false) (Evl.et_is (Evl.et_test (Evl.ev_op (Evl.ev_var (v := .str "second") rfl) Evl.ev_c (Evl.rv_eq rfl))) (by decide)) (fun z => nomatch z) (fun _ H6 e6 => ?_)
          have eA := (((((e1.trans e2).trans e3).trans e4).trans e5).trans e6)
          have sA := Evl.ex_t eA sa
          have cA : SqT K H6 c (x.map V.int) := Evl.ex_t eA sc
          have kA := fun H' e => k H' (eA.trans e)
          have hd1 : depR r1' + 1 ≤ n := hdep
          obtain ⟨n, rfl⟩ : ∃ j, n = j + 1 := ⟨n - 1, by omega⟩
          have z := kids_told (K := K) (te := tVar 0) (n := n) (x := x) (rs := [r1']) (σ := [some (V.ref a), some (V.ref c), some (V.str "second"), none, none, none, none, none, none, none, none, none, none, none, none, none, none]) (H := H6) (Evl.ev_var (v := .ref a) rfl) sA (.cons (r1.up eA) .nil) (by simp) (by simp) (fun y hy => ?_) cA hz hbx (fun _ => rfl) (fun _ => rfl) (fun _ => rfl)
          · refine Evl.q_asgL z fun pt H9 hp9 e9 h9 => ?_
            refine Evl.q_when (b := false) (Evl.et_is (Evl.et_test (Evl.ev_op (Evl.ev_var (v := .str "second") rfl) Evl.ev_c (Evl.rv_eq rfl))) (by decide)) (fun z => nomatch z) (fun _ H10 e10 => ?_)
            refine Evl.s_ret (D := { nx := fun _ H' => Q .non H', rt := Q }) (v := .bl (sayR x (.second r1'))) (Evl.ev_if (b := false) (Evl.et_is (Evl.et_test (Evl.ev_op (Evl.ev_var (v := .str "second") rfl) Evl.ev_c (Evl.rv_eq rfl))) (by decide)) (fun z => nomatch z) fun _ => Evl.ev_is (ev_anyV (bs := [sayR x r1']) (Evl.ev_var (v := .ref pt) rfl) (SqL.of (e10 pt _ h9))) (congrArg V.bl ?_)) fun H11 e11 => kA H11 ((e9.trans e10).trans e11)
            show (sayR x r1' || false) = _
            simp [sayR]
          · rw [List.mem_singleton.mp hy]
            exact ⟨hok, by omega⟩
end
end U

set_option Elab.async false
set_option linter.all false
set_option maxRecDepth 100000
set_option maxHeartbeats 4000000
namespace U
open PySem PySem.Spec PyProof.Rows L2
open Evl (Ex)
/-! ### the text of a rule -/
theorem pile_le {ts : List Str} {c n : Nat} (h : ∀ t ∈ ts, t.length ≤ c) (hn : ts.length ≤ n) : piled ts ≤ n * (c + 2) := by
  induction ts generalizing n with
  | nil => exact Nat.zero_le _
  | cons t ts ih =>
    obtain ⟨k, rfl⟩ : ∃ k, n = k + 1 := ⟨n - 1, by rw [List.length_cons] at hn; omega⟩
    have h1 := h t (List.mem_cons_self ..)
    have h2 := ih (n := k) (fun x hx => h x (List.mem_cons_of_mem _ hx)) (by rw [List.length_cons] at hn; omega)
    rw [piled_cons, Nat.add_mul, Nat.one_mul]
    omega
theorem tup_le (ts : List Str) : (tupleText ts).length ≤ piled ts + 3 := by
  have e : (tupleText ts).length = 1 + (Str.join ", " ts).length + (if ts.length == 1 then 2 else 1) := by
    unfold tupleText
    rw [strLen_append, strLen_append]
    split <;> rfl
  rw [e]
  by_cases h : ts = []
  · subst h
    decide
  · have := join_length_add ts h
    split <;> omega
theorem shownAll_map {α : Type} (f : α → PyData) : ∀ xs : List α, PyData.shownAll (xs.map f) = xs.map fun x => (f x).shown
  | [] => rfl
  | x :: xs => congrArg (_ :: ·) (shownAll_map f xs)
theorem tup_map_le {α : Type} {f : α → PyData} {xs : List α} {c n : Nat} (h : ∀ x ∈ xs, (f x).shown.length ≤ c) (hn : xs.length ≤ n) : (PyData.shown (.tuple (xs.map f))).length ≤ n * (c + 2) + 3 := by
  show (tupleText (PyData.shownAll (xs.map f))).length ≤ _
  rw [shownAll_map]
  have := tup_le (xs.map fun x => (f x).shown)
  have := pile_le (ts := xs.map fun x => (f x).shown) (c := c) (n := n) (fun t ht => by
    obtain ⟨x, hx, rfl⟩ := List.mem_map.mp ht
    exact h x hx) (by rw [List.length_map]; exact hn)
  omega
theorem log_small {i : Int} (h : i.natAbs ≤ 5000) : i.natAbs.log2 < 1920 := by
  by_cases z : i.natAbs = 0
  · rw [z]
    decide
  · exact Nat.lt_trans ((Nat.log2_lt z).mpr (show i.natAbs < 2 ^ 13 by omega)) (by decide)
theorem int_le {i : Int} (h : i.natAbs ≤ 5000) : (PyData.shown (.int i)).length ≤ 1921 := int_text_len_1921 (log_small h)
theorem bO_abs {i : Int} {o : Option Int} (h : bO 5000 o) (e : o = some i) : i.natAbs ≤ 5000 := by
  have := h i e
  omega
theorem oD_le {o : Option Int} (h : bO 5000 o) : (oD o).shown.length ≤ 1921 := by
  cases o with
  | none => decide
  | some i => exact int_le (bO_abs h rfl)
theorem two_le {z : Str} {d : PyData} {c k : Nat} (hz : (reprText z).length ≤ 20) (h : d.shown.length ≤ c) (hk : c + 27 ≤ k) : (PyData.shown (.tuple [.str z, d])).length ≤ k := by
  have := tup_le [reprText z, d.shown]
  rw [piled_cons, piled_cons, piled_nil] at this
  have e : PyData.shown (.tuple [.str z, d]) = tupleText [reprText z, d.shown] := rfl
  rw [e]
  omega
theorem three_le {z : Str} {d f : PyData} {c b k : Nat} (hz : (reprText z).length ≤ 20) (h : d.shown.length ≤ c) (h2 : f.shown.length ≤ b) (hk : c + b + 29 ≤ k) : (PyData.shown (.tuple [.str z, d, f])).length ≤ k := by
  have := tup_le [reprText z, d.shown, f.shown]
  rw [piled_cons, piled_cons, piled_cons, piled_nil] at this
  have e : PyData.shown (.tuple [.str z, d, f]) = tupleText [reprText z, d.shown, f.shown] := rfl
  rw [e]
  omega
/-- how long a rule's text may be -/
def tl : Nat → Nat
  | 0 => 300000
  | n + 1 => 2 * tl n + 100
theorem tl_up : ∀ {n m : Nat}, n ≤ m → tl n ≤ tl m
  | n, 0, h => by
    obtain rfl : n = 0 := by omega
    exact Nat.le_refl _
  | n, m + 1, h => by
    rcases Nat.lt_or_ge m n with q | q
    · obtain rfl : n = m + 1 := by omega
      exact Nat.le_refl _
    · have := tl_up q
      show tl n ≤ 2 * tl m + 100
      omega
theorem leaf_le {z : Str} {α : Type} {f : α → PyData} {xs : List α} (hz : (reprText z).length ≤ 20) (h : ∀ x ∈ xs, (f x).shown.length ≤ 20000) (hn : xs.length ≤ 10) : (PyData.shown (.tuple [.str z, .tuple (xs.map f)])).length ≤ 300000 :=
  two_le hz (tup_map_le h hn) (by omega)
theorem ints_le {α : Type} {f : α → PyData} {xs : List α} (h : ∀ x ∈ xs, (f x).shown.length ≤ 1921) (hn : xs.length ≤ 10) : (PyData.shown (.tuple (xs.map f))).length ≤ 20000 :=
  Nat.le_trans (tup_map_le h hn) (by omega)
theorem rule_le (r : Rl) : bR r → (rlD true r).shown.length ≤ tl (depR r) := by
  induction r with
  | half ws b =>
    intro h
    have q : (PyData.shown (.tuple [.str "half", .tuple (ws.map .int), .int b])).length ≤ 300000 := three_le (by decide +kernel) (ints_le (fun x hx => int_le (h.1 x hx)) h.2.2) (int_le h.2.1) (by omega)
    exact q
  | box rs =>
    intro h
    have q : (PyData.shown (.tuple [.str "box", .tuple (rs.map (rgD true))])).length ≤ 300000 := leaf_le (by decide +kernel) (fun q hq => by
      have h2 := h.1 q hq
      have q2 : (PyData.shown (.tuple ([q.1, q.2].map oD))).length ≤ 20000 := ints_le (fun o ho => by
        rcases List.mem_cons.mp ho with e | e
        · rw [e]; exact oD_le h2.1
        · rw [List.mem_singleton.mp e]; exact oD_le h2.2) (by simp)
      exact q2) h.2
    exact q
  | rise cs =>
    intro h
    have q : (PyData.shown (.tuple [.str "rise", .tuple (cs.map fun c => .tuple (c.map oD))])).length ≤ 300000 := leaf_le (by decide +kernel) (fun c hc => ints_le (fun o ho => oD_le ((h.1 c hc).1 o ho)) (h.1 c hc).2) h.2
    exact q
  | flat ps =>
    intro h
    have q : (PyData.shown (.tuple [.str "flat", .tuple (ps.map fun c => .tuple (c.map .int))])).length ≤ 300000 := leaf_le (by decide +kernel) (fun c hc => ints_le (fun o ho => int_le ((h.1 c hc).1 o ho)) (h.1 c hc).2) h.2
    exact q
  | turns f cs =>
    intro h
    have q : (PyData.shown (.tuple [.str "turns", .bool f, .tuple (cs.map .int)])).length ≤ 300000 := three_le (c := 5) (by decide +kernel) (by cases f <;> decide) (ints_le (fun x hx => int_le (h.1 x hx)) h.2) (by omega)
    exact q
  | no r ih =>
    intro h
    have q : (PyData.shown (.tuple [.str "not", rlD true r])).length ≤ 2 * tl (depR r) + 100 := two_le (by decide +kernel) (ih h) (by omega)
    exact q
  | both r s ih ih2 =>
    intro h
    have h1 := tl_up (Nat.le_max_left (depR r) (depR s))
    have h2 := tl_up (Nat.le_max_right (depR r) (depR s))
    have q : (PyData.shown (.tuple [.str "both", rlD true r, rlD true s])).length ≤ 2 * tl (max (depR r) (depR s)) + 100 := three_le (by decide +kernel) (ih h.1) (ih2 h.2) (by omega)
    exact q
  | either r s ih ih2 =>
    intro h
    have h1 := tl_up (Nat.le_max_left (depR r) (depR s))
    have h2 := tl_up (Nat.le_max_right (depR r) (depR s))
    have q : (PyData.shown (.tuple [.str "either", rlD true r, rlD true s])).length ≤ 2 * tl (max (depR r) (depR s)) + 100 := three_le (by decide +kernel) (ih h.1) (ih2 h.2) (by omega)
    exact q
  | first r ih =>
    intro h
    have q : (PyData.shown (.tuple [.str "first", rlD true r])).length ≤ 2 * tl (depR r) + 100 := two_le (by decide +kernel) (ih h) (by omega)
    exact q
  | second r ih =>
    intro h
    have q : (PyData.shown (.tuple [.str "second", rlD true r])).length ≤ 2 * tl (depR r) + 100 := two_le (by decide +kernel) (ih h) (by omega)
    exact q
theorem showAll_map {α : Type} {f : α → PyData} : ∀ {xs : List α}, (∀ x ∈ xs, (f x).showable = true) → PyData.showableAll (xs.map f) = true
  | [], _ => rfl
  | x :: xs, h => by
    show (_ && _) = true
    rw [h x (List.mem_cons_self ..), showAll_map fun y hy => h y (List.mem_cons_of_mem _ hy)]
    rfl
theorem int_sh {i : Int} (h : i.natAbs ≤ 5000) : (PyData.int i).showable = true := decide_eq_true (log_small h)
theorem oD_sh {o : Option Int} (h : bO 5000 o) : (oD o).showable = true := by
  cases o with
  | none => rfl
  | some i => exact int_sh (bO_abs h rfl)
theorem sh2 {z : Str} {d : PyData} (h : d.showable = true) : (PyData.tuple [.str z, d]).showable = true := by
  show (true && (d.showable && true)) = true
  rw [h]
  rfl
theorem sh3 {z : Str} {d e : PyData} (h : d.showable = true) (h2 : e.showable = true) : (PyData.tuple [.str z, d, e]).showable = true := by
  show (true && (d.showable && (e.showable && true))) = true
  rw [h, h2]
  rfl
theorem rule_sh : ∀ (r : Rl), bR r → (rlD true r).showable = true
  | .half ws b, h => sh3 (showAll_map fun x hx => int_sh (h.1 x hx)) (int_sh h.2.1)
  | .box rs, h => sh2 (showAll_map fun q hq => showAll_map (f := oD) (xs := [q.1, q.2]) fun o ho => by
      have := h.1 q hq
      rcases List.mem_cons.mp ho with e | e
      · rw [e]; exact oD_sh this.1
      · rw [List.mem_singleton.mp e]; exact oD_sh this.2)
  | .rise cs, h => sh2 (showAll_map fun c hc => showAll_map fun o ho => oD_sh ((h.1 c hc).1 o ho))
  | .flat ps, h => sh2 (showAll_map fun c hc => showAll_map fun o ho => int_sh ((h.1 c hc).1 o ho))
  | .turns f cs, h => sh3 rfl (showAll_map fun x hx => int_sh (h.1 x hx))
  | .no r, h => sh2 (rule_sh r h)
  | .both r s, h => sh3 (rule_sh r h.1) (rule_sh s h.2)
  | .either r s, h => sh3 (rule_sh r h.1) (rule_sh s h.2)
  | .first r, h => sh2 (rule_sh r h)
  | .second r, h => sh2 (rule_sh r h)
theorem dep_map {α : Type} {f : α → PyData} {k : Nat} : ∀ {xs : List α}, (∀ x ∈ xs, (f x).depth ≤ k) → PyData.depthAll (xs.map f) ≤ k
  | [], _ => Nat.zero_le _
  | x :: xs, h => by
    have h1 := h x (List.mem_cons_self ..)
    have h2 := dep_map (xs := xs) fun y hy => h y (List.mem_cons_of_mem _ hy)
    show max _ _ ≤ k
    omega
theorem dep_tup {α : Type} {f : α → PyData} {k : Nat} {xs : List α} (h : ∀ x ∈ xs, (f x).depth ≤ k) : (PyData.tuple (xs.map f)).depth ≤ k + 1 := by
  have := dep_map h
  show PyData.depthAll (xs.map f) + 1 ≤ k + 1
  omega
theorem dep2 {z : Str} {d : PyData} {k : Nat} (h : d.depth ≤ k) : (PyData.tuple [.str z, d]).depth ≤ k + 1 := by
  show max 0 (max d.depth 0) + 1 ≤ k + 1
  omega
theorem dep3 {z : Str} {d e : PyData} {k : Nat} (h : d.depth ≤ k) (h2 : e.depth ≤ k) : (PyData.tuple [.str z, d, e]).depth ≤ k + 1 := by
  show max 0 (max d.depth (max e.depth 0)) + 1 ≤ k + 1
  omega
theorem oD_dep {o : Option Int} : (oD o).depth ≤ 0 := by cases o <;> exact Nat.le_refl _
theorem rule_dep : ∀ (r : Rl), (rlD true r).depth ≤ depR r + 3
  | .half ws b => Nat.le_trans (dep3 (k := 1) (dep_tup (k := 0) fun _ _ => Nat.le_refl _) (Nat.zero_le _)) (by show 2 ≤ 0 + 3; omega)
  | .box rs => dep2 (k := 2) (dep_tup (k := 1) fun q _ => dep_tup (f := oD) (xs := [q.1, q.2]) (k := 0) fun o _ => oD_dep)
  | .rise cs => dep2 (k := 2) (dep_tup (k := 1) fun q _ => dep_tup (k := 0) fun o _ => oD_dep)
  | .flat ps => dep2 (k := 2) (dep_tup (k := 1) fun q _ => dep_tup (k := 0) fun o _ => Nat.le_refl _)
  | .turns f cs => Nat.le_trans (dep3 (k := 1) (Nat.zero_le _) (dep_tup (k := 0) fun _ _ => Nat.le_refl _)) (by show 2 ≤ 0 + 3; omega)
  | .no r => dep2 (rule_dep r)
  | .both r s => dep3 (k := max (depR r) (depR s) + 3) (Nat.le_trans (rule_dep r) (by omega)) (Nat.le_trans (rule_dep s) (by omega))
  | .either r s => dep3 (k := max (depR r) (depR s) + 3) (Nat.le_trans (rule_dep r) (by omega)) (Nat.le_trans (rule_dep s) (by omega))
  | .first r => dep2 (rule_dep r)
  | .second r => dep2 (rule_dep r)
section
variable {K : PySem.W.Frag} {L : List Addr} {σ : L2.St} {H H2 : Hp} {ta tb te : TE} {tz : TA} {t : TT} {l a : Addr} {n j : Nat} {d : PyData} {ds : List PyData} {xs ys : List V} {z : V}
theorem ev_repr {r : Rl} (h : Evl.Ev te σ H (.ref a)) (hd : Dp K H (.ref a) (rlD true r)) (hb : bR r) (h2 : depR r ≤ 2) : Evl.Ev (tCB (UG.rRepr K) (tCons te tNil)) σ H (.str (rlD true r).shown) := fun H1 e1 Q q =>
  h H1 e1 _ fun H2 e2 => ⟨a, _, rfl, hd.up (e1.trans e2), rule_sh r hb, by have := rule_dep r; omega, by
    rw [sizeLine_eq]
    exact Nat.le_trans (rule_le r hb) (Nat.le_trans (tl_up h2) (show 2 * (2 * 300000 + 100) + 100 ≤ 16777216 by omega)), q H2 e2⟩
theorem draw_runJ {tm : TE} {many : Int} {Q : VK} (h0 : σ[j]? = some (some (.ref l))) (hd : Dr n H l) (hn : n < 1000000) (hm : Evl.Ev tm σ H (.int many)) (m0 : 0 < many) (m1 : many < 1073741824)
    (k : ∀ r H', 0 ≤ r → r < many → Dr (n + 1) H' l → ExB l H H' → Q (.int r) H') : tCallD spDraw (tCons (tVar j) (tCons tm tNil)) σ H Q :=
  ⟨_, h0, hm H (Ex.refl H) _ fun H1 e1 => ⟨l, many, n, rfl, hd.ex e1, hn, m0, m1, fun r o r0 r1 hd' => k r _ r0 r1 hd' ((ExB.of e1).trans ExB.upd)⟩⟩
theorem exB_new' {H0 : Hp} (hl : H l = none) (e : Ex H H0) (b : ExB l H0 H2) : Ex H H2 := fun a o h => b a o (ne_of_none h hl) (e a o h)
theorem evd_ifB {b : Bool} (h : Evl.EvT t σ H b) (h1 : b = true → EvD K L ta σ H d) (h2 : b = false → EvD K L tb σ H d) : EvD K L (tIf t ta tb) σ H d := fun H1 e Q q => h H1 e _ fun H2 e2 => by
  cases b with
  | true => exact (h1 rfl) H2 (e.trans e2) Q fun v H3 e3 hv => q v H3 (e2.trans e3) hv
  | false => exact (h2 rfl) H2 (e.trans e2) Q fun v H3 e3 hv => q v H3 (e2.trans e3) hv
theorem evd_tupL {y : List Int} (hL : Hid L H) (h : Evl.EvL te σ H (y.map V.int)) : EvD K L (tTupOf K te) σ H (tD y) := fun H1 e Q q => h H1 e _ fun p H2 hp e2 h2 =>
  ⟨p, _, rfl, .inl ⟨SqL.of h2, fun r hr => q _ _ (e2.trans (Ex.new hr)) (.tup (SqT.of (w_new (hid_ex (e.trans e2) hL) hr)) (dpi_of y))⟩⟩
theorem evd_ofL {y : List Int} (hL : Hid L H) (h : Evl.EvL te σ H (y.map V.int)) : EvD K L te σ H (.list (y.map .int)) := fun H1 e Q q => h H1 e _ fun p H2 hp e2 h2 =>
  q _ _ e2 (.lst (SqL.of (w_of (hid_not (hid_ex e hL) hp) h2)) (dpi_of y))
theorem ev_callLL {sp : Sp} (h1 : Evl.EvL ta σ H xs) (h2 : Evl.EvL tb σ H ys) (k : ∀ p1 p2 H2, Ex H H2 → H2 p1 = some (.lst xs) → H2 p2 = some (.lst ys) → ∀ Q : VK, (∀ H3, Ex H2 H3 → Q z H3) → sp [.ref p1, .ref p2] H2 Q E0) : Evl.Ev (tCallD sp (tCons ta (tCons tb tNil))) σ H z := fun H1 e Q q =>
  h1 H1 e _ fun p1 H2 hp1 e2 hx => h2 H2 (e.trans e2) _ fun p2 H3 hp2 e3 hy => k p1 p2 H3 ((e.trans e2).trans e3) (e3 _ _ hx) hy Q fun H4 e4 => q H4 ((e2.trans e3).trans e4)
theorem ev_callDD {sp : Sp} (h : EvDs K [] tz σ H ds) (k : ∀ vs H2, Ex H H2 → DpAll K H2 vs ds → ∀ Q : VK, (∀ H3, Ex H2 H3 → Q z H3) → sp vs H2 Q E0) : Evl.Ev (tCallD sp tz) σ H z := fun H1 e Q q =>
  h H1 e _ fun vs H2 e2 hv => k vs H2 (e.trans e2) (by rw [w_nil] at hv; exact hv) Q fun H3 e3 => q H3 (e2.trans e3)
theorem evd_listed {r : Rl} {v : V} {dd : Nat} (h : Evl.Ev te σ H v) (hv : Dp K H v (rlD true r)) (ho : okR dd r) (hdd : dd ≤ 1000) (h2 : depR r ≤ 2) : EvD K [] (tCallD (spListed K 5) (tCons te tNil)) σ H (rlD false r) := fun H1 e Q q => h H1 e _ fun H2 e2 => by
  obtain ⟨ds, eds⟩ : ∃ ds, rlD true r = .tuple ds := by cases r <;> exact ⟨_, rfl⟩
  have e1 := lis_rl r 6 (by omega)
  have e3 := okL_rl hdd r 6 (by omega) ho
  rw [eds] at e1 e3 hv
  refine ⟨v, ds, [], rfl, fun _ h => (nomatch h), by rw [w_nil]; exact hv.up (e.trans e2), e3, fun t H3 ht e4 g => ?_⟩
  exact q _ H3 (e2.trans e4) (e1 ▸ g.dp)
/-- some drawn points -/
theorem pts_run {kk m : Nat} {tw : TE} {p wd : Int} {Q : VK} (h2 : ∀ x, ((wipe σ [13]).set 13 (some x))[2]? = some (some (.ref l))) (h3 : ∀ x, ((wipe σ [13]).set 13 (some x))[3]? = some (some (.int p))) (hw : ∀ x, wipe ((wipe σ [13]).set 13 (some x)) [13] = wipe σ [13])
    (htw : ∀ x H1, Evl.Ev tw ((wipe σ [13]).set 13 (some x)) H1 (.int wd)) (hd : Dr m H l) (hm : m < 800000) (hk : kk ≤ 10) (hl : l ∈ L) (hL : Hid L H) (p1 : 1 ≤ p) (p3 : p ≤ 3) (w0 : 0 ≤ wd) (w1 : wd ≤ 1000)
    (k : ∀ D1 (ys : List (List Int)) H', H D1 = none → ExB l H H' → Dr (m + 3 * kk) H' l → Gr K L H' D1 (ys.map tD) → ys.length = kk → (∀ y ∈ ys, y.length = p.toNat ∧ ∀ e ∈ y, e.natAbs ≤ 1000) → Q (.ref D1) H') :
    tLc (iRng1 (tCons (tC (.int (kk : Int))) tNil)) (gName 13) tYes (tCallD (spPoint K) (tCons (tVar 2) (tCons (tVar 3) (tCons tw tNil)))) [13] σ H Q := by
  refine ⟨(kk : Int), rfl, by omega, by omega, fun Dl hD => ?_⟩
  refine lc_range (lo := 0) (n := (kk : Int).toNat) (Cdr K L H l Dl m 3 tD (fun y => y.length = p.toNat ∧ ∀ e ∈ y, e.natAbs ≤ 1000)) (cdr_0 hL hD hd) (fun i H2 hi pv => ?_) (fun H2 pv => ?_)
  · refine ⟨hw _, yes_lc (B := fun H3 => Cdr K L H l Dl m 3 tD (fun y => y.length = p.toNat ∧ ∀ e ∈ y, e.natAbs ≤ 1000) (i + 1) H3) (cdr_turn pv hD hl hd.ne (by omega) (fun hh Q2 q2 => ?_) hL)⟩
    obtain ⟨_, d2, _⟩ := pv
    refine ⟨_, h2 _, _, h3 _, htw _ H2 H2 (Ex.refl _) _ fun H3 e3 => ?_⟩
    refine ⟨l, p, wd, m + 3 * i, Dl :: L, rfl, d2.ex e3, by omega, List.mem_cons_of_mem _ hl, hid_ex e3 hh, p1, p3, w0, w1, fun v ns H4 e4 d4 hn hb hv => q2 v ns H4 ((ExB.of e3).trans e4) (d4.up (by omega)) ⟨by omega, fun e he => by have := hb e he; omega⟩ hv⟩
  · obtain ⟨e2, d2, ys, hy, hb, g⟩ := pv
    exact k Dl ys H2 hD e2 (d2.up (by omega)) g (by omega) hb
end
end U

set_option Elab.async false
set_option linter.all false
set_option maxRecDepth 100000
set_option maxHeartbeats 4000000
namespace U
open PySem PySem.Spec PyProof.Rows L2
open Evl (Ex)
abbrev s_law : Stmt := top 32
abbrev sc_law_N : List Str := ["_law_script", "_law_turn", "_law_draws", "_law_places", "_law_wide", "_law_rule_here", "_law_points", "_law_one", "_law_two", "_law_end", "_law_kept", "_law_point_here", "_law_due", "_law_k", "_law_a", "_law_b", "_law_entry"]
theorem sc_law : FnScope sc_law_N ["_law_script"] (defScope s_law) := ⟨rfl, rfl, rfl, by decide +kernel, rfl, by decide +kernel, by decide +kernel⟩
structure TxW (mg : Str → Option Value) : Prop extends TxL mg where
  m_repr : mg "repr" = none
/-- the same, of a tuple -/
def spPickT (K : PySem.W.Frag) : Sp := fun vs H Q _ => ∃ (l t : Addr) (ds : List PyData) (n : Nat) (L : List Addr), vs = [.ref l, .ref t] ∧ Dr n H l ∧ n < 1000000 ∧ l ∈ L ∧ Dp K (W L H) (.ref t) (.tuple ds) ∧ 0 < ds.length ∧ ds.length < 1073741824 ∧
  ∀ v d o, d ∈ ds → Dp K (W L (upd H l o)) v d → Dr (n + 1) (upd H l o) l → Q v (upd H l o)
section
variable {K : PySem.W.Frag} {L : List Addr} {σ : L2.St} {H H2 : Hp} {ta tb te : TE} {l a pts : Addr} {n : Nat} {v : V} {r : Rl} {ys : List (List Int)} {d : Nat} {D : Ends} {N : Nat}
def wordR : Rl → Str
  | .half _ _ => "half"
  | .box _ => "box"
  | .rise _ => "rise"
  | .flat _ => "flat"
  | .turns _ _ => "turns"
  | .no _ => "not"
  | .both _ _ => "both"
  | .either _ _ => "either"
  | .first _ => "first"
  | .second _ => "second"
theorem rl_open (h : Dp K H v (rlD true r)) : ∃ a us ds, v = .ref a ∧ SqT K H a (.str (wordR r) :: us) ∧ DpAll K H us ds ∧ rlD true r = .tuple (.str (wordR r) :: ds) := by
  cases r <;> (obtain ⟨a, ys, rfl, sa, ya⟩ := sq_inv (t := true) h; cases ya with
    | @cons u0 us _ _ r0 q0 =>
      cases r0
      exact ⟨a, us, _, rfl, sa, q0, rfl⟩)
/-- the points so far -/
structure Pt (K : PySem.W.Frag) (l pts : Addr) (d : Nat) (H0 H : Hp) (n : Nat) (v : V) (r : Rl) (N : Nat) : Prop where
  e0 : Ex H0 H
  hd : Dr n H l
  hv : Dp K (W [pts, l] H) v (rlD true r)
  g : ∃ ys : List (List Int), Gr K [l] H pts (ys.map tD) ∧ (∀ y ∈ ys, y.length = d ∧ Bits 59 y) ∧ ys.length ≤ N
  hn : H0 pts = none
  hl : H0 l = none
theorem Pt.ex {H0 H1 : Hp} (p : Pt K l pts d H0 H n v r N) (e : Ex H H1) : Pt K l pts d H0 H1 n v r N := by
  obtain ⟨ys, g, q⟩ := p.g
  exact ⟨p.e0.trans e, p.hd.ex e, p.hv.up (w_ex e), ⟨ys, g.up e, q⟩, p.hn, p.hl⟩
theorem abs_7 {a b : Int} (h1 : a.natAbs ≤ 5000) (h2 : b.natAbs ≤ 5000) : (a + 3 * (b - a)).natAbs < 2 ^ 59 := Nat.lt_of_lt_of_le (show (a + 3 * (b - a)).natAbs < 2 ^ 16 by omega) (Nat.pow_le_pow_right (by decide) (by decide))
theorem abs_5 {a : Int} (h1 : a.natAbs ≤ 5000) : a.natAbs < 2 ^ 59 := Nat.lt_of_lt_of_le (show a.natAbs < 2 ^ 16 by omega) (Nat.pow_le_pow_right (by decide) (by decide))
/-- one more point -/
theorem add_run {H0 : Hp} {m : Nat} {te : TE} {y : List Int} (h6 : σ[6]? = some (some (.ref pts))) (e0 : Ex H0 H) (hd : Dr m H l) (hv : Dp K (W [pts, l] H) v (rlD true r)) (hg : Gr K [l] H pts (ys.map tD)) (hy : ∀ y ∈ ys, y.length = d ∧ Bits 59 y) (hz : ys.length ≤ N) (hN : N ≤ 1000) (hn : H0 pts = none) (hl : H0 l = none) (hyd : y.length = d ∧ Bits 59 y)
    (h : EvD K [pts, l] te σ H (tD y)) (k : ∀ H', Pt K l pts d H0 H' m v r (N + 1) → D.nx σ H') : tDrop (tBM K "list" rAppend (tVar 6) (tCons te tNil)) D σ H := by
  refine d_app (K := K) (L := [l]) (d := tD y) hg (Evl.ev_var h6) h (by rw [List.length_map]; omega) fun o H1 e1 g1 => k _ ?_
  have np : pts ≠ l := fun e => hg.1 (by rw [e]; exact List.mem_singleton.mpr rfl)
  refine ⟨Evl.Ex.mut (e0.trans e1) hn, ?_, ?_, ⟨ys ++ [y], ?_, fun z hz => ?_, by rw [List.length_append]; show ys.length + 1 ≤ N + 1; omega⟩, hn, hl⟩
  · obtain ⟨x, y, z, q1, q2⟩ := hd.ex e1
    exact ⟨x, y, z, by rw [upd_ne (Ne.symm np)]; exact q1, q2⟩
  · rw [w_upd_in (List.mem_cons_self ..)]
    exact hv.up (w_ex e1)
  · rw [List.map_append]
    exact g1
  · rcases List.mem_append.mp hz with q | q
    · exact hy z q
    · rw [List.mem_singleton.mp q]
      exact hyd
theorem pt_hid {H0 : Hp} (p : Pt K l pts d H0 H n v r N) : Hid [pts, l] H := fun a m => by
  obtain ⟨ys, g, q⟩ := p.g
  rcases List.mem_cons.mp m with e | e
  · rw [e]
    exact g.ne
  · rw [List.mem_singleton.mp e]
    exact p.hd.ne
theorem Pt.exB {H0 H1 : Hp} {m : Nat} (p : Pt K l pts d H0 H n v r N) (b : ExB l H H1) (hd : Dr m H1 l) : Pt K l pts d H0 H1 m v r N := by
  obtain ⟨ys, g, q⟩ := p.g
  exact ⟨exB_new' p.hl p.e0 b, hd, p.hv.up (b.w (List.mem_cons_of_mem _ (List.mem_singleton.mpr rfl))), ⟨ys, gr_exB g b (List.mem_singleton.mpr rfl), q⟩, p.hn, p.hl⟩
theorem len_gt {e : Addr} {zs : List V} (h : Evl.Ev te σ H (.ref e)) (hs : SqT K H e zs) : Evl.Ev (tOp (rI0 fun i j => V.bl (decide (j < i))) (tCB (fun xs H Q => ∃ p ys, xs = [V.ref p] ∧ (SqL K H p ys ∨ SqT K H p ys) ∧ Q (.int ys.length) H) (tCons te tNil)) (tC (.int 0))) σ H (.bl (decide (zs ≠ []))) :=
  Evl.ev_is (Evl.ev_op (ev_lenS (K := K) h (.inr hs)) Evl.ev_c (Evl.rv_I0 (g := fun i j => .bl (decide (j < i))))) (by
    congr 1
    cases zs with
    | nil => rfl
    | cons z zs =>
      rw [decide_eq_true (by simp : (z :: zs) ≠ [])]
      exact decide_eq_true (by rw [List.length_cons]; omega))
/-- a drawn one of a tuple of the rule's -/
theorem pick_run {H0 : Hp} {te : TE} {e : Addr} {ds : List PyData} {zs : List V} {Q : VK} (p : Pt K l pts d H0 H n v r N) (h2 : σ[2]? = some (some (.ref l))) (hn : n < 1000000) (h : Evl.Ev te σ H (.ref e)) (hs : SqT K (W [pts, l] H) e zs) (hz : DpAll K (W [pts, l] H) zs ds) (h0 : ds ≠ []) (h1 : ds.length ≤ 1000)
    (k : ∀ x y H1, y ∈ ds → ExB l H H1 → Pt K l pts d H0 H1 (n + 1) v r N → Dp K (W [pts, l] H1) x y → Q x H1) : tCallD (spPickT K) (tCons (tVar 2) (tCons te tNil)) σ H Q :=
  ⟨_, h2, h H (Ex.refl H) _ fun H1 e1 => ⟨l, e, ds, n, [pts, l], rfl, p.hd.ex e1, hn, List.mem_cons_of_mem _ (List.mem_singleton.mpr rfl), .tup (Evl.ex_t (w_ex e1) hs) (hz.up (w_ex e1)), List.length_pos_iff.mpr h0, by omega, fun x y o hy hx hd =>
    k x y _ hy ((ExB.of e1).trans ExB.upd) (p.exB ((ExB.of e1).trans ExB.upd) hd) hx⟩⟩
/-- the test of the word -/
theorem word_is {z : Str} (h : Evl.Ev te σ H (.ref a)) {us : List V} (hs : SqT K H a (.str (wordR r) :: us)) : Evl.EvT (tTest (tOp rEq (tOp (rIxT K) te (tC (.int 0))) (tC (.str z)))) σ H (decide (V.str (wordR r) = V.str z)) :=
  Evl.et_test (Evl.ev_op (Evl.ev_op h Evl.ev_c (Evl.rv_ixT hs (atI_nat (j := 0) rfl))) Evl.ev_c (Evl.rv_eq rfl))
theorem word_in (h : Evl.Ev te σ H (.ref a)) {us : List V} (hs : SqT K H a (.str (wordR r) :: us)) : Evl.EvT (tTest (tOp (rIn K false) (tOp (rIxT K) te (tC (.int 0))) (tTup (tCons (tC (.str "rise")) (tCons (tC (.str "turns")) tNil))))) σ H (inV (.str (wordR r)) [.str "rise", .str "turns"]) :=
  Evl.et_test (Evl.ev_inU (Evl.ev_op h Evl.ev_c (Evl.rv_ixT hs (atI_nat (j := 0) rfl))) (Evl.eu_tup (Evl.ea_cons Evl.ev_c (Evl.ea_cons Evl.ev_c Evl.ea_nil)) (by show 2 ≤ 100000; omega)) rfl rfl)
end
section
variable {K : PySem.W.Frag} {H H0 : Hp} {l a pts : Addr} {n d : Nat} {v i0 p0 w0 : V} {r : Rl} {D : Ends} {tz : TS} {N : Nat} {o7 o8 o9 o10 o11 o12 o13 o14 o15 o16 : Option V}
theorem word_flat : ∀ r, wordR r = "flat" → ∃ ps, r = .flat ps
  | .half _ _, h => absurd (show ("half" : Str) = "flat" from h) (by decide)
  | .box _, h => absurd (show ("box" : Str) = "flat" from h) (by decide)
  | .rise _, h => absurd (show ("rise" : Str) = "flat" from h) (by decide)
  | .flat ps, _ => ⟨ps, rfl⟩
  | .turns _ _, h => absurd (show ("turns" : Str) = "flat" from h) (by decide)
  | .no _, h => absurd (show ("not" : Str) = "flat" from h) (by decide)
  | .both _ _, h => absurd (show ("both" : Str) = "flat" from h) (by decide)
  | .either _ _, h => absurd (show ("either" : Str) = "flat" from h) (by decide)
  | .first _, h => absurd (show ("first" : Str) = "flat" from h) (by decide)
  | .second _, h => absurd (show ("second" : Str) = "flat" from h) (by decide)
theorem word_rt : ∀ r, inV (.str (wordR r)) [.str "rise", .str "turns"] = true → (∃ cs, r = .rise cs) ∨ ∃ f cs, r = .turns f cs
  | .half _ _, h => absurd (show inV (.str "half") [.str "rise", .str "turns"] = true from h) (by decide)
  | .box _, h => absurd (show inV (.str "box") [.str "rise", .str "turns"] = true from h) (by decide)
  | .rise cs, _ => .inl ⟨cs, rfl⟩
  | .flat _, h => absurd (show inV (.str "flat") [.str "rise", .str "turns"] = true from h) (by decide)
  | .turns f cs, _ => .inr ⟨f, cs, rfl⟩
  | .no _, h => absurd (show inV (.str "not") [.str "rise", .str "turns"] = true from h) (by decide)
  | .both _ _, h => absurd (show inV (.str "both") [.str "rise", .str "turns"] = true from h) (by decide)
  | .either _ _, h => absurd (show inV (.str "either") [.str "rise", .str "turns"] = true from h) (by decide)
  | .first _, h => absurd (show inV (.str "first") [.str "rise", .str "turns"] = true from h) (by decide)
  | .second _, h => absurd (show inV (.str "second") [.str "rise", .str "turns"] = true from h) (by decide)
theorem Pt.up {m : Nat} (p : Pt K l pts d H0 H n v r N) (h : n ≤ m) : Pt K l pts d H0 H m v r N := ⟨p.e0, p.hd.up h, p.hv, p.g, p.hn, p.hl⟩
theorem Pt.more {M : Nat} (p : Pt K l pts d H0 H n v r N) (h : N ≤ M) : Pt K l pts d H0 H n v r M := by
  obtain ⟨ys, g, q1, q2⟩ := p.g
  exact ⟨p.e0, p.hd, p.hv, ⟨ys, g, q1, Nat.le_trans q2 h⟩, p.hn, p.hl⟩
theorem tD_inv {H1 : Hp} {x : V} {y : List Int} (h : Dp K H1 x (tD y)) : ∃ q, x = .ref q ∧ SqT K H1 q (y.map V.int) := by
  cases h with
  | @tup q xs _ hs ha =>
    have ex := dpi_inv ha
    subst ex
    exact ⟨q, rfl, hs⟩
theorem flat_stage (p : Pt K l pts d H0 H n v r N) (hn : n < 900000) (hr : okR d r) (hb : bR r) (hN : N ≤ 1000) (hdd : d ≤ 100)
    (k : ∀ H' s7 s8, Pt K l pts d H0 H' (n + 2) v r (N + 1) → tz D [some (.ref a), some i0, some (.ref l), some p0, some w0, some v, some (.ref pts), s7, s8, o9, o10, o11, o12, o13, o14, o15, o16] H') :
    tSeq (tIfS (tAnd (tTest (tOp rEq (tOp (rIxT K) (tVar 5) (tC (V.int 0))) (tC (V.str "flat")))) (tTest (tOp (rI0 fun i j => V.bl (decide (j < i))) (tCB (fun xs H Q => ∃ p ys, xs = [V.ref p] ∧ (SqL K H p ys ∨ SqT K H p ys) ∧ Q (.int ys.length) H) (tCons (tOp (rIxT K) (tVar 5) (tC (V.int 1))) tNil)) (tC (V.int 0)))))
      (tSeq (tPar 7 8 (tCons (tCallD (spPickT K) (tCons (tVar 2) (tCons (tOp (rIxT K) (tVar 5) (tC (V.int 1))) tNil))) (tCons (tCallD (spPickT K) (tCons (tVar 2) (tCons (tOp (rIxT K) (tVar 5) (tC (V.int 1))) tNil))) tNil)))
        (tDrop (tBM K "list" rAppend (tVar 6) (tCons (tTupOf K (tLc (RZ.iZipA K (tCons (tVar 7) (tCons (tVar 8) tNil))) (gTup K 2 (gCons (gName 14) (gCons (gName 15) gNil))) tYes
          (tOp (rI0 fun i j => V.int (i + j)) (tVar 14) (tOp (rI CMul fun i j => V.int (i * j)) (tC (V.int 3)) (tOp (rI0 fun i j => V.int (i - j)) (tVar 15) (tVar 14)))) [14, 15])) tNil)))) tNext) tz D [some (.ref a), some i0, some (.ref l), some p0, some w0, some v, some (.ref pts), o7, o8, o9, o10, o11, o12, o13, o14, o15, o16] H := by
  have skip : ∀ H1, Ex H H1 → tz D [some (.ref a), some i0, some (.ref l), some p0, some w0, some v, some (.ref pts), o7, o8, o9, o10, o11, o12, o13, o14, o15, o16] H1 := fun H1 e1 => k H1 o7 o8 (((p.ex e1).up (by omega)).more (Nat.le_succ N))
  obtain ⟨ar, us, ds, ev, hs, hu, hdd2⟩ := rl_open p.hv
  subst ev
  have hsF := Evl.ex_t (w_sub (L := [pts, l])) hs
  by_cases hw : wordR r = "flat"
  · obtain ⟨ps, rfl⟩ := word_flat r hw
    have eds : ds = [.tuple (ps.map tD)] := by
      injection hdd2 with q
      injection q with _ q
      exact q.symm
    subst eds
    cases hu with
    | cons r1 q1 =>
      cases q1
      cases r1 with
      | @tup e zs _ se ze =>
        have ze' : DpAll K (W [pts, l] H) zs (ps.map tD) := ze
        have lz := dpa_len ze'
        rw [List.length_map] at lz
        have hok1 : ∀ y ∈ ps, y.length = d := hr.1
        have hok2 : ps.length ≤ 3 := hr.2.1
        have v1 : ∀ (σ : L2.St) H1, σ[5]? = some (some (.ref ar)) → Ex (W [pts, l] H) (W [pts, l] H1) → Evl.Ev (tOp (rIxT K) (tVar 5) (tC (.int 1))) σ H1 (.ref e) := fun σ H1 h5 e1 => Evl.ev_op (Evl.ev_var h5) Evl.ev_c (Evl.rv_ixT (Evl.ex_t w_sub (Evl.ex_t e1 hs)) rfl)
        refine Evl.q_when (b := decide (zs ≠ [])) (Evl.et_is (Evl.et_and (a := true) (Evl.et_is (word_is (r := .flat ps) (Evl.ev_var (v := .ref ar) rfl) hsF) (decide_eq_true rfl)) fun _ => Evl.et_test (len_gt (v1 _ H rfl (Ex.refl _)) (Evl.ex_t w_sub se))) (Bool.true_and _)) (fun z H1 e1 => ?_) (fun z H1 e1 => skip H1 e1)
        have hz0 : zs ≠ [] := of_decide_eq_true z
        have hp0 : ps.map tD ≠ [] := fun q => hz0 (List.length_eq_zero_iff.mp (by rw [lz]; exact List.length_eq_zero_iff.mpr (List.map_eq_nil_iff.mp q)))
        have p1 := p.ex e1
        have E1 := w_ex (L := [pts, l]) e1
        refine pick_run p1 rfl (by omega) (v1 _ H1 rfl E1) (Evl.ex_t E1 se) (ze'.up E1) hp0 (by rw [List.length_map]; omega) fun x1 d1 H2 m1 b1 p2 hx1 => ?_
        have E2 := E1.trans (b1.w (List.mem_cons_of_mem pts (List.mem_singleton.mpr rfl)))
        refine pick_run p2 rfl (by omega) (v1 _ H2 rfl E2) (Evl.ex_t E2 se) (ze'.up E2) hp0 (by rw [List.length_map]; omega) fun x2 d2 H3 m2 b2 p3 hx2 => ?_
        have hx1' := hx1.up (b2.w (List.mem_cons_of_mem pts (List.mem_singleton.mpr rfl)))
        obtain ⟨z1, hz1, rfl⟩ := List.mem_map.mp m1
        obtain ⟨z2, hz2, rfl⟩ := List.mem_map.mp m2
        obtain ⟨q1, rfl, s1⟩ := tD_inv hx1'
        obtain ⟨q2, rfl, s2⟩ := tD_inv hx2
        have l1 := hok1 z1 hz1
        have l2 := hok1 z2 hz2
        refine ⟨_, _, rfl, ?_⟩
        obtain ⟨ys, g3, hy1, hy2⟩ := p3.g
        have comp := el_zip (K := K) (te := tOp (rI0 fun i j => V.int (i + j)) (tVar 14) (tOp (rI CMul fun i j => V.int (i * j)) (tC (V.int 3)) (tOp (rI0 fun i j => V.int (i - j)) (tVar 15) (tVar 14)))) (ta := tCons (tVar 7) (tCons (tVar 8) tNil)) (i1 := 14) (i2 := 15) (vs := [14, 15]) (σ := [some (.ref a), some i0, some (.ref l), some p0, some w0, some (V.ref ar), some (.ref pts), some (V.ref q1), some (V.ref q2), o9, o10, o11, o12, o13, o14, o15, o16]) (H := H3) (v := fun i => .int (z1.getD i 0 + 3 * (z2.getD i 0 - z1.getD i 0))) (a := q1) (b := q2)
          (Evl.ea_cons (Evl.ev_var (v := .ref q1) rfl) (Evl.ea_cons (Evl.ev_var (v := .ref q2) rfl) Evl.ea_nil)) (.inr ⟨Evl.ex_t w_sub s1, Evl.ex_t w_sub s2⟩) (by rw [List.length_map, List.length_map]; omega) (by rw [List.length_map]; omega) (fun _ _ => rfl) (fun i u q H9 e9 hu hq => ?_)
        · have ee : (List.range (z1.map V.int).length).map (fun i => V.int (z1.getD i 0 + 3 * (z2.getD i 0 - z1.getD i 0))) = (List.zipWith (fun a b => a + 3 * (b - a)) z1 z2).map V.int := by
            rw [List.length_map, List.map_zipWith]
            refine rng_zw (by omega) _ fun i h1 h2 => ?_
            rw [List.getD_eq_getElem?_getD, List.getD_eq_getElem?_getD, List.getElem?_eq_getElem h1, List.getElem?_eq_getElem h2]
            rfl
          rw [ee] at comp
          refine add_run (D := { D with nx := tz D }) (r := .flat ps) (v := .ref ar) (d := d) (ys := ys) (y := List.zipWith (fun a b => a + 3 * (b - a)) z1 z2) rfl p3.e0 p3.hd p3.hv g3 hy1 hy2 hN p3.hn p3.hl ⟨by rw [List.length_zipWith]; omega, fun x hx => ?_⟩ (evd_tupL (pt_hid p3) comp) fun H4 p4 => ?_
          · obtain ⟨i, hi, ei⟩ := List.getElem_of_mem hx
            rw [List.getElem_zipWith] at ei
            rw [List.length_zipWith] at hi
            rw [← ei]
            exact abs_7 ((hb.1 z1 hz1).1 _ (List.getElem_mem (by omega))) ((hb.1 z2 hz2).1 _ (List.getElem_mem (by omega)))
          · exact k H4 _ _ p4
        · have hi : i < z1.length := by
            have := (List.getElem?_eq_some_iff.mp hu).1
            rwa [List.length_map] at this
          have hi2 : i < z2.length := by omega
          rw [List.getElem?_map, List.getElem?_eq_getElem hi] at hu
          rw [List.getElem?_map, List.getElem?_eq_getElem hi2] at hq
          have eu : u = .int z1[i] := (Option.some.inj hu).symm
          have eq : q = .int z2[i] := (Option.some.inj hq).symm
          subst eu eq
          rw [List.getD_eq_getElem?_getD, List.getD_eq_getElem?_getD, List.getElem?_eq_getElem hi, List.getElem?_eq_getElem hi2]
          exact Evl.ev_op (Evl.ev_var (v := .int z1[i]) rfl) (Evl.ev_op Evl.ev_c (Evl.ev_op (Evl.ev_var (v := .int z2[i]) rfl) (Evl.ev_var (v := .int z1[i]) rfl) (Evl.rv_I0 (g := fun a b => .int (a - b)))) (Evl.rv_I (C := CMul) (g := fun a b => .int (a * b)) (.inl ⟨by decide, by decide⟩))) (Evl.rv_I0 (g := fun a b => .int (a + b)))
  · refine Evl.q_when (b := false) (Evl.et_is (Evl.et_and (a := false) (b := true) (Evl.et_is (word_is (Evl.ev_var (v := .ref ar) rfl) hsF) (decide_eq_false fun q => hw (by injection q))) fun z => nomatch z) rfl) (fun z => nomatch z) (fun _ H1 e1 => skip H1 e1)
end
section
variable {K : PySem.W.Frag} {H H0 : Hp} {l a pts : Addr} {n d : Nat} {v i0 p0 w0 : V} {r : Rl} {D : Ends} {tz : TS} {N : Nat} {o7 o8 o9 o10 o11 o12 o13 o14 o15 o16 : Option V}
theorem evd_one {L : List Addr} {σ : L2.St} {te : TE} {e : Int} (hL : Hid L H) (h : Evl.Ev te σ H (.int e)) : EvD K L (tTup (tCons te tNil)) σ H (tD [e]) := evd_tup hL (evds_cons (evd_evI h) evds_nil) (by show 1 ≤ 100000; omega)
theorem el_zero {L : List Addr} {σ : L2.St} {q : Addr} {c : List (Option Int)} (h : σ[9]? = some (some (.ref q))) (hs : SqT K H q (c.map oV)) (hz : c.length ≤ 1000) (hw : ∀ x, wipe ((wipe σ [16]).set 16 (some x)) [16] = wipe σ [16]) (h16 : ∀ x, ((wipe σ [16]).set 16 (some x))[16]? = some (some x)) :
    Evl.EvL (tLc (iTup K (tVar 9)) (gName 16) tYes (tIf (tB (tIsN (tVar 16))) (tC (V.int 0)) (tVar 16)) [16]) σ H ((c.map fun o => o.getD 0).map V.int) := by
  have z := el_lcS (K := K) (t := tYes) (te := tIf (tB (tIsN (tVar 16))) (tC (V.int 0)) (tVar 16)) (tl := tVar 9) (j := 16) (vs := [16]) (σ := σ) (H := H) (xs := c.map oV) (fun _ => true) (fun i => .int ((c.getD i none).getD 0)) (evs_of (Evl.ev_var h) hs) (by rw [List.length_map]; omega) hw (fun i y H1 e1 hy => fun H2 e2 Q q => q H2 (Ex.refl _)) (fun i y H1 e1 hy _ => ?_)
  · have em : Evl.given (c.map oV).length (fun _ => true) (fun i => V.int ((c.getD i none).getD 0)) = (c.map fun o => o.getD 0).map V.int := by
      rw [List.map_map]
      exact given_all (by rw [List.length_map]) fun i hi => by
        rw [List.getD_eq_getElem?_getD, List.getElem?_eq_getElem hi]
        rfl
    rw [em] at z
    exact z
  · have hi : i < c.length := by
      have := (List.getElem?_eq_some_iff.mp hy).1
      rwa [List.length_map] at this
    rw [List.getElem?_map, List.getElem?_eq_getElem hi] at hy
    have ey : y = oV c[i] := (Option.some.inj hy).symm
    subst ey
    rw [List.getD_eq_getElem?_getD, List.getElem?_eq_getElem hi]
    show Evl.Ev _ _ _ (.int ((c[i]).getD 0))
    cases c[i] with
    | none => exact Evl.ev_if (b := true) (Evl.et_is (Evl.et_B (ev_isN (Evl.ev_var (v := .non) (h16 _)))) (by decide)) (fun _ => Evl.ev_c) (fun z => nomatch z)
    | some j => exact Evl.ev_if (b := false) (Evl.et_is (Evl.et_B (ev_isN (Evl.ev_var (v := .int j) (h16 _)))) (decide_eq_false (fun q => nomatch q))) (fun z => nomatch z) (fun _ => Evl.ev_var (v := .int j) (h16 _))
theorem dpo_inv {H1 : Hp} : ∀ {vs : List V} {c : List (Option Int)}, DpAll K H1 vs (c.map oD) → vs = c.map oV
  | _, [], .nil => rfl
  | _, o :: c, .cons r rr => by
    rw [oD_inv r, dpo_inv rr]
    rfl
theorem rt_stage (p : Pt K l pts d H0 H n v r N) (hn : n < 900000) (hr : okR d r) (hb : bR r) (hN : N ≤ 1000) (hdd : d ≤ 100)
    (k : ∀ H' s9, Pt K l pts d H0 H' (n + 1) v r (N + 1) → tz D [some (.ref a), some i0, some (.ref l), some p0, some w0, some v, some (.ref pts), o7, o8, s9, o10, o11, o12, o13, o14, o15, o16] H') :
    tSeq (tIfS (tAnd (tTest (tOp (rIn K false) (tOp (rIxT K) (tVar 5) (tC (V.int 0))) (tTup (tCons (tC (V.str "rise")) (tCons (tC (V.str "turns")) tNil))))) (tTest (tOp (rI0 fun i j => V.bl (decide (j < i))) (tCB (fun xs H Q => ∃ p ys, xs = [V.ref p] ∧ (SqL K H p ys ∨ SqT K H p ys) ∧ Q (.int ys.length) H) (tCons (tOp (rIxT K) (tVar 5) (tUn (rU fun i => V.int (-i)) (tC (V.int 1)))) tNil)) (tC (V.int 0)))))
      (tSeq (tAsg (tCallD (spPickT K) (tCons (tVar 2) (tCons (tOp (rIxT K) (tVar 5) (tUn (rU fun i => V.int (-i)) (tC (V.int 1)))) tNil))) (gName 9))
        (tDrop (tBM K "list" rAppend (tVar 6) (tCons (tIf (tTest (tOp rEq (tOp (rIxT K) (tVar 5) (tC (V.int 0))) (tC (V.str "turns")))) (tTup (tCons (tVar 9) tNil)) (tTupOf K (tLc (iTup K (tVar 9)) (gName 16) tYes (tIf (tB (tIsN (tVar 16))) (tC (V.int 0)) (tVar 16)) [16]))) tNil)))) tNext) tz D [some (.ref a), some i0, some (.ref l), some p0, some w0, some v, some (.ref pts), o7, o8, o9, o10, o11, o12, o13, o14, o15, o16] H := by
  have skip : ∀ H1, Ex H H1 → tz D [some (.ref a), some i0, some (.ref l), some p0, some w0, some v, some (.ref pts), o7, o8, o9, o10, o11, o12, o13, o14, o15, o16] H1 := fun H1 e1 => k H1 o9 (((p.ex e1).up (by omega)).more (Nat.le_succ N))
  obtain ⟨ar, us, ds, ev, hs, hu, hdd2⟩ := rl_open p.hv
  subst ev
  have hsF := Evl.ex_t (w_sub (L := [pts, l])) hs
  have m2 : l ∈ [pts, l] := List.mem_cons_of_mem pts (List.mem_singleton.mpr rfl)
  have neg : ∀ (σ : L2.St) H1, Evl.Ev (tUn (rU fun i => V.int (-i)) (tC (V.int 1))) σ H1 (.int (-1)) := fun σ H1 => Evl.ev_un Evl.ev_c fun H2 e2 Q q => ⟨1, rfl, q H2 (Ex.refl _)⟩
  cases hw : inV (.str (wordR r)) [.str "rise", .str "turns"] with
  | false =>
    refine Evl.q_when (b := false) (Evl.et_is (Evl.et_and (a := false) (b := true) (Evl.et_is (word_in (Evl.ev_var (v := .ref ar) rfl) hsF) hw) fun z => nomatch z) rfl) (fun z => nomatch z) (fun _ H1 e1 => skip H1 e1)
  | true =>
    rcases word_rt r hw with ⟨cs, rfl⟩ | ⟨f0, cs, rfl⟩
    · have eds : ds = [.tuple (cs.map fun c => .tuple (c.map oD))] := by
        injection hdd2 with q
        injection q with _ q
        exact q.symm
      subst eds
      cases hu with
      | cons r1 q1 =>
        cases q1
        cases r1 with
        | @tup e zs _ se ze =>
          have lz := dpa_len ze
          rw [List.length_map] at lz
          have hok1 : ∀ c ∈ cs, c.length = d := hr.1
          have hb2 : cs.length ≤ 10 := hb.2
          have v1 : ∀ (σ : L2.St) H1, σ[5]? = some (some (.ref ar)) → Ex (W [pts, l] H) (W [pts, l] H1) → Evl.Ev (tOp (rIxT K) (tVar 5) (tUn (rU fun i => V.int (-i)) (tC (V.int 1)))) σ H1 (.ref e) := fun σ H1 h5 e1 => Evl.ev_op (Evl.ev_var h5) (neg _ _) (Evl.rv_ixT (Evl.ex_t w_sub (Evl.ex_t e1 hs)) rfl)
          refine Evl.q_when (b := decide (zs ≠ [])) (Evl.et_is (Evl.et_and (a := true) (Evl.et_is (word_in (r := .rise cs) (Evl.ev_var (v := .ref ar) rfl) hsF) hw) fun _ => Evl.et_test (len_gt (v1 _ H rfl (Ex.refl _)) (Evl.ex_t w_sub se))) (Bool.true_and _)) (fun z H1 e1 => ?_) (fun z H1 e1 => skip H1 e1)
          have hz0 : zs ≠ [] := of_decide_eq_true z
          have hp0 : cs.map (fun c => PyData.tuple (c.map oD)) ≠ [] := fun q => hz0 (List.length_eq_zero_iff.mp (by rw [lz]; exact List.length_eq_zero_iff.mpr (List.map_eq_nil_iff.mp q)))
          have p1 := p.ex e1
          have E1 := w_ex (L := [pts, l]) e1
          refine pick_run p1 rfl (by omega) (v1 _ H1 rfl E1) (Evl.ex_t E1 se) (ze.up E1) hp0 (by rw [List.length_map]; omega) fun x1 d1 H2 m1 b1 p2 hx1 => ?_
          have E2 := E1.trans (b1.w m2)
          obtain ⟨c, hc, rfl⟩ := List.mem_map.mp m1
          cases hx1 with
          | @tup q us2 _ sq2 uq2 =>
            have eu := dpo_inv uq2
            subst eu
            obtain ⟨ys, g2, hy1, hy2⟩ := p2.g
            have hcl := hok1 c hc
            refine add_run (D := { D with nx := tz D }) (r := .rise cs) (v := .ref ar) (d := d) (ys := ys) (y := c.map fun o => o.getD 0) rfl p2.e0 p2.hd p2.hv g2 hy1 hy2 hN p2.hn p2.hl ⟨by rw [List.length_map]; exact hcl, fun x hx => ?_⟩ (evd_ifB (b := false) (Evl.et_is (word_is (r := .rise cs) (Evl.ev_var (v := .ref ar) rfl) (Evl.ex_t w_sub (Evl.ex_t E2 hs))) (decide_eq_false fun q => absurd (show ("rise" : Str) = "turns" by injection q) (by decide))) (fun z => nomatch z) fun _ => evd_tupL (pt_hid p2) (el_zero (L := []) (q := q) rfl (Evl.ex_t w_sub sq2) (by omega) (fun _ => rfl) (fun _ => rfl))) fun H4 p4 => k H4 _ p4
            obtain ⟨o, ho, rfl⟩ := List.mem_map.mp hx
            have q := (hb.1 c hc).1 o ho
            cases o with
            | none => exact abs_5 (by decide)
            | some i => exact abs_5 (bO_abs q rfl)
    · have eds : ds = [.bool f0, .tuple (cs.map .int)] := by
        injection hdd2 with q
        injection q with _ q
        exact q.symm
      subst eds
      cases hu with
      | cons r0 q0 =>
        cases q0 with
        | cons r1 q1 =>
          cases q1
          cases r1 with
          | @tup e zs _ se ze =>
            have lz := dpa_len ze
            rw [List.length_map] at lz
            have hb2 : cs.length ≤ 10 := hb.2
            have hd1 : d = 1 := hr.1
            have v1 : ∀ (σ : L2.St) H1, σ[5]? = some (some (.ref ar)) → Ex (W [pts, l] H) (W [pts, l] H1) → Evl.Ev (tOp (rIxT K) (tVar 5) (tUn (rU fun i => V.int (-i)) (tC (V.int 1)))) σ H1 (.ref e) := fun σ H1 h5 e1 => Evl.ev_op (Evl.ev_var h5) (neg _ _) (Evl.rv_ixT (Evl.ex_t w_sub (Evl.ex_t e1 hs)) rfl)
            refine Evl.q_when (b := decide (zs ≠ [])) (Evl.et_is (Evl.et_and (a := true) (Evl.et_is (word_in (r := .turns f0 cs) (Evl.ev_var (v := .ref ar) rfl) hsF) hw) fun _ => Evl.et_test (len_gt (v1 _ H rfl (Ex.refl _)) (Evl.ex_t w_sub se))) (Bool.true_and _)) (fun z H1 e1 => ?_) (fun z H1 e1 => skip H1 e1)
            have hz0 : zs ≠ [] := of_decide_eq_true z
            have hp0 : cs.map PyData.int ≠ [] := fun q => hz0 (List.length_eq_zero_iff.mp (by rw [lz]; exact List.length_eq_zero_iff.mpr (List.map_eq_nil_iff.mp q)))
            have p1 := p.ex e1
            have E1 := w_ex (L := [pts, l]) e1
            refine pick_run p1 rfl (by omega) (v1 _ H1 rfl E1) (Evl.ex_t E1 se) (ze.up E1) hp0 (by rw [List.length_map]; omega) fun x1 d1 H2 m1 b1 p2 hx1 => ?_
            have E2 := E1.trans (b1.w m2)
            obtain ⟨c, hc, rfl⟩ := List.mem_map.mp m1
            cases hx1
            obtain ⟨ys, g2, hy1, hy2⟩ := p2.g
            exact add_run (D := { D with nx := tz D }) (r := .turns f0 cs) (v := .ref ar) (d := d) (ys := ys) (y := [c]) rfl p2.e0 p2.hd p2.hv g2 hy1 hy2 hN p2.hn p2.hl ⟨hd1.symm, fun x hx => by rw [List.mem_singleton.mp hx]; exact abs_5 (hb.1 c hc)⟩ (evd_ifB (b := true) (Evl.et_is (word_is (r := .turns f0 cs) (Evl.ev_var (v := .ref ar) rfl) (Evl.ex_t w_sub (Evl.ex_t E2 hs))) (decide_eq_true rfl)) (fun _ => evd_one (pt_hid p2) (Evl.ev_var (v := .int c) rfl)) (fun z => nomatch z)) fun H4 p4 => k H4 _ p4
end
theorem hid1' {H : Hp} {l : Addr} (h : H l ≠ none) : Hid [l] H := fun a m => by
  rw [List.mem_singleton.mp m]
  exact h
section
variable {K : PySem.W.Frag} {H H0 : Hp} {l a : Addr} {m : Nat} {v i0 : V} {p wd : Int} {D : Ends} {tz : TS} {o6 o7 o8 o9 o10 o11 o12 o13 o14 o15 o16 : Option V}
theorem pts_stage (hd : Dr m H l) (hm : m < 700000) (p1 : 1 ≤ p) (p3 : p ≤ 3) (w0 : 0 ≤ wd) (w1 : wd ≤ 99)
    (k : ∀ pts (ys : List (List Int)) H', H pts = none → ExB l H H' → Dr (m + 27) H' l → Gr K [l] H' pts (ys.map tD) → (∀ y ∈ ys, y.length = p.toNat ∧ Bits 59 y) → ys.length ≤ 9 → tz D [some (.ref a), some i0, some (.ref l), some (.int p), some (.int wd), some v, some (.ref pts), o7, o8, o9, o10, o11, o12, o13, o14, o15, o16] H') :
    tSeq (tAsg (tOp rCat (tLc (iRng1 (tCons (tC (V.int 6)) tNil)) (gName 13) tYes (tCallD (spPoint K) (tCons (tVar 2) (tCons (tVar 3) (tCons (tVar 4) tNil)))) [13]) (tLc (iRng1 (tCons (tC (V.int 3)) tNil)) (gName 13) tYes (tCallD (spPoint K) (tCons (tVar 2) (tCons (tVar 3) (tCons (tC (V.int 2)) tNil)))) [13])) (gName 6)) tz D [some (.ref a), some i0, some (.ref l), some (.int p), some (.int wd), some v, o6, o7, o8, o9, o10, o11, o12, o13, o14, o15, o16] H := by
  have ml : l ∈ [l] := List.mem_singleton.mpr rfl
  refine pts_run (K := K) (σ := [some (.ref a), some i0, some (.ref l), some (.int p), some (.int wd), some v, o6, o7, o8, o9, o10, o11, o12, o13, o14, o15, o16]) (L := [l]) (tw := tVar 4) (kk := 6) (m := m) (p := p) (wd := wd) (Q := fun x H8 => (tLc (iRng1 (tCons (tC (V.int 3)) tNil)) (gName 13) tYes (tCallD (spPoint K) (tCons (tVar 2) (tCons (tVar 3) (tCons (tC (V.int 2)) tNil)))) [13]) [some (.ref a), some i0, some (.ref l), some (.int p), some (.int wd), some v, o6, o7, o8, o9, o10, o11, o12, o13, o14, o15, o16] H8 fun y H9 => rCat x y H9 fun z H10 => tz D ([some (.ref a), some i0, some (.ref l), some (.int p), some (.int wd), some v, o6, o7, o8, o9, o10, o11, o12, o13, o14, o15, o16].set 6 (some z)) H10) (fun _ => rfl) (fun _ => rfl) (fun _ => rfl) (fun _ _ => Evl.ev_var rfl) hd (by omega) (by decide) ml (hid1' hd.ne) p1 p3 w0 (by omega) fun D1 ys1 H8 hD1 b8 d8 g8 l8 y8 => ?_
  refine pts_run (K := K) (σ := [some (.ref a), some i0, some (.ref l), some (.int p), some (.int wd), some v, o6, o7, o8, o9, o10, o11, o12, o13, o14, o15, o16]) (L := [l]) (tw := tC (.int 2)) (kk := 3) (m := m + 18) (p := p) (wd := 2) (Q := fun y H9 => rCat (.ref D1) y H9 fun z H10 => tz D ([some (.ref a), some i0, some (.ref l), some (.int p), some (.int wd), some v, o6, o7, o8, o9, o10, o11, o12, o13, o14, o15, o16].set 6 (some z)) H10) (fun _ => rfl) (fun _ => rfl) (fun _ => rfl) (fun _ _ => Evl.ev_c) (d8.up (by omega)) (by omega) (by decide) ml (hid1' d8.ne) p1 p3 (by decide) (by decide) fun D2 ys2 H9 hD2 b9 d9 g9 l9 y9 => ?_
  obtain ⟨n1, xs1, hx1, ha1⟩ := gr_exB g8 b9 ml
  obtain ⟨n2, xs2, hx2, ha2⟩ := g9
  have lx1 := dpa_len ha1
  have lx2 := dpa_len ha2
  rw [List.length_map] at lx1 lx2
  refine ⟨D1, D2, xs1, xs2, rfl, rfl, hx1, hx2, Evl.sz_of (by omega), fun pts hpt => ?_⟩
  have hpts : H pts = none := by
    cases q : H pts with
    | none => rfl
    | some o =>
      have nl : pts ≠ l := fun e => d9.ne (by rw [← e]; exact hpt)
      have := b9 pts o nl (b8 pts o nl q)
      rw [hpt] at this
      cases this
  have g10 := gr_new (K := K) (L := [l]) (p := pts) (hid1' d9.ne) hpt (dpa_app (ha1.up w_cons) (ha2.up w_cons))
  rw [← List.map_append] at g10
  refine k pts (ys1 ++ ys2) _ hpts ((b8.trans b9).trans (ExB.of (Ex.new hpt))) ((d9.ex (Ex.new hpt)).up (by omega)) g10 (fun y hy => ?_) (by rw [List.length_append]; omega)
  rcases List.mem_append.mp hy with q | q
  · exact ⟨(y8 y q).1, fun e he => abs_5 (by have := (y8 y q).2 e he; omega)⟩
  · exact ⟨(y9 y q).1, fun e he => abs_5 (by have := (y9 y q).2 e he; omega)⟩
end
section
variable {P : Program} {w : World} {K : PySem.W.Frag} {mg : Str → Option Value} {base : Heap}
theorem law_body {f : Addr} {cdv : Value} {s : Shared} {H : Hp} {a : Addr} {ns : List Int} (T : TxW mg) (hr : Room 9 (callerA.deeper (envOfC "law" (defScope s_law) s.heap.objs.size f cdv)))
    (D_source : DefAt P w K mg base "_law_source" 1 ["_law_script", "_law_at"] (spSource K)) (D_draw : DefAt P w K mg base "_law_draw" 1 ["_law_draws", "_law_many"] spDraw) (D_pickT : DefAt P w K mg base "_law_pick" 2 ["_law_draws", "_law_things"] (spPickT K))
    (D_point : DefAt P w K mg base "_law_point" 2 ["_law_draws", "_law_places", "_law_wide"] (spPoint K)) (D_spec : DefAt P w K mg base "_law_spec" 8 ["_law_draws", "_law_places", "_law_deep"] (spJoint K 2)) (D_rule : DefAt P w K mg base "_law_rule" 6 ["_law_draws", "_law_spec_here", "_law_wide"] (spDrawn K 2))
    (D_Lsays : DefAt P w K mg base "_law_says" 4 ["_law_rule_here", "_law_point_here"] (spTold K 2)) (D_says : DefAt P w K mg base "says" 7 ["rule", "point"] (spSays K 2)) (D_listed : DefAt P w K mg base "_law_listed" 6 ["_law_thing"] (spListed K 5)) (D_same : DefAt P w K mg base "_law_same" 3 ["_law_found", "_law_due"] (spSame K 2))
    (hS : SqL K H a (ns.map V.int)) (hlen : ns.length ≤ 63) :
    ∃ t, PSs (cxOf CX0 P w K mg base sc_law_N "law" (defScope s_law) f cdv callerA [] s H E0).nox (defBody s_law) t ∧
        t { nx := fun _ _ => V.non = V.bl true, rt := fun v _ => v = V.bl true } (L2.start sc_law_N [V.ref a]) H := by
  refine ⟨_, (pss_cons (ps_for PassesOwn.never rfl (pi_range1 (by rfl) T.m_range (pa_cons pe_int pa_nil)) (pg_name (i := 1) sc_law.nd rfl (by first | exact Or.inl rfl | exact Or.inr rfl))
      (pss_cons (ps_set (i := 2) sc_law.nd rfl (by first | exact Or.inl rfl | exact Or.inr rfl) (pe_callD D_source (by first | exact hr | exact hr.mono (by decide) | exact hr.mono (by omega)) (by rfl) (pa_cons (pv 0) (pa_cons (pv 1) pa_nil))))
      (pss_cons (ps_set (i := 3) sc_law.nd rfl (by first | exact Or.inl rfl | exact Or.inr rfl) (pe_op op_add pe_int (pe_callD D_draw (by first | exact hr | exact hr.mono (by decide) | exact hr.mono (by omega)) (by rfl) (pa_cons (pv 2) (pa_cons pe_int pa_nil)))))
      (pss_cons (ps_set (i := 4) sc_law.nd rfl (by first | exact Or.inl rfl | exact Or.inr rfl) (pe_ix ix_list (pe_lst (pa_cons pe_int (pa_cons pe_int (pa_cons pe_int pa_nil)))) (pe_callD D_draw (by first | exact hr | exact hr.mono (by decide) | exact hr.mono (by omega)) (by rfl) (pa_cons (pv 2) (pa_cons pe_int pa_nil))) (fun _ _ => rfl)))
      (pss_cons (ps_set (i := 5) sc_law.nd rfl (by first | exact Or.inl rfl | exact Or.inr rfl) (pe_callD D_rule (by first | exact hr | exact hr.mono (by decide) | exact hr.mono (by omega)) (by rfl) (pa_cons (pv 2) (pa_cons (pe_callD D_spec (by first | exact hr | exact hr.mono (by decide) | exact hr.mono (by omega)) (by rfl) (pa_cons (pv 2) (pa_cons (pv 3) (pa_cons pe_int pa_nil)))) (pa_cons (pv 4) pa_nil)))))
      (pss_cons (ps_set (i := 6) sc_law.nd rfl (by first | exact Or.inl rfl | exact Or.inr rfl) (pe_op op_cat (pe_lc (own := [("_law_k", 13)]) (g := gName 13) (tt := tYes) (by rfl) sc_law.nd (pi_range1 (by rfl) T.m_range (pa_cons pe_int pa_nil)) (blkOk_by (N := sc_law_N) (sc := defScope s_law) (by decide +kernel)) (fun _ _ _ _ _ => (pg_name (i := 13) sc_law.nd rfl (by first | exact Or.inl rfl | exact Or.inr rfl))) (fun _ _ _ _ _ => pts_nil) (fun _ _ _ _ _ => (pe_callD D_point (by first | exact hr | exact hr.mono (by decide) | exact hr.mono (by omega)) (by rfl) (pa_cons (pv 2) (pa_cons (pv 3) (pa_cons (pv 4) pa_nil)))))) (pe_lc (own := [("_law_k", 13)]) (g := gName 13) (tt := tYes) (by rfl) sc_law.nd (pi_range1 (by rfl) T.m_range (pa_cons pe_int pa_nil)) (blkOk_by (N := sc_law_N) (sc := defScope s_law) (by decide +kernel)) (fun _ _ _ _ _ => (pg_name (i := 13) sc_law.nd rfl (by first | exact Or.inl rfl | exact Or.inr rfl))) (fun _ _ _ _ _ => pts_nil) (fun _ _ _ _ _ => (pe_callD D_point (by first | exact hr | exact hr.mono (by decide) | exact hr.mono (by omega)) (by rfl) (pa_cons (pv 2) (pa_cons (pv 3) (pa_cons pe_int pa_nil))))))))
      (pss_cons (ps_if (PW.pt (pw_and (pt_cmpR op_eq (pe_ix ix_tup (pv 5) pe_int (fun _ _ => rfl)) pe_str (nomark _)) (pw_and1 (pt_cmpR op_gt (pe_callB call_len_seq (by rfl) T.m_len (by decide +kernel) (pa_cons (pe_ix ix_tup (pv 5) pe_int (fun _ _ => rfl)) pa_nil)) pe_int (nomark _))))) (pss_cons (ps_par (i := 7) (j := 8) (by rfl) sc_law.nd rfl rfl (by decide) rfl rfl (pa_cons (pe_callD D_pickT (by first | exact hr | exact hr.mono (by decide) | exact hr.mono (by omega)) (by rfl) (pa_cons (pv 2) (pa_cons (pe_ix ix_tup (pv 5) pe_int (fun _ _ => rfl)) pa_nil))) (pa_cons (pe_callD D_pickT (by first | exact hr | exact hr.mono (by decide) | exact hr.mono (by omega)) (by rfl) (pa_cons (pv 2) (pa_cons (pe_ix ix_tup (pv 5) pe_int (fun _ _ => rfl)) pa_nil))) pa_nil)) (by rfl))
        (pss_one (ps_expr (pe_bm PySem.F.plainAttrs_list PySem.F.slot_list_append PySem.F.type_list_append mt_append (pv 6) (pa_cons (pe_callTy call_tuple_of (by rfl) T.m_tuple (by decide +kernel) (pa_cons (pe_lc (own := [("_law_a", 14), ("_law_b", 15)]) (g := gTup K 2 (gCons (gName 14) (gCons (gName 15) (gNil)))) (tt := tYes) (by rfl) sc_law.nd (RZ.pi_zipA (by rfl) T.m_zip (pa_cons (pv 7) (pa_cons (pv 8) pa_nil))) (blkOk_by (N := sc_law_N) (sc := defScope s_law) (by decide +kernel)) (fun _ _ _ _ _ => (pg_tup (by rfl) (pgs_cons (pg_name (i := 14) sc_law.nd rfl (by first | exact Or.inl rfl | exact Or.inr rfl)) (pgs_cons (pg_name (i := 15) sc_law.nd rfl (by first | exact Or.inl rfl | exact Or.inr rfl)) pgs_nil)))) (fun _ _ _ _ _ => pts_nil) (fun _ _ _ _ _ => (pe_op op_add (pv 14) (pe_op op_mul pe_int (pe_op op_sub (pv 15) (pv 14)))))) pa_nil)) pa_nil))))) pss_nil)
      (pss_cons (ps_if (PW.pt (pw_and (pt_cmpR op_in_seq (pe_ix ix_tup (pv 5) pe_int (fun _ _ => rfl)) (pe_tup (pa_cons pe_str (pa_cons pe_str pa_nil))) (by rfl)) (pw_and1 (pt_cmpR op_gt (pe_callB call_len_seq (by rfl) T.m_len (by decide +kernel) (pa_cons (pe_ix ix_tup (pv 5) (pe_un un_neg pe_int) (fun _ _ => rfl)) pa_nil)) pe_int (nomark _))))) (pss_cons (ps_set (i := 9) sc_law.nd rfl (by first | exact Or.inl rfl | exact Or.inr rfl) (pe_callD D_pickT (by first | exact hr | exact hr.mono (by decide) | exact hr.mono (by omega)) (by rfl) (pa_cons (pv 2) (pa_cons (pe_ix ix_tup (pv 5) (pe_un un_neg pe_int) (fun _ _ => rfl)) pa_nil))))
        (pss_one (ps_expr (pe_bm PySem.F.plainAttrs_list PySem.F.slot_list_append PySem.F.type_list_append mt_append (pv 6) (pa_cons (pe_ifExp (pt_cmpR op_eq (pe_ix ix_tup (pv 5) pe_int (fun _ _ => rfl)) pe_str (nomark _)) (pe_tup (pa_cons (pv 9) pa_nil)) (pe_callTy call_tuple_of (by rfl) T.m_tuple (by decide +kernel) (pa_cons (pe_lc (own := [("_law_entry", 16)]) (g := gName 16) (tt := tYes) (by rfl) sc_law.nd (pi_tup (pv 9)) (blkOk_by (N := sc_law_N) (sc := defScope s_law) (by decide +kernel)) (fun _ _ _ _ _ => (pg_name (i := 16) sc_law.nd rfl (by first | exact Or.inl rfl | exact Or.inr rfl))) (fun _ _ _ _ _ => pts_nil) (fun _ _ _ _ _ => (pe_ifExp (pt_cmp (pc_isN (pv 16)) rfl) pe_int (pv 16)))) pa_nil))) pa_nil))))) pss_nil)
      (pss_cons (ps_set (i := 10) sc_law.nd rfl (by first | exact Or.inl rfl | exact Or.inr rfl) (pe_callB (UG.call_reprD (UG.top_guards _) (by have := hr.un; show (callerA.deeper (envOfC "law" (defScope s_law) s.heap.objs.size f cdv)).units + 80 < cLine; omega)) (by rfl) T.m_repr (by decide +kernel) (pa_cons (pv 5) pa_nil)))
      (pss_cons (ps_for PassesOwn.never rfl (pi_list (pv 6)) (pg_name (i := 11) sc_law.nd rfl (by first | exact Or.inl rfl | exact Or.inr rfl))
        (pss_cons (ps_set (i := 12) sc_law.nd rfl (by first | exact Or.inl rfl | exact Or.inr rfl) (pe_callD D_Lsays (by first | exact hr | exact hr.mono (by decide) | exact hr.mono (by omega)) (by rfl) (pa_cons (pv 5) (pa_cons (pv 11) pa_nil))))
        (pss_one (ps_if (pt_not (pt_val (pe_callD D_same (by first | exact hr | exact hr.mono (by decide) | exact hr.mono (by omega)) (by rfl) (pa_cons (pe_lst (pa_cons (pe_callD D_says (by first | exact hr | exact hr.mono (by decide) | exact hr.mono (by omega)) (by rfl) (pa_cons (pv 5) (pa_cons (pv 11) pa_nil))) (pa_cons (pe_callD D_says (by first | exact hr | exact hr.mono (by decide) | exact hr.mono (by omega)) (by rfl) (pa_cons (pe_callD D_listed (by first | exact hr | exact hr.mono (by decide) | exact hr.mono (by omega)) (by rfl) (pa_cons (pv 5) pa_nil)) (pa_cons (pe_callTy call_list_of (by rfl) T.m_list (by decide +kernel) (pa_cons (pv 11) pa_nil)) pa_nil))) pa_nil))) (pa_cons (pe_lst (pa_cons (pv 12) (pa_cons (pv 12) pa_nil))) pa_nil))))) (pss_one (ps_ret pe_bl)) pss_nil))))
      (pss_one (ps_if (pt_cmpR op_ne (pe_callB (UG.call_reprD (UG.top_guards _) (by have := hr.un; show (callerA.deeper (envOfC "law" (defScope s_law) s.heap.objs.size f cdv)).units + 80 < cLine; omega)) (by rfl) T.m_repr (by decide +kernel) (pa_cons (pv 5) pa_nil)) (pv 10) (nomark _)) (pss_one (ps_ret pe_bl)) pss_nil))))))))))))
    (pss_one (ps_ret pe_bl))), ?_⟩
  refine Evl.q_forR1 (n := 6) (Evl.ea_cons Evl.ev_c Evl.ea_nil) (by decide) (fun _ σ' H' => Ex H H' ∧ ∃ o1 o2 o3 o4 o5 o6 o7 o8 o9 o10 o11 o12 o13 o14 o15 o16, σ' = [some (.ref a), o1, o2, o3, o4, o5, o6, o7, o8, o9, o10, o11, o12, o13, o14, o15, o16])
    (fun H1 e => ⟨e, _, _, _, _, _, _, _, _, _, _, _, _, _, _, _, _, rfl⟩) ?_ ?_
  · rintro i σ' H1 hi ⟨e1, o1, o2, o3, o4, o5, o6, o7, o8, o9, o10, o11, o12, o13, o14, o15, o16, rfl⟩
    refine ⟨_, rfl, _, rfl, a, ns, i, rfl, Evl.ex_l e1 hS, hlen, by omega, fun l o hl hd => ?_⟩
    have hl0 : H l = none := Evl.fresh_back e1 hl
    have e2 : Ex H (upd H1 l o) := e1.trans (Ex.new hl)
    generalize upd H1 l o = H2 at hd e2 ⊢
    have ml : l ∈ [l] := List.mem_singleton.mpr rfl
    -- the places
    refine draw_runJ (j := 2) (n := 0) (l := l) (many := 3) (by rfl) hd (by decide) Evl.ev_c (by decide) (by decide) fun r1 H3 r10 r11 d3 b3 => ?_
    refine ⟨_, _, rfl, rfl, ?_⟩
    obtain ⟨p, hp⟩ : ∃ p : Int, p = 1 + r1 := ⟨_, rfl⟩
    show tSeq _ _ _ (List.set _ 3 (some (.int (1 + r1)))) H3
    rw [← hp]
    have p1 : 1 ≤ p := by omega
    have p3 : p ≤ 3 := by omega
    -- how wide
    refine ⟨by show 3 ≤ sizeLine; decide, fun t ht => ?_⟩
    have eA : Ex H3 (upd H3 t (.lst [V.int 2, V.int 9, V.int 99])) := Ex.new ht
    have hA : (upd H3 t (.lst [V.int 2, V.int 9, V.int 99])) t = some (.lst [V.int 2, V.int 9, V.int 99]) := upd_same
    have tl0 : t ≠ l := ne_of_none' ht d3.ne
    generalize upd H3 t (.lst [V.int 2, V.int 9, V.int 99]) = HA at eA hA ⊢
    refine draw_runJ (j := 2) (n := 1) (l := l) (many := 3) (by rfl) (d3.ex eA) (by decide) Evl.ev_c (by decide) (by decide) fun r2 H5 r20 r21 d5 b5 => ?_
    obtain ⟨wd, hwd, w0, w1⟩ : ∃ wd : Int, atI [V.int 2, V.int 9, V.int 99] r2 = some (.int wd) ∧ 0 ≤ wd ∧ wd ≤ 99 := by
      rcases (by omega : r2 = 0 ∨ r2 = 1 ∨ r2 = 2) with rfl | rfl | rfl
      · exact ⟨2, rfl, by decide, by decide⟩
      · exact ⟨9, rfl, by decide, by decide⟩
      · exact ⟨99, rfl, by decide, by decide⟩
    refine ⟨t, _, r2, .int wd, rfl, rfl, SqL.of (b5 t _ tl0 hA), hwd, ?_⟩
    have b25 := (b3.trans (ExB.of eA)).trans b5
    have e05 := exB_new' hl0 e2 b25
    -- the rule
    refine ⟨_, rfl, _, rfl, _, rfl, l, p, 2, [l], rfl, d5, by decide, ml, hid1' d5.ne, p1, p3, fun vk kd H6 b6 d6 ok dk hk => ?_⟩
    refine ⟨_, rfl, l, vk, kd, p, wd, 32, [l], rfl, d6, by decide, ml, hid1' d6.ne, p1, p3, w0, by omega, hk, ok, dk, fun v r H7 b7 d7 or dr br hv => ?_⟩
    have e07 := exB_new' hl0 (exB_new' hl0 e05 b6) b7
    clear hk b3 b5 b25 b6 b7 d3 d5 d6 e05 eA hA tl0 ht
    have d7' : Dr 200 H7 l := d7.up (by decide)
    -- the points
    refine pts_stage (K := K) (m := 200) d7' (by decide) p1 p3 w0 w1 fun pts ys0 HP hpts7 b7t dP gP yP lP => ?_
    have hpts0 : H pts = none := by
      cases q : H pts with
      | none => rfl
      | some o =>
        have := e07 pts o q
        rw [hpts7] at this
        cases this
    have P0 : Pt K l pts p.toNat H HP 300 v r 9 := ⟨exB_new' hl0 e07 b7t, dP.up (by decide), hv.up (w_pastB hpts7 b7t ml), ⟨ys0, gP, yP, lP⟩, hpts0, hl0⟩
    clear gP b7t dP d7 d7' hv e07 hpts7 yP lP
    refine flat_stage (K := K) P0 (by decide) or br (by decide) (by omega) fun HF s7 s8 P1 => ?_
    refine rt_stage (K := K) P1 (by decide) or br (by decide) (by omega) fun HG s9 P2 => ?_
    clear P0 P1
    obtain ⟨ar, us, ds, ev, hs, hu, hdd2⟩ := rl_open P2.hv
    subst ev
    have hvF := P2.hv.up w_sub
    have e0G := P2.e0
    obtain ⟨ys, g, hy1, hy2⟩ := P2.g
    clear P2 hs hu
    refine Evl.q_asg (v := .str (rlD true r).shown) (ev_repr (Evl.ev_var (v := .ref ar) rfl) hvF br dr) fun HK eK => ?_
    replace hvF := hvF.up eK
    replace e0G := e0G.trans eK
    replace g := g.up eK
    clear eK
    obtain ⟨ng, xs, hx, hxa⟩ := id g
    have lx := dpa_len hxa
    rw [List.length_map] at lx
    let Pv : Nat → L2.St → Hp → Prop := fun _ σ' H' => Ex HK H' ∧ ∃ s11 s12, σ' = [some (.ref a), some (.int (i : Int)), some (.ref l), some (.int p), some (.int wd), some (.ref ar), some (.ref pts), s7, s8, s9, some (.str (rlD true r).shown), s11, s12, o13, o14, o15, o16]
    refine ⟨_, rfl, pts, rfl, ⟨xs, SqL.of hx⟩, for_it (walk_list (xs := xs)) Pv ⟨Ex.refl _, _, _, rfl⟩ (fun j σ' H' _ pv => SqL.of (pv.1 pts _ hx)) (fun j y σ' HL HM hj pv yp => ?_) (fun σ' HL pv => ?_)⟩
    · obtain ⟨eL, s11, s12, rfl⟩ := pv
      obtain ⟨rfl, hy⟩ := yp
      obtain ⟨dy, hd1, hd2⟩ := dpa_get hxa hy
      have hj' : j < ys.length := by omega
      rw [List.getElem?_map, List.getElem?_eq_getElem hj'] at hd1
      have ed : dy = tD ys[j] := (Option.some.inj hd1).symm
      subst ed
      obtain ⟨yl, yb⟩ := hy1 _ (List.getElem_mem hj')
      generalize ys[j] = x at hd2 yl yb
      obtain ⟨q, rfl, sq1⟩ := tD_inv ((hd2.up w_sub).up eL)
      have hv1 := hvF.up eL
      have okx : okR x.length r := by rw [yl]; exact or
      have hx1 : x.length ≤ 100 := by omega
      have dx : Dp K HM (.ref q) (.tuple (x.map .int)) := .tup sq1 (dpi_of x)
      refine Evl.q_asg (v := .bl (sayR x r)) (ev_callD (Evl.ea_cons (Evl.ev_var (v := .ref ar) rfl) (Evl.ea_cons (Evl.ev_var (v := .ref q) rfl) Evl.ea_nil)) fun H2 e2 Q q2 => ⟨.ref ar, .ref q, r, x, rfl, hv1.up e2, dx.up e2, okx, dr, hx1, yb, q2⟩) fun HN eN => ?_
      replace hv1 := hv1.up eN
      replace dx := dx.up eN
      have says1 : Evl.Ev (tCallD (spSays K 2) (tCons (tVar 5) (tCons (tVar 11) tNil))) [some (.ref a), some (.int (i : Int)), some (.ref l), some (.int p), some (.int wd), some (.ref ar), some (.ref pts), s7, s8, s9, some (.str (rlD true r).shown), some (.ref q), some (.bl (sayR x r)), o13, o14, o15, o16] HN (.bl (sayR x r)) :=
        ev_callD (Evl.ea_cons (Evl.ev_var (v := .ref ar) rfl) (Evl.ea_cons (Evl.ev_var (v := .ref q) rfl) Evl.ea_nil)) fun H2 e2 Q q2 => ⟨.ref ar, .ref q, true, r, x, rfl, hv1.up e2, dx.up e2, okx, dr, hx1, yb, q2⟩
      have hnil : Hid [] HN := fun _ h => (nomatch h)
      have says2 : Evl.Ev (tCallD (spSays K 2) (tCons (tCallD (spListed K 5) (tCons (tVar 5) tNil)) (tCons (tCB (fun xs H Q => ∃ p ys, xs = [V.ref p] ∧ (SqL K H p ys ∨ SqT K H p ys) ∧ ∀ l, H l = none → Q (V.ref l) (upd H l (.lst ys))) (tCons (tVar 11) tNil)) tNil))) [some (.ref a), some (.int (i : Int)), some (.ref l), some (.int p), some (.int wd), some (.ref ar), some (.ref pts), s7, s8, s9, some (.str (rlD true r).shown), some (.ref q), some (.bl (sayR x r)), o13, o14, o15, o16] HN (.bl (sayR x r)) :=
        ev_callDD (K := K) (evds_cons (evd_listed (Evl.ev_var (v := .ref ar) rfl) hv1 okx (by omega) dr) (evds_cons (evd_ofL (y := x) hnil (el_listT (K := K) (Evl.ev_var (v := .ref q) rfl) (.inr (Evl.ex_t eN sq1)))) evds_nil)) fun vs H2 e2 hvs Q q2 => by
          cases hvs with
          | @cons v1 _ _ _ r1 rr =>
            cases rr with
            | @cons v2 _ _ _ r2 rr2 =>
              cases rr2
              exact ⟨v1, v2, false, r, x, rfl, r1, r2, okx, dr, hx1, yb, q2⟩
      refine Evl.s_when (b := false) (Evl.et_is (Evl.et_not (Evl.et_B (ev_callLL (z := .bl true) (Evl.el_lst (Evl.ea_cons says1 (Evl.ea_cons says2 Evl.ea_nil)) (by simp)) (Evl.el_lst (Evl.ea_cons (Evl.ev_var (v := .bl (sayR x r)) rfl) (Evl.ea_cons (Evl.ev_var (v := .bl (sayR x r)) rfl) Evl.ea_nil)) (by simp)) fun p1 p2 H2 e2 h1 h2 Q q2 => ⟨.ref p1, .ref p2, .list [.bool (sayR x r), .bool (sayR x r)], rfl, .lst (SqL.of h1) (.cons (.bl _) (.cons (.bl _) .nil)), .lst (SqL.of h2) (.cons (.bl _) (.cons (.bl _) .nil)), ⟨by show 2 ≤ 40000; omega, fun dd hdd => ?_⟩, q2⟩))) rfl) (fun z => nomatch z) (fun _ HO eO => ⟨(eL.trans eN).trans eO, _, _, rfl⟩)
      rcases List.mem_cons.mp hdd with z | z
      · rw [z]; trivial
      · rw [List.mem_singleton.mp z]; trivial
    · obtain ⟨eL, s11, s12, rfl⟩ := pv
      refine Evl.s_when (b := false) (Evl.et_is (Evl.et_test (Evl.ev_op (ev_repr (Evl.ev_var (v := .ref ar) rfl) (hvF.up eL) br dr) (Evl.ev_var (v := .str (rlD true r).shown) rfl) (Evl.rv_ne rfl))) (by simp)) (fun z => nomatch z) (fun _ HO eO => ⟨(e0G.trans eL).trans eO, _, _, _, _, _, _, _, _, _, _, _, _, _, _, _, _, rfl⟩)
  · rintro σ' H' ⟨e, o1, o2, o3, o4, o5, o6, o7, o8, o9, o10, o11, o12, o13, o14, o15, o16, rfl⟩
    exact rfl
end
end U

set_option Elab.async false
set_option linter.all false
set_option maxRecDepth 100000
set_option maxHeartbeats 8000000
namespace U
open PySem PySem.Spec PyProof.Rows L2
open Evl (Ex)
theorem ok_pickT {P : Program} {w : World} {K : PySem.W.Frag} {mg : Str → Option Value} {base : Heap} {f : Addr} {fd : FuncData} (F : Fun K "_law_pick" "_law_pick" s_pick f fd) (T : TxB mg) (D_draw : DefAt P w K mg base "_law_draw" 1 ["_law_draws", "_law_many"] spDraw) : FnOk P w K mg base CX0 2 f fd ["_law_draws", "_law_things"] (spPickT K) := by
  refine F.ok sc_pick (fun vs H Q E h => ?_) (fun cdv A outer s H vs Q E hr h => ?_)
  · obtain ⟨_, _, _, _, _, rfl, _⟩ := h
    rfl
  · obtain ⟨l, t, ds, n, L, rfl, hd, hn, hL, hp, h0, h1, k⟩ := h
    refine ⟨_, (pss_one (ps_ret (pe_ix ix_tup (pv 1) (pe_callD D_draw (by first | exact hr | exact hr.mono (by decide) | exact hr.mono (by omega)) (by rfl) (pa_cons (pv 0) (pa_cons (pe_callB call_len_seq (by rfl) T.m_len (by decide +kernel) (pa_cons (pv 1) pa_nil)) pa_nil))) (fun _ _ => rfl)))), ?_⟩
    cases hp with
    | @tup _ xs _ hs ha =>
      have hlen := dpa_len ha
      refine ⟨_, rfl, _, rfl, _, rfl, t, xs, rfl, .inr (Evl.ex_t w_sub hs), ?_⟩
      refine ⟨l, _, n, rfl, hd, hn, by omega, by omega, fun r o r0 r1 hd' => ?_⟩
      have hr' : r.toNat < xs.length := by omega
      obtain ⟨d, hd1, hd2⟩ := dpa_get ha (List.getElem?_eq_getElem hr')
      have er : ((r.toNat : Nat) : Int) = r := by omega
      refine ⟨t, xs, r, xs[r.toNat], rfl, rfl, Evl.ex_t (w_sub (L := L)) (by rw [w_upd_in hL]; exact hs), ?_, ?_⟩
      · have q := atI_nat (List.getElem?_eq_getElem hr')
        rw [er] at q
        exact q
      · exact k _ d o (List.mem_of_getElem? hd1) (by rw [w_upd_in hL]; exact hd2) hd'
theorem all_mk {l : PySem.W.OpenLaw} {w : World} {K : PySem.W.Frag} {h : Heap} {mg : Str → Option Value} {fa DP fF_lead_of fF_reduced fF_basis_of fF_is_spanned fF_half_says fF_box_says fF_lies_between fF_rise_says fF_lies_above fF_flat_says fF_turns_says fF_says fL_source fL_draw fL_pick fL_same fL_point fL_plain fL_spec fL_relations fL_rule fL_range fL_corner fL_Lsays fL_part fL_joint fL_pair fL_listed fL_law : Addr} {esD : Array DictEntry} {nD : Nat}
   {ocF_lead_of kVF_lead_of dcF_lead_of pmF_lead_of cdF_lead_of ctF_lead_of : Value} {odF_lead_of anF_lead_of : Option Addr} {slF_lead_of : Array (Option Value)} {ocF_reduced kVF_reduced dcF_reduced pmF_reduced cdF_reduced ctF_reduced : Value} {odF_reduced anF_reduced : Option Addr} {slF_reduced : Array (Option Value)} {ocF_basis_of kVF_basis_of dcF_basis_of pmF_basis_of cdF_basis_of ctF_basis_of : Value} {odF_basis_of anF_basis_of : Option Addr} {slF_basis_of : Array (Option Value)} {ocF_is_spanned kVF_is_spanned dcF_is_spanned pmF_is_spanned cdF_is_spanned ctF_is_spanned : Value} {odF_is_spanned anF_is_spanned : Option Addr} {slF_is_spanned : Array (Option Value)} {ocF_half_says kVF_half_says dcF_half_says pmF_half_says cdF_half_says ctF_half_says : Value} {odF_half_says anF_half_says : Option Addr} {slF_half_says : Array (Option Value)} {ocF_box_says kVF_box_says dcF_box_says pmF_box_says cdF_box_says ctF_box_says : Value} {odF_box_says anF_box_says : Option Addr} {slF_box_says : Array (Option Value)} {ocF_lies_between kVF_lies_between dcF_lies_between pmF_lies_between cdF_lies_between ctF_lies_between : Value} {odF_lies_between anF_lies_between : Option Addr} {slF_lies_between : Array (Option Value)} {ocF_rise_says kVF_rise_says dcF_rise_says pmF_rise_says cdF_rise_says ctF_rise_says : Value} {odF_rise_says anF_rise_says : Option Addr} {slF_rise_says : Array (Option Value)} {ocF_lies_above kVF_lies_above dcF_lies_above pmF_lies_above cdF_lies_above ctF_lies_above : Value} {odF_lies_above anF_lies_above : Option Addr} {slF_lies_above : Array (Option Value)} {ocF_flat_says kVF_flat_says dcF_flat_says pmF_flat_says cdF_flat_says ctF_flat_says : Value} {odF_flat_says anF_flat_says : Option Addr} {slF_flat_says : Array (Option Value)} {ocF_turns_says kVF_turns_says dcF_turns_says pmF_turns_says cdF_turns_says ctF_turns_says : Value} {odF_turns_says anF_turns_says : Option Addr} {slF_turns_says : Array (Option Value)} {ocF_says kVF_says dcF_says pmF_says cdF_says ctF_says : Value} {odF_says anF_says : Option Addr} {slF_says : Array (Option Value)} {ocL_source kVL_source dcL_source pmL_source cdL_source ctL_source : Value} {odL_source anL_source : Option Addr} {slL_source : Array (Option Value)} {ocL_draw kVL_draw dcL_draw pmL_draw cdL_draw ctL_draw : Value} {odL_draw anL_draw : Option Addr} {slL_draw : Array (Option Value)} {ocL_pick kVL_pick dcL_pick pmL_pick cdL_pick ctL_pick : Value} {odL_pick anL_pick : Option Addr} {slL_pick : Array (Option Value)} {ocL_same kVL_same dcL_same pmL_same cdL_same ctL_same : Value} {odL_same anL_same : Option Addr} {slL_same : Array (Option Value)} {ocL_point kVL_point dcL_point pmL_point cdL_point ctL_point : Value} {odL_point anL_point : Option Addr} {slL_point : Array (Option Value)} {ocL_plain kVL_plain dcL_plain pmL_plain cdL_plain ctL_plain : Value} {odL_plain anL_plain : Option Addr} {slL_plain : Array (Option Value)} {ocL_spec kVL_spec dcL_spec pmL_spec cdL_spec ctL_spec : Value} {odL_spec anL_spec : Option Addr} {slL_spec : Array (Option Value)} {ocL_relations kVL_relations dcL_relations pmL_relations cdL_relations ctL_relations : Value} {odL_relations anL_relations : Option Addr} {slL_relations : Array (Option Value)} {ocL_rule kVL_rule dcL_rule pmL_rule cdL_rule ctL_rule : Value} {odL_rule anL_rule : Option Addr} {slL_rule : Array (Option Value)} {ocL_range kVL_range dcL_range pmL_range cdL_range ctL_range : Value} {odL_range anL_range : Option Addr} {slL_range : Array (Option Value)} {ocL_corner kVL_corner dcL_corner pmL_corner cdL_corner ctL_corner : Value} {odL_corner anL_corner : Option Addr} {slL_corner : Array (Option Value)} {ocL_Lsays kVL_Lsays dcL_Lsays pmL_Lsays cdL_Lsays ctL_Lsays : Value} {odL_Lsays anL_Lsays : Option Addr} {slL_Lsays : Array (Option Value)} {ocL_part kVL_part dcL_part pmL_part cdL_part ctL_part : Value} {odL_part anL_part : Option Addr} {slL_part : Array (Option Value)} {ocL_joint kVL_joint dcL_joint pmL_joint cdL_joint ctL_joint : Value} {odL_joint anL_joint : Option Addr} {slL_joint : Array (Option Value)} {ocL_pair kVL_pair dcL_pair pmL_pair cdL_pair ctL_pair : Value} {odL_pair anL_pair : Option Addr} {slL_pair : Array (Option Value)} {ocL_listed kVL_listed dcL_listed pmL_listed cdL_listed ctL_listed : Value} {odL_listed anL_listed : Option Addr} {slL_listed : Array (Option Value)} {ocL_law kVL_law dcL_law pmL_law cdL_law ctL_law : Value} {odL_law anL_law : Option Addr} {slL_law : Array (Option Value)} (X : K.In h) (G : h.Ns mainGlobals mg) (hfa : mg "law" = some (.ref fa))
    (aF_lead_of : PySem.W.nsIn K mainGlobals "lead_of" = some (some (.ref fF_lead_of)))
    (lF_lead_of : K.lookup fF_lead_of = some ⟨ocF_lead_of, odF_lead_of, .func (PySem.W.fnOf "lead_of" "lead_of" (defArgs s_lead_of) (defBody s_lead_of) (defScope s_lead_of) .none kVF_lead_of dcF_lead_of pmF_lead_of anF_lead_of cdF_lead_of ctF_lead_of), slF_lead_of⟩)
    (cF_lead_of : PySem.W.codeIn K cdF_lead_of "lead_of" = true)
    (kF_lead_of : PySem.W.keepIn K (.ref fF_lead_of) = true)
    (aF_reduced : PySem.W.nsIn K mainGlobals "reduced" = some (some (.ref fF_reduced)))
    (lF_reduced : K.lookup fF_reduced = some ⟨ocF_reduced, odF_reduced, .func (PySem.W.fnOf "reduced" "reduced" (defArgs s_reduced) (defBody s_reduced) (defScope s_reduced) .none kVF_reduced dcF_reduced pmF_reduced anF_reduced cdF_reduced ctF_reduced), slF_reduced⟩)
    (cF_reduced : PySem.W.codeIn K cdF_reduced "reduced" = true)
    (kF_reduced : PySem.W.keepIn K (.ref fF_reduced) = true)
    (aF_basis_of : PySem.W.nsIn K mainGlobals "basis_of" = some (some (.ref fF_basis_of)))
    (lF_basis_of : K.lookup fF_basis_of = some ⟨ocF_basis_of, odF_basis_of, .func (PySem.W.fnOf "basis_of" "basis_of" (defArgs s_basis_of) (defBody s_basis_of) (defScope s_basis_of) .none kVF_basis_of dcF_basis_of pmF_basis_of anF_basis_of cdF_basis_of ctF_basis_of), slF_basis_of⟩)
    (cF_basis_of : PySem.W.codeIn K cdF_basis_of "basis_of" = true)
    (kF_basis_of : PySem.W.keepIn K (.ref fF_basis_of) = true)
    (aF_is_spanned : PySem.W.nsIn K mainGlobals "is_spanned" = some (some (.ref fF_is_spanned)))
    (lF_is_spanned : K.lookup fF_is_spanned = some ⟨ocF_is_spanned, odF_is_spanned, .func (PySem.W.fnOf "is_spanned" "is_spanned" (defArgs s_is_spanned) (defBody s_is_spanned) (defScope s_is_spanned) .none kVF_is_spanned dcF_is_spanned pmF_is_spanned anF_is_spanned cdF_is_spanned ctF_is_spanned), slF_is_spanned⟩)
    (cF_is_spanned : PySem.W.codeIn K cdF_is_spanned "is_spanned" = true)
    (kF_is_spanned : PySem.W.keepIn K (.ref fF_is_spanned) = true)
    (aF_half_says : PySem.W.nsIn K mainGlobals "_half_says" = some (some (.ref fF_half_says)))
    (lF_half_says : K.lookup fF_half_says = some ⟨ocF_half_says, odF_half_says, .func (PySem.W.fnOf "_half_says" "_half_says" (defArgs s_half_says) (defBody s_half_says) (defScope s_half_says) .none kVF_half_says dcF_half_says pmF_half_says anF_half_says cdF_half_says ctF_half_says), slF_half_says⟩)
    (cF_half_says : PySem.W.codeIn K cdF_half_says "_half_says" = true)
    (kF_half_says : PySem.W.keepIn K (.ref fF_half_says) = true)
    (aF_box_says : PySem.W.nsIn K mainGlobals "_box_says" = some (some (.ref fF_box_says)))
    (lF_box_says : K.lookup fF_box_says = some ⟨ocF_box_says, odF_box_says, .func (PySem.W.fnOf "_box_says" "_box_says" (defArgs s_box_says) (defBody s_box_says) (defScope s_box_says) .none kVF_box_says dcF_box_says pmF_box_says anF_box_says cdF_box_says ctF_box_says), slF_box_says⟩)
    (cF_box_says : PySem.W.codeIn K cdF_box_says "_box_says" = true)
    (kF_box_says : PySem.W.keepIn K (.ref fF_box_says) = true)
    (aF_lies_between : PySem.W.nsIn K mainGlobals "_lies_between" = some (some (.ref fF_lies_between)))
    (lF_lies_between : K.lookup fF_lies_between = some ⟨ocF_lies_between, odF_lies_between, .func (PySem.W.fnOf "_lies_between" "_lies_between" (defArgs s_lies_between) (defBody s_lies_between) (defScope s_lies_between) .none kVF_lies_between dcF_lies_between pmF_lies_between anF_lies_between cdF_lies_between ctF_lies_between), slF_lies_between⟩)
    (cF_lies_between : PySem.W.codeIn K cdF_lies_between "_lies_between" = true)
    (kF_lies_between : PySem.W.keepIn K (.ref fF_lies_between) = true)
    (aF_rise_says : PySem.W.nsIn K mainGlobals "_rise_says" = some (some (.ref fF_rise_says)))
    (lF_rise_says : K.lookup fF_rise_says = some ⟨ocF_rise_says, odF_rise_says, .func (PySem.W.fnOf "_rise_says" "_rise_says" (defArgs s_rise_says) (defBody s_rise_says) (defScope s_rise_says) .none kVF_rise_says dcF_rise_says pmF_rise_says anF_rise_says cdF_rise_says ctF_rise_says), slF_rise_says⟩)
    (cF_rise_says : PySem.W.codeIn K cdF_rise_says "_rise_says" = true)
    (kF_rise_says : PySem.W.keepIn K (.ref fF_rise_says) = true)
    (aF_lies_above : PySem.W.nsIn K mainGlobals "_lies_above" = some (some (.ref fF_lies_above)))
    (lF_lies_above : K.lookup fF_lies_above = some ⟨ocF_lies_above, odF_lies_above, .func (PySem.W.fnOf "_lies_above" "_lies_above" (defArgs s_lies_above) (defBody s_lies_above) (defScope s_lies_above) .none kVF_lies_above dcF_lies_above pmF_lies_above anF_lies_above cdF_lies_above ctF_lies_above), slF_lies_above⟩)
    (cF_lies_above : PySem.W.codeIn K cdF_lies_above "_lies_above" = true)
    (kF_lies_above : PySem.W.keepIn K (.ref fF_lies_above) = true)
    (aF_flat_says : PySem.W.nsIn K mainGlobals "_flat_says" = some (some (.ref fF_flat_says)))
    (lF_flat_says : K.lookup fF_flat_says = some ⟨ocF_flat_says, odF_flat_says, .func (PySem.W.fnOf "_flat_says" "_flat_says" (defArgs s_flat_says) (defBody s_flat_says) (defScope s_flat_says) .none kVF_flat_says dcF_flat_says pmF_flat_says anF_flat_says cdF_flat_says ctF_flat_says), slF_flat_says⟩)
    (cF_flat_says : PySem.W.codeIn K cdF_flat_says "_flat_says" = true)
    (kF_flat_says : PySem.W.keepIn K (.ref fF_flat_says) = true)
    (aF_turns_says : PySem.W.nsIn K mainGlobals "_turns_says" = some (some (.ref fF_turns_says)))
    (lF_turns_says : K.lookup fF_turns_says = some ⟨ocF_turns_says, odF_turns_says, .func (PySem.W.fnOf "_turns_says" "_turns_says" (defArgs s_turns_says) (defBody s_turns_says) (defScope s_turns_says) .none kVF_turns_says dcF_turns_says pmF_turns_says anF_turns_says cdF_turns_says ctF_turns_says), slF_turns_says⟩)
    (cF_turns_says : PySem.W.codeIn K cdF_turns_says "_turns_says" = true)
    (kF_turns_says : PySem.W.keepIn K (.ref fF_turns_says) = true)
    (aF_says : PySem.W.nsIn K mainGlobals "says" = some (some (.ref fF_says)))
    (lF_says : K.lookup fF_says = some ⟨ocF_says, odF_says, .func (PySem.W.fnOf "says" "says" (defArgs s_says) (defBody s_says) (defScope s_says) .none kVF_says dcF_says pmF_says anF_says cdF_says ctF_says), slF_says⟩)
    (cF_says : PySem.W.codeIn K cdF_says "says" = true)
    (kF_says : PySem.W.keepIn K (.ref fF_says) = true)
    (aL_source : PySem.W.nsIn K mainGlobals "_law_source" = some (some (.ref fL_source)))
    (lL_source : K.lookup fL_source = some ⟨ocL_source, odL_source, .func (PySem.W.fnOf "_law_source" "_law_source" (defArgs s_source) (defBody s_source) (defScope s_source) .none kVL_source dcL_source pmL_source anL_source cdL_source ctL_source), slL_source⟩)
    (cL_source : PySem.W.codeIn K cdL_source "_law_source" = true)
    (kL_source : PySem.W.keepIn K (.ref fL_source) = true)
    (aL_draw : PySem.W.nsIn K mainGlobals "_law_draw" = some (some (.ref fL_draw)))
    (lL_draw : K.lookup fL_draw = some ⟨ocL_draw, odL_draw, .func (PySem.W.fnOf "_law_draw" "_law_draw" (defArgs s_draw) (defBody s_draw) (defScope s_draw) .none kVL_draw dcL_draw pmL_draw anL_draw cdL_draw ctL_draw), slL_draw⟩)
    (cL_draw : PySem.W.codeIn K cdL_draw "_law_draw" = true)
    (kL_draw : PySem.W.keepIn K (.ref fL_draw) = true)
    (aL_pick : PySem.W.nsIn K mainGlobals "_law_pick" = some (some (.ref fL_pick)))
    (lL_pick : K.lookup fL_pick = some ⟨ocL_pick, odL_pick, .func (PySem.W.fnOf "_law_pick" "_law_pick" (defArgs s_pick) (defBody s_pick) (defScope s_pick) .none kVL_pick dcL_pick pmL_pick anL_pick cdL_pick ctL_pick), slL_pick⟩)
    (cL_pick : PySem.W.codeIn K cdL_pick "_law_pick" = true)
    (kL_pick : PySem.W.keepIn K (.ref fL_pick) = true)
    (aL_same : PySem.W.nsIn K mainGlobals "_law_same" = some (some (.ref fL_same)))
    (lL_same : K.lookup fL_same = some ⟨ocL_same, odL_same, .func (PySem.W.fnOf "_law_same" "_law_same" (defArgs s_same) (defBody s_same) (defScope s_same) .none kVL_same dcL_same pmL_same anL_same cdL_same ctL_same), slL_same⟩)
    (cL_same : PySem.W.codeIn K cdL_same "_law_same" = true)
    (kL_same : PySem.W.keepIn K (.ref fL_same) = true)
    (aL_point : PySem.W.nsIn K mainGlobals "_law_point" = some (some (.ref fL_point)))
    (lL_point : K.lookup fL_point = some ⟨ocL_point, odL_point, .func (PySem.W.fnOf "_law_point" "_law_point" (defArgs s_point) (defBody s_point) (defScope s_point) .none kVL_point dcL_point pmL_point anL_point cdL_point ctL_point), slL_point⟩)
    (cL_point : PySem.W.codeIn K cdL_point "_law_point" = true)
    (kL_point : PySem.W.keepIn K (.ref fL_point) = true)
    (aL_plain : PySem.W.nsIn K mainGlobals "_law_plain" = some (some (.ref fL_plain)))
    (lL_plain : K.lookup fL_plain = some ⟨ocL_plain, odL_plain, .func (PySem.W.fnOf "_law_plain" "_law_plain" (defArgs s_plain) (defBody s_plain) (defScope s_plain) .none kVL_plain dcL_plain pmL_plain anL_plain cdL_plain ctL_plain), slL_plain⟩)
    (cL_plain : PySem.W.codeIn K cdL_plain "_law_plain" = true)
    (kL_plain : PySem.W.keepIn K (.ref fL_plain) = true)
    (aL_spec : PySem.W.nsIn K mainGlobals "_law_spec" = some (some (.ref fL_spec)))
    (lL_spec : K.lookup fL_spec = some ⟨ocL_spec, odL_spec, .func (PySem.W.fnOf "_law_spec" "_law_spec" (defArgs s_spec) (defBody s_spec) (defScope s_spec) .none kVL_spec dcL_spec pmL_spec anL_spec cdL_spec ctL_spec), slL_spec⟩)
    (cL_spec : PySem.W.codeIn K cdL_spec "_law_spec" = true)
    (kL_spec : PySem.W.keepIn K (.ref fL_spec) = true)
    (aL_relations : PySem.W.nsIn K mainGlobals "_law_relations" = some (some (.ref fL_relations)))
    (lL_relations : K.lookup fL_relations = some ⟨ocL_relations, odL_relations, .func (PySem.W.fnOf "_law_relations" "_law_relations" (defArgs s_relations) (defBody s_relations) (defScope s_relations) .none kVL_relations dcL_relations pmL_relations anL_relations cdL_relations ctL_relations), slL_relations⟩)
    (cL_relations : PySem.W.codeIn K cdL_relations "_law_relations" = true)
    (kL_relations : PySem.W.keepIn K (.ref fL_relations) = true)
    (aL_rule : PySem.W.nsIn K mainGlobals "_law_rule" = some (some (.ref fL_rule)))
    (lL_rule : K.lookup fL_rule = some ⟨ocL_rule, odL_rule, .func (PySem.W.fnOf "_law_rule" "_law_rule" (defArgs s_rule) (defBody s_rule) (defScope s_rule) .none kVL_rule dcL_rule pmL_rule anL_rule cdL_rule ctL_rule), slL_rule⟩)
    (cL_rule : PySem.W.codeIn K cdL_rule "_law_rule" = true)
    (kL_rule : PySem.W.keepIn K (.ref fL_rule) = true)
    (aL_range : PySem.W.nsIn K mainGlobals "_law_range" = some (some (.ref fL_range)))
    (lL_range : K.lookup fL_range = some ⟨ocL_range, odL_range, .func (PySem.W.fnOf "_law_range" "_law_range" (defArgs s_range) (defBody s_range) (defScope s_range) .none kVL_range dcL_range pmL_range anL_range cdL_range ctL_range), slL_range⟩)
    (cL_range : PySem.W.codeIn K cdL_range "_law_range" = true)
    (kL_range : PySem.W.keepIn K (.ref fL_range) = true)
    (aL_corner : PySem.W.nsIn K mainGlobals "_law_corner" = some (some (.ref fL_corner)))
    (lL_corner : K.lookup fL_corner = some ⟨ocL_corner, odL_corner, .func (PySem.W.fnOf "_law_corner" "_law_corner" (defArgs s_corner) (defBody s_corner) (defScope s_corner) .none kVL_corner dcL_corner pmL_corner anL_corner cdL_corner ctL_corner), slL_corner⟩)
    (cL_corner : PySem.W.codeIn K cdL_corner "_law_corner" = true)
    (kL_corner : PySem.W.keepIn K (.ref fL_corner) = true)
    (aL_Lsays : PySem.W.nsIn K mainGlobals "_law_says" = some (some (.ref fL_Lsays)))
    (lL_Lsays : K.lookup fL_Lsays = some ⟨ocL_Lsays, odL_Lsays, .func (PySem.W.fnOf "_law_says" "_law_says" (defArgs s_Lsays) (defBody s_Lsays) (defScope s_Lsays) .none kVL_Lsays dcL_Lsays pmL_Lsays anL_Lsays cdL_Lsays ctL_Lsays), slL_Lsays⟩)
    (cL_Lsays : PySem.W.codeIn K cdL_Lsays "_law_says" = true)
    (kL_Lsays : PySem.W.keepIn K (.ref fL_Lsays) = true)
    (aL_part : PySem.W.nsIn K mainGlobals "_law_part" = some (some (.ref fL_part)))
    (lL_part : K.lookup fL_part = some ⟨ocL_part, odL_part, .func (PySem.W.fnOf "_law_part" "_law_part" (defArgs s_part) (defBody s_part) (defScope s_part) .none kVL_part dcL_part pmL_part anL_part cdL_part ctL_part), slL_part⟩)
    (cL_part : PySem.W.codeIn K cdL_part "_law_part" = true)
    (kL_part : PySem.W.keepIn K (.ref fL_part) = true)
    (aL_joint : PySem.W.nsIn K mainGlobals "_law_joint" = some (some (.ref fL_joint)))
    (lL_joint : K.lookup fL_joint = some ⟨ocL_joint, odL_joint, .func (PySem.W.fnOf "_law_joint" "_law_joint" (defArgs s_joint) (defBody s_joint) (defScope s_joint) .none kVL_joint dcL_joint pmL_joint anL_joint cdL_joint ctL_joint), slL_joint⟩)
    (cL_joint : PySem.W.codeIn K cdL_joint "_law_joint" = true)
    (kL_joint : PySem.W.keepIn K (.ref fL_joint) = true)
    (aL_pair : PySem.W.nsIn K mainGlobals "_law_pair" = some (some (.ref fL_pair)))
    (lL_pair : K.lookup fL_pair = some ⟨ocL_pair, odL_pair, .func (PySem.W.fnOf "_law_pair" "_law_pair" (defArgs s_pair) (defBody s_pair) (defScope s_pair) .none kVL_pair dcL_pair pmL_pair anL_pair cdL_pair ctL_pair), slL_pair⟩)
    (cL_pair : PySem.W.codeIn K cdL_pair "_law_pair" = true)
    (kL_pair : PySem.W.keepIn K (.ref fL_pair) = true)
    (aL_listed : PySem.W.nsIn K mainGlobals "_law_listed" = some (some (.ref fL_listed)))
    (lL_listed : K.lookup fL_listed = some ⟨ocL_listed, odL_listed, .func (PySem.W.fnOf "_law_listed" "_law_listed" (defArgs s_listed) (defBody s_listed) (defScope s_listed) .none kVL_listed dcL_listed pmL_listed anL_listed cdL_listed ctL_listed), slL_listed⟩)
    (cL_listed : PySem.W.codeIn K cdL_listed "_law_listed" = true)
    (kL_listed : PySem.W.keepIn K (.ref fL_listed) = true)
    (aL_law : PySem.W.nsIn K mainGlobals "law" = some (some (.ref fL_law)))
    (lL_law : K.lookup fL_law = some ⟨ocL_law, odL_law, .func (PySem.W.fnOf "law" "law" (defArgs s_law) (defBody s_law) (defScope s_law) .none kVL_law dcL_law pmL_law anL_law cdL_law ctL_law), slL_law⟩)
    (cL_law : PySem.W.codeIn K cdL_law "law" = true)
    (kL_law : PySem.W.keepIn K (.ref fL_law) = true)
    (aDP : PySem.W.nsIn K mainGlobals "_PLAIN" = some (some (.ref DP)))
    (lDP : K.lookup DP = some ⟨.type "dict", none, .dict esD nD, #[]⟩)
    (d_half : PySem.W.nsIn K DP "half" = some (some (.ref fF_half_says)))
    (d_box : PySem.W.nsIn K DP "box" = some (some (.ref fF_box_says)))
    (d_rise : PySem.W.nsIn K DP "rise" = some (some (.ref fF_rise_says)))
    (d_flat : PySem.W.nsIn K DP "flat" = some (some (.ref fF_flat_says)))
    (d_turns : PySem.W.nsIn K DP "turns" = some (some (.ref fF_turns_says)))
    (litD : PySem.W.KeysLit w.params esD.toList)
    (nd : [fF_half_says, fF_box_says, fF_rise_says, fF_flat_says, fF_turns_says].Nodup)
    (z_len : PySem.W.nsIn K mainGlobals "len" = some none)
    (z_int : PySem.W.nsIn K mainGlobals "int" = some none)
    (z_isinstance : PySem.W.nsIn K mainGlobals "isinstance" = some none)
    (z_list : PySem.W.nsIn K mainGlobals "list" = some none)
    (z_tuple : PySem.W.nsIn K mainGlobals "tuple" = some none)
    (z_bool : PySem.W.nsIn K mainGlobals "bool" = some none)
    (z_all : PySem.W.nsIn K mainGlobals "all" = some none)
    (z_zip : PySem.W.nsIn K mainGlobals "zip" = some none)
    (z_range : PySem.W.nsIn K mainGlobals "range" = some none)
    (z_enumerate : PySem.W.nsIn K mainGlobals "enumerate" = some none)
    (z_sum : PySem.W.nsIn K mainGlobals "sum" = some none)
    (z_any : PySem.W.nsIn K mainGlobals "any" = some none)
    (z_sorted : PySem.W.nsIn K mainGlobals "sorted" = some none)
    (z_set : PySem.W.nsIn K mainGlobals "set" = some none)
    (z_repr : PySem.W.nsIn K mainGlobals "repr" = some none) :
    ∀ (s : Shared) (a : Addr) (ns : List Int), s.heap = h → ns.length ≤ 63 → UG.AtTop l.prog w K mg fa a ns s := by
  have e := hfa.symm.trans (PySem.W.mg_of X G aL_law)
  cases e
  have M : ∀ {x : Str} {f : Addr}, PySem.W.nsIn K mainGlobals x = some (some (.ref f)) → mg x = some (.ref f) := fun q => PySem.W.mg_of X G q
  have T : TxW mg := { m_len := PySem.W.mg_none_of X G z_len, m_int := PySem.W.mg_none_of X G z_int, m_isinstance := PySem.W.mg_none_of X G z_isinstance, m_list := PySem.W.mg_none_of X G z_list, m_tuple := PySem.W.mg_none_of X G z_tuple, m_bool := PySem.W.mg_none_of X G z_bool, m_all := PySem.W.mg_none_of X G z_all, m_zip := PySem.W.mg_none_of X G z_zip, m_range := PySem.W.mg_none_of X G z_range, m_enumerate := PySem.W.mg_none_of X G z_enumerate, m_sum := PySem.W.mg_none_of X G z_sum, m_any := PySem.W.mg_none_of X G z_any, m_sorted := PySem.W.mg_none_of X G z_sorted, m_set := PySem.W.mg_none_of X G z_set, m_repr := PySem.W.mg_none_of X G z_repr }
  have GF_lead_of := fun_mk (st := s_lead_of) lF_lead_of cF_lead_of kF_lead_of
  have bF_lead_of := GF_lead_of.binds (ps := ["row"]) fun _ _ _ _ _ _ us hl => match us, hl with | [_], _ => rfl
  have GF_reduced := fun_mk (st := s_reduced) lF_reduced cF_reduced kF_reduced
  have bF_reduced := GF_reduced.binds (ps := ["row", "basis"]) fun _ _ _ _ _ _ us hl => match us, hl with | [_, _], _ => rfl
  have GF_basis_of := fun_mk (st := s_basis_of) lF_basis_of cF_basis_of kF_basis_of
  have bF_basis_of := GF_basis_of.binds (ps := ["rows", "width"]) fun _ _ _ _ _ _ us hl => match us, hl with | [_, _], _ => rfl
  have GF_is_spanned := fun_mk (st := s_is_spanned) lF_is_spanned cF_is_spanned kF_is_spanned
  have bF_is_spanned := GF_is_spanned.binds (ps := ["row", "rows"]) fun _ _ _ _ _ _ us hl => match us, hl with | [_, _], _ => rfl
  have GF_half_says := fun_mk (st := s_half_says) lF_half_says cF_half_says kF_half_says
  have bF_half_says := GF_half_says.binds (ps := ["rule", "point"]) fun _ _ _ _ _ _ us hl => match us, hl with | [_, _], _ => rfl
  have GF_box_says := fun_mk (st := s_box_says) lF_box_says cF_box_says kF_box_says
  have bF_box_says := GF_box_says.binds (ps := ["rule", "point"]) fun _ _ _ _ _ _ us hl => match us, hl with | [_, _], _ => rfl
  have GF_lies_between := fun_mk (st := s_lies_between) lF_lies_between cF_lies_between kF_lies_between
  have bF_lies_between := GF_lies_between.binds (ps := ["entry", "low", "high"]) fun _ _ _ _ _ _ us hl => match us, hl with | [_, _, _], _ => rfl
  have GF_rise_says := fun_mk (st := s_rise_says) lF_rise_says cF_rise_says kF_rise_says
  have bF_rise_says := GF_rise_says.binds (ps := ["rule", "point"]) fun _ _ _ _ _ _ us hl => match us, hl with | [_, _], _ => rfl
  have GF_lies_above := fun_mk (st := s_lies_above) lF_lies_above cF_lies_above kF_lies_above
  have bF_lies_above := GF_lies_above.binds (ps := ["point", "corner"]) fun _ _ _ _ _ _ us hl => match us, hl with | [_, _], _ => rfl
  have GF_flat_says := fun_mk (st := s_flat_says) lF_flat_says cF_flat_says kF_flat_says
  have bF_flat_says := GF_flat_says.binds (ps := ["rule", "point"]) fun _ _ _ _ _ _ us hl => match us, hl with | [_, _], _ => rfl
  have GF_turns_says := fun_mk (st := s_turns_says) lF_turns_says cF_turns_says kF_turns_says
  have bF_turns_says := GF_turns_says.binds (ps := ["rule", "point"]) fun _ _ _ _ _ _ us hl => match us, hl with | [_, _], _ => rfl
  have GF_says := fun_mk (st := s_says) lF_says cF_says kF_says
  have bF_says := GF_says.binds (ps := ["rule", "point"]) fun _ _ _ _ _ _ us hl => match us, hl with | [_, _], _ => rfl
  have GL_source := fun_mk (st := s_source) lL_source cL_source kL_source
  have bL_source := GL_source.binds (ps := ["_law_script", "_law_at"]) fun _ _ _ _ _ _ us hl => match us, hl with | [_, _], _ => rfl
  have GL_draw := fun_mk (st := s_draw) lL_draw cL_draw kL_draw
  have bL_draw := GL_draw.binds (ps := ["_law_draws", "_law_many"]) fun _ _ _ _ _ _ us hl => match us, hl with | [_, _], _ => rfl
  have GL_pick := fun_mk (st := s_pick) lL_pick cL_pick kL_pick
  have bL_pick := GL_pick.binds (ps := ["_law_draws", "_law_things"]) fun _ _ _ _ _ _ us hl => match us, hl with | [_, _], _ => rfl
  have GL_same := fun_mk (st := s_same) lL_same cL_same kL_same
  have bL_same := GL_same.binds (ps := ["_law_found", "_law_due"]) fun _ _ _ _ _ _ us hl => match us, hl with | [_, _], _ => rfl
  have GL_point := fun_mk (st := s_point) lL_point cL_point kL_point
  have bL_point := GL_point.binds (ps := ["_law_draws", "_law_places", "_law_wide"]) fun _ _ _ _ _ _ us hl => match us, hl with | [_, _, _], _ => rfl
  have GL_plain := fun_mk (st := s_plain) lL_plain cL_plain kL_plain
  have bL_plain := GL_plain.binds (ps := ["_law_draws", "_law_places"]) fun _ _ _ _ _ _ us hl => match us, hl with | [_, _], _ => rfl
  have GL_spec := fun_mk (st := s_spec) lL_spec cL_spec kL_spec
  have bL_spec := GL_spec.binds (ps := ["_law_draws", "_law_places", "_law_deep"]) fun _ _ _ _ _ _ us hl => match us, hl with | [_, _, _], _ => rfl
  have GL_relations := fun_mk (st := s_relations) lL_relations cL_relations kL_relations
  have bL_relations := GL_relations.binds (ps := ["_law_points"]) fun _ _ _ _ _ _ us hl => match us, hl with | [_], _ => rfl
  have GL_rule := fun_mk (st := s_rule) lL_rule cL_rule kL_rule
  have bL_rule := GL_rule.binds (ps := ["_law_draws", "_law_spec_here", "_law_wide"]) fun _ _ _ _ _ _ us hl => match us, hl with | [_, _, _], _ => rfl
  have GL_range := fun_mk (st := s_range) lL_range cL_range kL_range
  have bL_range := GL_range.binds (ps := ["_law_draws", "_law_wide"]) fun _ _ _ _ _ _ us hl => match us, hl with | [_, _], _ => rfl
  have GL_corner := fun_mk (st := s_corner) lL_corner cL_corner kL_corner
  have bL_corner := GL_corner.binds (ps := ["_law_draws", "_law_places", "_law_wide"]) fun _ _ _ _ _ _ us hl => match us, hl with | [_, _, _], _ => rfl
  have GL_Lsays := fun_mk (st := s_Lsays) lL_Lsays cL_Lsays kL_Lsays
  have bL_Lsays := GL_Lsays.binds (ps := ["_law_rule_here", "_law_point_here"]) fun _ _ _ _ _ _ us hl => match us, hl with | [_, _], _ => rfl
  have GL_part := fun_mk (st := s_part) lL_part cL_part kL_part
  have bL_part := GL_part.binds (ps := ["_law_draws", "_law_places"]) fun _ _ _ _ _ _ us hl => match us, hl with | [_, _], _ => rfl
  have GL_joint := fun_mk (st := s_joint) lL_joint cL_joint kL_joint
  have bL_joint := GL_joint.binds (ps := ["_law_draws", "_law_places", "_law_deep"]) fun _ _ _ _ _ _ us hl => match us, hl with | [_, _, _], _ => rfl
  have GL_pair := fun_mk (st := s_pair) lL_pair cL_pair kL_pair
  have bL_pair := GL_pair.binds (ps := ["_law_draws", "_law_places", "_law_deep"]) fun _ _ _ _ _ _ us hl => match us, hl with | [_, _, _], _ => rfl
  have GL_listed := fun_mk (st := s_listed) lL_listed cL_listed kL_listed
  have bL_listed := GL_listed.binds (ps := ["_law_thing"]) fun _ _ _ _ _ _ us hl => match us, hl with | [_], _ => rfl
  have GL_law := fun_mk (st := s_law) lL_law cL_law kL_law
  intro s a ns hs hlen
  subst hs
  refine UG.atTop_of (k := 12) (N := sc_law_N) (x := "_law_script") GL_law sc_law (.of_eq rfl) ⟨by decide, by decide, by decide⟩ fun base cdv H hr hS => ?_
  have D_lead : DefAt l.prog w K mg base "lead_of" 1 ["row"] (spLead K) := ⟨_, _, ok_lead GF_lead_of T.toTxP, M aF_lead_of, kF_lead_of, bF_lead_of⟩
  have D_red : DefAt l.prog w K mg base "reduced" 1 ["row", "basis"] (spRed K) := ⟨_, _, ok_reduced GF_reduced T.toTxP, M aF_reduced, kF_reduced, bF_reduced⟩
  have D_bas : DefAt l.prog w K mg base "basis_of" 2 ["rows", "width"] (spBas K) := ⟨_, _, ok_basis GF_basis_of T.toTxP D_lead D_red, M aF_basis_of, kF_basis_of, bF_basis_of⟩
  have D_span : DefAt l.prog w K mg base "is_spanned" 3 ["row", "rows"] (spSpan K) := ⟨_, _, ok_spanned GF_is_spanned T.toTxP D_lead D_red D_bas, M aF_is_spanned, kF_is_spanned, bF_is_spanned⟩
  have D_half : DefAt l.prog w K mg base "_half_says" 1 ["rule", "point"] (spHalf K) := ⟨_, _, ok_half GF_half_says T.toTxR, M aF_half_says, kF_half_says, bF_half_says⟩
  have D_bet : DefAt l.prog w K mg base "_lies_between" 1 ["entry", "low", "high"] (spBetween) := ⟨_, _, ok_between GF_lies_between T.toTxR, M aF_lies_between, kF_lies_between, bF_lies_between⟩
  have D_box : DefAt l.prog w K mg base "_box_says" 2 ["rule", "point"] (spBox K) := ⟨_, _, ok_box GF_box_says T.toTxR D_bet, M aF_box_says, kF_box_says, bF_box_says⟩
  have D_abo : DefAt l.prog w K mg base "_lies_above" 1 ["point", "corner"] (spAbove K) := ⟨_, _, ok_above GF_lies_above T.toTxR, M aF_lies_above, kF_lies_above, bF_lies_above⟩
  have D_rise : DefAt l.prog w K mg base "_rise_says" 2 ["rule", "point"] (spRise K) := ⟨_, _, ok_rise GF_rise_says T.toTxR D_abo, M aF_rise_says, kF_rise_says, bF_rise_says⟩
  have D_flat : DefAt l.prog w K mg base "_flat_says" 4 ["rule", "point"] (spFlat K) := ⟨_, _, ok_flat GF_flat_says T.toTxR D_span, M aF_flat_says, kF_flat_says, bF_flat_says⟩
  have D_turns : DefAt l.prog w K mg base "_turns_says" 1 ["rule", "point"] (spTurns K) := ⟨_, _, ok_turnsS GF_turns_says T.toTxR, M aF_turns_says, kF_turns_says, bF_turns_says⟩
  have KD : ∀ {x : Str} {f : Addr}, PySem.W.nsIn K DP x = some (some (.ref f)) → KDct K w DP x (.ref f) := fun q => ⟨_, _, _, lDP, litD, q, rfl⟩
  have held : ∀ f sp, tabS K fF_half_says fF_box_says fF_rise_says fF_flat_says fF_turns_says f = some sp → Held l.prog w K mg base 4 f sp := fun f sp hq => by
    unfold tabS at hq
    split at hq
    · rename_i e; subst e; cases hq; exact ⟨_, _, (ok_half GF_half_says T.toTxR).mono (by decide), kF_half_says, bF_half_says⟩
    split at hq
    · rename_i e; subst e; cases hq; exact ⟨_, _, (ok_box GF_box_says T.toTxR D_bet).mono (by decide), kF_box_says, bF_box_says⟩
    split at hq
    · rename_i e; subst e; cases hq; exact ⟨_, _, (ok_rise GF_rise_says T.toTxR D_abo).mono (by decide), kF_rise_says, bF_rise_says⟩
    split at hq
    · rename_i e; subst e; cases hq; exact ⟨_, _, (ok_flat GF_flat_says T.toTxR D_span).mono (by decide), kF_flat_says, bF_flat_says⟩
    split at hq
    · rename_i e; subst e; cases hq; exact ⟨_, _, (ok_turnsS GF_turns_says T.toTxR).mono (by decide), kF_turns_says, bF_turns_says⟩
    · cases hq
  have Y : PlainT l.prog w K mg base DP fF_half_says fF_box_says fF_rise_says fF_flat_says fF_turns_says := ⟨M aDP, held, KD d_half, KD d_box, KD d_rise, KD d_flat, KD d_turns, nd⟩
  have D_says : ∀ n, DefAt l.prog w K mg base "says" (n + 4) ["rule", "point"] (spSaysP K n) := fun n => by
    induction n with
    | zero => exact ⟨_, _, ⟨fun _ _ _ _ h => h.elim, fun _ _ _ _ _ _ _ _ _ _ _ _ _ h => h.elim⟩, M aF_says, kF_says, bF_says⟩
    | succ n ih => exact ⟨_, _, says_body GF_says T.toTxR Y n ih, M aF_says, kF_says, bF_says⟩
  have D_source : DefAt l.prog w K mg base "_law_source" 1 ["_law_script", "_law_at"] (spSource K) := ⟨_, _, ok_source GL_source T.toTxB, M aL_source, kL_source, bL_source⟩
  have D_draw : DefAt l.prog w K mg base "_law_draw" 1 ["_law_draws", "_law_many"] (spDraw) := ⟨_, _, ok_draw GL_draw T.toTxB, M aL_draw, kL_draw, bL_draw⟩
  have D_pick : DefAt l.prog w K mg base "_law_pick" 2 ["_law_draws", "_law_things"] (spPick K) := ⟨_, _, ok_pick GL_pick T.toTxB D_draw, M aL_pick, kL_pick, bL_pick⟩
  have D_pickT : DefAt l.prog w K mg base "_law_pick" 2 ["_law_draws", "_law_things"] (spPickT K) := ⟨_, _, ok_pickT GL_pick T.toTxB D_draw, M aL_pick, kL_pick, bL_pick⟩
  have D_same : ∀ n, DefAt l.prog w K mg base "_law_same" n ["_law_found", "_law_due"] (spPrev K n) := fun n => by
    induction n with
    | zero => exact ⟨_, _, ⟨fun _ _ _ _ h => h.elim, fun _ _ _ _ _ _ _ _ _ _ _ _ _ h => h.elim⟩, M aL_same, kL_same, bL_same⟩
    | succ n ih => exact ⟨_, _, same_body GL_same T.toTxB n ih, M aL_same, kL_same, bL_same⟩
  have D_point : DefAt l.prog w K mg base "_law_point" 2 ["_law_draws", "_law_places", "_law_wide"] (spPoint K) := ⟨_, _, ok_point GL_point T.toTxR D_draw, M aL_point, kL_point, bL_point⟩
  have D_corner : DefAt l.prog w K mg base "_law_corner" 2 ["_law_draws", "_law_places", "_law_wide"] (spCorner K) := ⟨_, _, ok_corner GL_corner T.toTxR D_draw, M aL_corner, kL_corner, bL_corner⟩
  have D_range : DefAt l.prog w K mg base "_law_range" 3 ["_law_draws", "_law_wide"] (spRange K) := ⟨_, _, ok_range GL_range T.toTxR D_draw D_point, M aL_range, kL_range, bL_range⟩
  have D_plain : DefAt l.prog w K mg base "_law_plain" 3 ["_law_draws", "_law_places"] (spPlain K) := ⟨_, _, ok_plain GL_plain T.toTxR D_draw D_pick, M aL_plain, kL_plain, bL_plain⟩
  have D_part : DefAt l.prog w K mg base "_law_part" 3 ["_law_draws", "_law_places"] (spPlain K) := ⟨_, _, ok_part GL_part T.toTxR D_draw D_pick, M aL_part, kL_part, bL_part⟩
  have D_relations : DefAt l.prog w K mg base "_law_relations" 1 ["_law_points"] (spRel K) := ⟨_, _, ok_relations GL_relations T.toTxR, M aL_relations, kL_relations, bL_relations⟩
  have D_joint : ∀ n, DefAt l.prog w K mg base "_law_joint" (2 * n + 2) ["_law_draws", "_law_places", "_law_deep"] (spJointP K n) ∧ DefAt l.prog w K mg base "_law_pair" (2 * n + 3) ["_law_draws", "_law_places", "_law_deep"] (spPair K n) := fun n => by
    induction n with
    | zero => exact ⟨⟨_, _, ⟨fun _ _ _ _ h => h.elim, fun _ _ _ _ _ _ _ _ _ _ _ _ _ h => h.elim⟩, M aL_joint, kL_joint, bL_joint⟩, ⟨_, _, ⟨fun _ _ _ _ h => h.elim, fun _ _ _ _ _ _ _ _ _ _ _ _ _ h => h.elim⟩, M aL_pair, kL_pair, bL_pair⟩⟩
    | succ n ih =>
      have J : DefAt l.prog w K mg base "_law_joint" (2 * n + 4) ["_law_draws", "_law_places", "_law_deep"] (spJoint K n) := ⟨_, _, joint_body GL_joint T.toTxR n D_draw D_pick D_part ih.1 ih.2, M aL_joint, kL_joint, bL_joint⟩
      exact ⟨J, ⟨_, _, pair_body GL_pair T.toTxR n D_draw D_part J, M aL_pair, kL_pair, bL_pair⟩⟩
  have D_spec : ∀ n, DefAt l.prog w K mg base "_law_spec" (2 * n + 2) ["_law_draws", "_law_places", "_law_deep"] (spJointP K n) := fun n => by
    induction n with
    | zero => exact ⟨_, _, ⟨fun _ _ _ _ h => h.elim, fun _ _ _ _ _ _ _ _ _ _ _ _ _ h => h.elim⟩, M aL_spec, kL_spec, bL_spec⟩
    | succ n ih => exact ⟨_, _, spec_body GL_spec T.toTxR n D_draw D_pick D_plain ih (D_joint n).2, M aL_spec, kL_spec, bL_spec⟩
  have D_rule : ∀ n, DefAt l.prog w K mg base "_law_rule" (n + 3) ["_law_draws", "_law_spec_here", "_law_wide"] (spDrawnP K n) := fun n => by
    induction n with
    | zero => exact ⟨_, _, ⟨fun _ _ _ _ h => h.elim, fun _ _ _ _ _ _ _ _ _ _ _ _ _ h => h.elim⟩, M aL_rule, kL_rule, bL_rule⟩
    | succ n ih => exact ⟨_, _, rule_body GL_rule T.toTxL n D_draw D_point D_corner D_range ih, M aL_rule, kL_rule, bL_rule⟩
  have D_Lsays : ∀ n, DefAt l.prog w K mg base "_law_says" (n + 1) ["_law_rule_here", "_law_point_here"] (spToldP K n) := fun n => by
    induction n with
    | zero => exact ⟨_, _, ⟨fun _ _ _ _ h => h.elim, fun _ _ _ _ _ _ _ _ _ _ _ _ _ h => h.elim⟩, M aL_Lsays, kL_Lsays, bL_Lsays⟩
    | succ n ih => exact ⟨_, _, told_body GL_Lsays T.toTxL n D_relations ih, M aL_Lsays, kL_Lsays, bL_Lsays⟩
  have D_listed : ∀ n, DefAt l.prog w K mg base "_law_listed" n ["_law_thing"] (spListedP K n) := fun n => by
    induction n with
    | zero => exact ⟨_, _, ⟨fun _ _ _ _ h => h.elim, fun _ _ _ _ _ _ _ _ _ _ _ _ _ h => h.elim⟩, M aL_listed, kL_listed, bL_listed⟩
    | succ n ih => exact ⟨_, _, listed_body GL_listed T.toTxR n ih, M aL_listed, kL_listed, bL_listed⟩
  exact law_body T (hr.mono (by decide)) D_source D_draw D_pickT D_point (D_spec 3) (D_rule 3) (D_Lsays 3) (D_says 3) (D_listed 6) (D_same 3) hS hlen
theorem walk {l : PySem.W.OpenLaw} {q : Program} {loose : List Str} {XP : (Str → Option Value) → Heap → Prop} {YP : World → Heap → Prop} {d : DefRec} {K : Params → PySem.W.Frag} (hn : l.most = some 63) (hdf : d.params.defaults = [])
    (hY : ∀ (w : World) (h : Heap), YP w h → (K w.params).In h)
    (F : ∀ (w : World) (mg : Str → Option Value) (fa : Addr) (h : Heap), (K w.params).In h → h.Ns mainGlobals mg → mg d.name = some (.ref fa) →
      ∀ (s : Shared) (a : Addr) (ns : List Int), s.heap = h → ns.length ≤ 63 → UG.AtTop l.prog w (K w.params) mg fa a ns s) :
    PySem.W.WalkO q loose XP YP l.row.toRowW d [] (fun f vs => PySem.call f vs) :=
  UG.walk_top (n := 63) hn (by decide) hdf hY F
end U

set_option Elab.async false
open PySem PySem.W PyProof.Rows in
set_option maxRecDepth 100000 in
set_option maxHeartbeats 0 in
theorem PySem.Challenge.cw_toldenough_k06_rules_said_holds : PySem.Challenge.rw_toldenough_k06_rules_said.Holds := by
  w_on; o_law; k_head; (case hw => w_witness2)
  k_fill
  refine U.walk (l := PySem.Challenge.rw_toldenough_k06_rules_said) rfl rfl (fun w h Y => PySem.W.kIn_of Y) ?F
  case F =>
    intro w mg fa h KX G hmg
    refine' U.all_mk KX G hmg ?aF_lead_of ?lF_lead_of ?cF_lead_of ?kF_lead_of ?aF_reduced ?lF_reduced ?cF_reduced ?kF_reduced ?aF_basis_of ?lF_basis_of ?cF_basis_of ?kF_basis_of ?aF_is_spanned ?lF_is_spanned ?cF_is_spanned ?kF_is_spanned ?aF_half_says ?lF_half_says ?cF_half_says ?kF_half_says ?aF_box_says ?lF_box_says ?cF_box_says ?kF_box_says ?aF_lies_between ?lF_lies_between ?cF_lies_between ?kF_lies_between ?aF_rise_says ?lF_rise_says ?cF_rise_says ?kF_rise_says ?aF_lies_above ?lF_lies_above ?cF_lies_above ?kF_lies_above ?aF_flat_says ?lF_flat_says ?cF_flat_says ?kF_flat_says ?aF_turns_says ?lF_turns_says ?cF_turns_says ?kF_turns_says ?aF_says ?lF_says ?cF_says ?kF_says ?aL_source ?lL_source ?cL_source ?kL_source ?aL_draw ?lL_draw ?cL_draw ?kL_draw ?aL_pick ?lL_pick ?cL_pick ?kL_pick ?aL_same ?lL_same ?cL_same ?kL_same ?aL_point ?lL_point ?cL_point ?kL_point ?aL_plain ?lL_plain ?cL_plain ?kL_plain ?aL_spec ?lL_spec ?cL_spec ?kL_spec ?aL_relations ?lL_relations ?cL_relations ?kL_relations ?aL_rule ?lL_rule ?cL_rule ?kL_rule ?aL_range ?lL_range ?cL_range ?kL_range ?aL_corner ?lL_corner ?cL_corner ?kL_corner ?aL_Lsays ?lL_Lsays ?cL_Lsays ?kL_Lsays ?aL_part ?lL_part ?cL_part ?kL_part ?aL_joint ?lL_joint ?cL_joint ?kL_joint ?aL_pair ?lL_pair ?cL_pair ?kL_pair ?aL_listed ?lL_listed ?cL_listed ?kL_listed ?aL_law ?lL_law ?cL_law ?kL_law ?aDP ?lDP ?d_half ?d_box ?d_rise ?d_flat ?d_turns ?litD ?nd ?z_len ?z_int ?z_isinstance ?z_list ?z_tuple ?z_bool ?z_all ?z_zip ?z_range ?z_enumerate ?z_sum ?z_any ?z_sorted ?z_set ?z_repr
    (case aF_lead_of => k_is)
    (case lF_lead_of => k_is)
    (case cF_lead_of => k_is)
    (case kF_lead_of => k_is)
    (case aF_reduced => k_is)
    (case lF_reduced => k_is)
    (case cF_reduced => k_is)
    (case kF_reduced => k_is)
    (case aF_basis_of => k_is)
    (case lF_basis_of => k_is)
    (case cF_basis_of => k_is)
    (case kF_basis_of => k_is)
    (case aF_is_spanned => k_is)
    (case lF_is_spanned => k_is)
    (case cF_is_spanned => k_is)
    (case kF_is_spanned => k_is)
    (case aF_half_says => k_is)
    (case lF_half_says => k_is)
    (case cF_half_says => k_is)
    (case kF_half_says => k_is)
    (case aF_box_says => k_is)
    (case lF_box_says => k_is)
    (case cF_box_says => k_is)
    (case kF_box_says => k_is)
    (case aF_lies_between => k_is)
    (case lF_lies_between => k_is)
    (case cF_lies_between => k_is)
    (case kF_lies_between => k_is)
    (case aF_rise_says => k_is)
    (case lF_rise_says => k_is)
    (case cF_rise_says => k_is)
    (case kF_rise_says => k_is)
    (case aF_lies_above => k_is)
    (case lF_lies_above => k_is)
    (case cF_lies_above => k_is)
    (case kF_lies_above => k_is)
    (case aF_flat_says => k_is)
    (case lF_flat_says => k_is)
    (case cF_flat_says => k_is)
    (case kF_flat_says => k_is)
    (case aF_turns_says => k_is)
    (case lF_turns_says => k_is)
    (case cF_turns_says => k_is)
    (case kF_turns_says => k_is)
    (case aF_says => k_is)
    (case lF_says => k_is)
    (case cF_says => k_is)
    (case kF_says => k_is)
    (case aL_source => k_is)
    (case lL_source => k_is)
    (case cL_source => k_is)
    (case kL_source => k_is)
    (case aL_draw => k_is)
    (case lL_draw => k_is)
    (case cL_draw => k_is)
    (case kL_draw => k_is)
    (case aL_pick => k_is)
    (case lL_pick => k_is)
    (case cL_pick => k_is)
    (case kL_pick => k_is)
    (case aL_same => k_is)
    (case lL_same => k_is)
    (case cL_same => k_is)
    (case kL_same => k_is)
    (case aL_point => k_is)
    (case lL_point => k_is)
    (case cL_point => k_is)
    (case kL_point => k_is)
    (case aL_plain => k_is)
    (case lL_plain => k_is)
    (case cL_plain => k_is)
    (case kL_plain => k_is)
    (case aL_spec => k_is)
    (case lL_spec => k_is)
    (case cL_spec => k_is)
    (case kL_spec => k_is)
    (case aL_relations => k_is)
    (case lL_relations => k_is)
    (case cL_relations => k_is)
    (case kL_relations => k_is)
    (case aL_rule => k_is)
    (case lL_rule => k_is)
    (case cL_rule => k_is)
    (case kL_rule => k_is)
    (case aL_range => k_is)
    (case lL_range => k_is)
    (case cL_range => k_is)
    (case kL_range => k_is)
    (case aL_corner => k_is)
    (case lL_corner => k_is)
    (case cL_corner => k_is)
    (case kL_corner => k_is)
    (case aL_Lsays => k_is)
    (case lL_Lsays => k_is)
    (case cL_Lsays => k_is)
    (case kL_Lsays => k_is)
    (case aL_part => k_is)
    (case lL_part => k_is)
    (case cL_part => k_is)
    (case kL_part => k_is)
    (case aL_joint => k_is)
    (case lL_joint => k_is)
    (case cL_joint => k_is)
    (case kL_joint => k_is)
    (case aL_pair => k_is)
    (case lL_pair => k_is)
    (case cL_pair => k_is)
    (case kL_pair => k_is)
    (case aL_listed => k_is)
    (case lL_listed => k_is)
    (case cL_listed => k_is)
    (case kL_listed => k_is)
    (case aL_law => k_is)
    (case lL_law => k_is)
    (case cL_law => k_is)
    (case kL_law => k_is)
    (case aDP => k_is)
    (case lDP => k_is)
    (case d_half => k_is)
    (case d_box => k_is)
    (case d_rise => k_is)
    (case d_flat => k_is)
    (case d_turns => k_is)
    (case litD => k_keys)
    (case nd => decide)
    (case z_len => k_is)
    (case z_int => k_is)
    (case z_isinstance => k_is)
    (case z_list => k_is)
    (case z_tuple => k_is)
    (case z_bool => k_is)
    (case z_all => k_is)
    (case z_zip => k_is)
    (case z_range => k_is)
    (case z_enumerate => k_is)
    (case z_sum => k_is)
    (case z_any => k_is)
    (case z_sorted => k_is)
    (case z_set => k_is)
    (case z_repr => k_is)


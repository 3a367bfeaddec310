import PyProof.Rows.All
import Wide.All
import OpenK.AllK
import Wide.FinOn
import PyProof.EqAt
import PyProof.EqKinds
import PyProof.TupleCall
import HandS.Base
import HandS.Call
import HandS.List
import HandS.Comp
import HandS.Ends
import HandS.Dict
import HandS.Iter
import HandS.Words
import HandS.WordsList
import HandS.Evl
import HandS.Zip
import HandS.IsInst
import HandS.Walk
import HandS.Exc
import HandS.ExcOwn
import HandS.ExcInit
import HandS.ExcValue
import KE.KExcIs
import HandS.ExcField
import KE.GoesEnum
import KE.GoesMore
import HandS.OwnEq
import HandS.TupAny
import HandS.Codes
import HandS.TryOnly
import HandS.WordsExc
import PySem.Challenge.RW_toldenough_k07_rules_had
import KE.KOpsOwn
import HandS.Defaults
import KE.KDictZip
import KE.GoesZip
import HandS.ListItems
import HandS.Style
import HandS.SetFor
import HandS.Strs
import HandS.Steps
import HandS.SortInts
set_option Elab.async false
set_option linter.all false
set_option maxRecDepth 100000
set_option maxHeartbeats 2000000
namespace U
open PySem L2
open Evl (Ex)
/-! ### heaps with hidden cells -/
/-- H without the cells of L -/
def W (L : List Addr) (H : Hp) : Hp := fun a => if a ∈ L then none else H a
/-- the hidden cells stand in H -/
def Hid (L : List Addr) (H : Hp) : Prop := ∀ a ∈ L, H a ≠ none
section
variable {L : List Addr} {H H' H2 : Hp} {a p : Addr} {o u : HO}
theorem w_in (h : W L H a = some o) : H a = some o ∧ a ∉ L := by
  unfold W at h
  by_cases e : a ∈ L
  · rw [if_pos e] at h
    cases h
  · rw [if_neg e] at h
    exact ⟨h, e⟩
theorem w_of (n : a ∉ L) (h : H a = some o) : W L H a = some o := by
  unfold W
  rw [if_neg n]
  exact h
theorem w_sub : Ex (W L H) H := fun a o h => (w_in h).1
theorem w_ex (e : Ex H H') : Ex (W L H) (W L H') := fun a o h => w_of (w_in h).2 (e a o (w_in h).1)
theorem w_nil : W [] H = H := by
  funext a
  unfold W
  rw [if_neg (by simp)]
theorem hid_nil : Hid [] H := fun _ h => by cases h
theorem hid_ex (e : Ex H H') (h : Hid L H) : Hid L H' := fun a m z => by
  cases q : H a with
  | none => exact h a m q
  | some o =>
    have r := e a o q
    rw [z] at r
    cases r
theorem hid_not (h : Hid L H) (n : H p = none) : p ∉ L := fun m => h p m n
theorem w_new (h : Hid L H) (n : H p = none) : W L (upd H p o) p = some o := w_of (hid_not h n) upd_same
theorem w_upd_in (m : p ∈ L) : W L (upd H p o) = W L H := by
  funext a
  unfold W
  by_cases e : a ∈ L
  · rw [if_pos e, if_pos e]
  · rw [if_neg e, if_neg e, upd_ne (fun z => e (by rw [z]; exact m))]
theorem w_sub2 {L2 : List Addr} (s : ∀ a ∈ L, a ∈ L2) : Ex (W L2 H) (W L H) := fun a o h => w_of (fun m => (w_in h).2 (s a m)) (w_in h).1
theorem hid_upd (h : Hid L H) : Hid L (upd H p o) := fun a m z => by
  by_cases e : a = p
  · rw [e, upd_same] at z
    cases z
  · rw [upd_ne e] at z
    exact h a m z
end
/-! ### data that stands -/
section
variable {K : PySem.W.Frag} {H H' : Hp}
mutual
theorem dp_mono (e : Ex H H') : ∀ (d : PyData) (v : V), Dp K H v d → Dp K H' v d
  | .none, _, h => by cases h; exact .non
  | .bool _, _, h => by cases h; exact .bl _
  | .int _, _, h => by cases h; exact .int _
  | .str _, _, h => by cases h; exact .str _
  | .list ds, _, h => by
    cases h with
    | lst hs ha => exact .lst (Evl.ex_l e hs) (dpa_mono e ds _ ha)
  | .tuple ds, _, h => by
    cases h with
    | tup hs ha => exact .tup (Evl.ex_t e hs) (dpa_mono e ds _ ha)
  | .dict _, _, h => by cases h
theorem dpa_mono (e : Ex H H') : ∀ (ds : List PyData) (vs : List V), DpAll K H vs ds → DpAll K H' vs ds
  | [], _, h => by cases h; exact .nil
  | d :: ds, _, h => by
    cases h with
    | cons h1 h2 => exact .cons (dp_mono e d _ h1) (dpa_mono e ds _ h2)
end
theorem _root_.L2.Dp.up {v : V} {d : PyData} (h : Dp K H v d) (e : Ex H H') : Dp K H' v d := dp_mono e d v h
theorem _root_.L2.DpAll.up {vs : List V} {ds : List PyData} (h : DpAll K H vs ds) (e : Ex H H') : DpAll K H' vs ds := dpa_mono e ds vs h
theorem dpa_len : ∀ {vs : List V} {ds : List PyData}, DpAll K H vs ds → vs.length = ds.length
  | _, _, .nil => rfl
  | _, _, .cons _ t => congrArg Nat.succ (dpa_len t)
theorem dpa_get : ∀ {vs : List V} {ds : List PyData} {i : Nat} {v : V}, DpAll K H vs ds → vs[i]? = some v → ∃ d, ds[i]? = some d ∧ Dp K H v d
  | _, _, _, _, .nil, e => by simp at e
  | _, _, 0, _, .cons r _, e => by simp at e; subst e; exact ⟨_, rfl, r⟩
  | _, _, i + 1, x, .cons _ t, e => by
    obtain ⟨d, h1, h2⟩ := dpa_get (i := i) (v := x) t (by simpa using e)
    exact ⟨d, by simpa using h1, h2⟩
theorem dpa_get2 : ∀ {vs : List V} {ds : List PyData} {i : Nat} {d : PyData}, DpAll K H vs ds → ds[i]? = some d → ∃ v, vs[i]? = some v ∧ Dp K H v d
  | _, _, _, _, .nil, e => by simp at e
  | _, _, 0, _, .cons r _, e => by simp at e; subst e; exact ⟨_, rfl, r⟩
  | _, _, i + 1, x, .cons _ t, e => by
    obtain ⟨v, h1, h2⟩ := dpa_get2 (i := i) (d := x) t (by simpa using e)
    exact ⟨v, by simpa using h1, h2⟩
theorem dpa_app : ∀ {vs ws : List V} {ds es : List PyData}, DpAll K H vs ds → DpAll K H ws es → DpAll K H (vs ++ ws) (ds ++ es)
  | _, _, _, _, .nil, h => h
  | _, _, _, _, .cons r t, h => .cons r (dpa_app t h)
/-- the type's name -/
def tyOf : PyData → String
  | .none => "NoneType"
  | .bool _ => "bool"
  | .int _ => "int"
  | .str _ => "str"
  | .list _ => "list"
  | .tuple _ => "tuple"
  | .dict _ => "dict"
theorem dp_ty {v : V} {d : PyData} (h : Dp K H v d) : TyX K H v (.type (tyOf d)) := by
  cases h with
  | non => exact .base .non
  | bl b => exact .base (.bl b)
  | int i => exact .base (.int i)
  | str x => exact .base (.str x)
  | lst hs ha =>
    rcases hs with (h | ⟨o, h⟩) | ⟨o, its, n, h, c, _⟩
    · exact .base (.lst h)
    · exact .base (.frz h)
    · exact .kList h c
  | tup hs ha =>
    rcases hs with (h | ⟨o, h⟩) | ⟨o, its, n, h, c, _⟩
    · exact .base (.tup h)
    · exact .fTuple h
    · exact .kTuple h c
/-- isinstance of data: one class, several classes -/
def kitsB (a : String) : List String → Option Bool
  | [] => some false
  | n :: ns => match kitB a n with
    | some true => some true
    | some false => kitsB a ns
    | none => none
theorem kitsB_ok {a : String} : ∀ {ns : List String} {b : Bool}, kitsB a ns = some b → PySem.W.kitAny K (.type a) (ns.map Value.type) = some b
  | [], _, h => h
  | n :: ns, b, h => by
    unfold kitsB at h
    cases q : kitB a n with
    | none => rw [q] at h; cases h
    | some c =>
      rw [q] at h
      cases c with
      | true =>
        cases h
        exact kitAny_cons (kit_ty q) (fun z => by cases z) fun _ => rfl
      | false => exact kitAny_cons (kit_ty q) (fun _ => kitsB_ok h) fun z => by cases z
theorem tys_cls : ∀ {ns : List String}, Paired ClsV (ns.map V.ty) (ns.map Value.type)
  | [] => .nil
  | n :: _ => .cons (.ty n) tys_cls
end
/-! ### what isinstance answers -/
theorem isi_NoneType_list : kitB "NoneType" "list" = some false := by decide +kernel
theorem isi_NoneType_tuple : kitB "NoneType" "tuple" = some false := by decide +kernel
theorem isi_NoneType_bool : kitB "NoneType" "bool" = some false := by decide +kernel
theorem isi_NoneType_int : kitB "NoneType" "int" = some false := by decide +kernel
theorem isi_NoneType_str : kitB "NoneType" "str" = some false := by decide +kernel
theorem isi_NoneType_list_tuple : kitsB "NoneType" ["list", "tuple"] = some false := by decide +kernel
theorem isi_NoneType_bool_int : kitsB "NoneType" ["bool", "int"] = some false := by decide +kernel
theorem isi_NoneType_bool_int_list_tuple : kitsB "NoneType" ["bool", "int", "list", "tuple"] = some false := by decide +kernel
theorem isi_bool_list : kitB "bool" "list" = some false := by decide +kernel
theorem isi_bool_tuple : kitB "bool" "tuple" = some false := by decide +kernel
theorem isi_bool_bool : kitB "bool" "bool" = some true := by decide +kernel
theorem isi_bool_int : kitB "bool" "int" = some true := by decide +kernel
theorem isi_bool_str : kitB "bool" "str" = some false := by decide +kernel
theorem isi_bool_list_tuple : kitsB "bool" ["list", "tuple"] = some false := by decide +kernel
theorem isi_bool_bool_int : kitsB "bool" ["bool", "int"] = some true := by decide +kernel
theorem isi_bool_bool_int_list_tuple : kitsB "bool" ["bool", "int", "list", "tuple"] = some true := by decide +kernel
theorem isi_int_list : kitB "int" "list" = some false := by decide +kernel
theorem isi_int_tuple : kitB "int" "tuple" = some false := by decide +kernel
theorem isi_int_bool : kitB "int" "bool" = some false := by decide +kernel
theorem isi_int_int : kitB "int" "int" = some true := by decide +kernel
theorem isi_int_str : kitB "int" "str" = some false := by decide +kernel
theorem isi_int_list_tuple : kitsB "int" ["list", "tuple"] = some false := by decide +kernel
theorem isi_int_bool_int : kitsB "int" ["bool", "int"] = some true := by decide +kernel
theorem isi_int_bool_int_list_tuple : kitsB "int" ["bool", "int", "list", "tuple"] = some true := by decide +kernel
theorem isi_str_list : kitB "str" "list" = some false := by decide +kernel
theorem isi_str_tuple : kitB "str" "tuple" = some false := by decide +kernel
theorem isi_str_bool : kitB "str" "bool" = some false := by decide +kernel
theorem isi_str_int : kitB "str" "int" = some false := by decide +kernel
theorem isi_str_str : kitB "str" "str" = some true := by decide +kernel
theorem isi_str_list_tuple : kitsB "str" ["list", "tuple"] = some false := by decide +kernel
theorem isi_str_bool_int : kitsB "str" ["bool", "int"] = some false := by decide +kernel
theorem isi_str_bool_int_list_tuple : kitsB "str" ["bool", "int", "list", "tuple"] = some false := by decide +kernel
theorem isi_list_list : kitB "list" "list" = some true := by decide +kernel
theorem isi_list_tuple : kitB "list" "tuple" = some false := by decide +kernel
theorem isi_list_bool : kitB "list" "bool" = some false := by decide +kernel
theorem isi_list_int : kitB "list" "int" = some false := by decide +kernel
theorem isi_list_str : kitB "list" "str" = some false := by decide +kernel
theorem isi_list_list_tuple : kitsB "list" ["list", "tuple"] = some true := by decide +kernel
theorem isi_list_bool_int : kitsB "list" ["bool", "int"] = some false := by decide +kernel
theorem isi_list_bool_int_list_tuple : kitsB "list" ["bool", "int", "list", "tuple"] = some true := by decide +kernel
theorem isi_tuple_list : kitB "tuple" "list" = some false := by decide +kernel
theorem isi_tuple_tuple : kitB "tuple" "tuple" = some true := by decide +kernel
theorem isi_tuple_bool : kitB "tuple" "bool" = some false := by decide +kernel
theorem isi_tuple_int : kitB "tuple" "int" = some false := by decide +kernel
theorem isi_tuple_str : kitB "tuple" "str" = some false := by decide +kernel
theorem isi_tuple_list_tuple : kitsB "tuple" ["list", "tuple"] = some true := by decide +kernel
theorem isi_tuple_bool_int : kitsB "tuple" ["bool", "int"] = some false := by decide +kernel
theorem isi_tuple_bool_int_list_tuple : kitsB "tuple" ["bool", "int", "list", "tuple"] = some true := by decide +kernel
theorem isi_dict_list : kitB "dict" "list" = some false := by decide +kernel
theorem isi_dict_tuple : kitB "dict" "tuple" = some false := by decide +kernel
theorem isi_dict_bool : kitB "dict" "bool" = some false := by decide +kernel
theorem isi_dict_int : kitB "dict" "int" = some false := by decide +kernel
theorem isi_dict_str : kitB "dict" "str" = some false := by decide +kernel
theorem isi_dict_list_tuple : kitsB "dict" ["list", "tuple"] = some false := by decide +kernel
theorem isi_dict_bool_int : kitsB "dict" ["bool", "int"] = some false := by decide +kernel
theorem isi_dict_bool_int_list_tuple : kitsB "dict" ["bool", "int", "list", "tuple"] = some false := by decide +kernel
/-! ### readings -/
section
variable {K : PySem.W.Frag} {σ : L2.St} {H : Hp} {te tb : TE} {v w : V} {d e : PyData} {b : Bool}
theorem ev_isi {n : String} (h : Evl.Ev te σ H v) (hd : Dp K H v d) (hb : kitB (tyOf d) n = some b) : Evl.Ev (tCB (rIsi K) (tCons te (tCons (tC (.ty n)) tNil))) σ H (.bl b) := fun H1 e1 Q q =>
  h H1 e1 _ fun H2 e2 => ⟨v, .ty n, _, _, b, rfl, .ty n, dp_ty (Dp.up hd (e1.trans e2)), kit_ty hb, q H2 e2⟩
theorem ev_isi2 {m n : String} (h : Evl.Ev te σ H v) (hd : Dp K H v d) (hb : kitsB (tyOf d) [m, n] = some b) : Evl.Ev (tCB (rIsiT K) (tCons te (tCons (tTup (tCons (tC (.ty m)) (tCons (tC (.ty n)) tNil))) tNil))) σ H (.bl b) := fun H1 e1 Q q =>
  h H1 e1 _ fun H2 e2 => ⟨by show 2 ≤ sizeLine; decide, fun p hp => ⟨v, p, _, _, _, b, rfl, upd_same, tys_cls (ns := [m, n]), dp_ty (Dp.up hd ((e1.trans e2).trans (Ex.new hp))), kitsB_ok hb, q _ (e2.trans (Ex.new hp))⟩⟩
theorem ev_isi4 {m n k l : String} (h : Evl.Ev te σ H v) (hd : Dp K H v d) (hb : kitsB (tyOf d) [m, n, k, l] = some b) :
    Evl.Ev (tCB (rIsiT K) (tCons te (tCons (tTup (tCons (tC (.ty m)) (tCons (tC (.ty n)) (tCons (tC (.ty k)) (tCons (tC (.ty l)) tNil))))) tNil))) σ H (.bl b) := fun H1 e1 Q q =>
  h H1 e1 _ fun H2 e2 => ⟨by show 4 ≤ sizeLine; decide, fun p hp => ⟨v, p, _, _, _, b, rfl, upd_same, tys_cls (ns := [m, n, k, l]), dp_ty (Dp.up hd ((e1.trans e2).trans (Ex.new hp))), kitsB_ok hb, q _ (e2.trans (Ex.new hp))⟩⟩
theorem ev_eqD (h : Evl.Ev te σ H v) (h2 : Evl.Ev tb σ H w) (hd : Dp K H v d) (he : Dp K H w e) (sd : SeqAt.shaped d = true) (se : SeqAt.shaped e = true) : Evl.Ev (tOp (rEqD K) te tb) σ H (.bl (PyData.eqv d e)) := fun H1 e1 Q q =>
  h H1 e1 _ fun H2 e2 => h2 H2 (e1.trans e2) _ fun H3 e3 => ⟨d, e, Dp.up hd ((e1.trans e2).trans e3), Dp.up he ((e1.trans e2).trans e3), sd, se, q H3 (e2.trans e3)⟩
theorem ev_eqB {a c : Bool} (h : Evl.Ev te σ H (.bl a)) (h2 : Evl.Ev tb σ H (.bl c)) : Evl.Ev (tOp rEq te tb) σ H (.bl (decide (V.bl a = V.bl c))) := Evl.ev_op h h2 (Evl.rv_eq rfl)
theorem ev_neB {a c : Bool} (h : Evl.Ev te σ H (.bl a)) (h2 : Evl.Ev tb σ H (.bl c)) : Evl.Ev (tOp rNe te tb) σ H (.bl (!decide (V.bl a = V.bl c))) := Evl.ev_op h h2 (Evl.rv_ne rfl)
theorem ev_lenS {a : Addr} {xs : List V} (ha : Evl.Ev te σ H (.ref a)) (h : SqL K H a xs ∨ SqT K H a xs) : Evl.Ev (tCB (fun xs H Q => ∃ p ys, xs = [.ref p] ∧ (SqL K H p ys ∨ SqT K H p ys) ∧ Q (.int ys.length) H) (tCons te tNil)) σ H (.int (xs.length : Int)) := fun H1 e Q q =>
  ha H1 e _ fun H2 e2 => ⟨a, xs, rfl, h.imp (Evl.ex_l (e.trans e2)) (Evl.ex_t (e.trans e2)), q H2 e2⟩
end
/-! ### defs of the text, found by their names -/
structure DefAt (P : Program) (w : World) (K : PySem.W.Frag) (mg : Str → Option Value) (base : Heap) (x : Str) (k : Nat) (ps : List Str) (sp : Sp) : Prop where
  ex : ∃ f fd, FnOk P w K mg base CX0 k f fd ps sp ∧ mg x = some (.ref f) ∧ PySem.W.keepIn K (.ref f) = true ∧ Binds K fd ps []
theorem DefAt.imp {P : Program} {w : World} {K : PySem.W.Frag} {mg : Str → Option Value} {base : Heap} {x : Str} {k : Nat} {ps : List Str} {sp sp' : Sp} (D : DefAt P w K mg base x k ps sp) (h : ∀ vs H Q E, sp' vs H Q E → sp vs H Q E) : DefAt P w K mg base x k ps sp' := by
  obtain ⟨f, fd, F, r⟩ := D.ex
  exact ⟨f, fd, F.imp h, r⟩
theorem DefAt.mono {P : Program} {w : World} {K : PySem.W.Frag} {mg : Str → Option Value} {base : Heap} {x : Str} {k j : Nat} {ps : List Str} {sp : Sp} (D : DefAt P w K mg base x k ps sp) (h : k ≤ j) : DefAt P w K mg base x j ps sp := by
  obtain ⟨f, fd, F, r⟩ := D.ex
  exact ⟨f, fd, F.mono h, r⟩
def tCallD (sp : Sp) (t : TA) : TE := fun σ H Q => t σ H fun vs H1 => sp vs H1 Q E0
theorem pe_callD {X : Cx} {x : Str} {k : Nat} {ps : List Str} {sp : Sp} {p pos : Pos} {e : Expr} {es : List Expr} {t : TA} (D : DefAt X.prog X.w X.K X.mg X.base x k ps sp) (hr : Room k X.A) (hg : Gl X x) (ha : PA X (e :: es) t)
    (hdb : (x == ("__debug__" : Str)) = false := by decide) (he : starEach (e :: es) X.env = (false, eval e X.env) :: starEach es X.env := by rfl) (hpl : (backTo pos (starEach es X.env)).any (·.1) = false := by rfl) :
    PE X (.Call (.Name x p) (e :: es) [] pos) (tCallD sp t) := by
  obtain ⟨f, fd, F, hm, hk, hb⟩ := D.ex
  refine ⟨fun pins s σ H Q I h => (pe_call (E := E0) F hr hg hm hk hb .nil pass0 ha hdb he hpl).run pins s σ H Q I ?_⟩
  have e1 : (fun (vs : List V) (H1 : Hp) => sp (vs ++ []) H1 Q E0) = fun vs H1 => sp vs H1 Q E0 := by
    funext vs H1
    rw [List.append_nil]
  show t σ H fun vs H1 => sp (vs ++ []) H1 Q E0
  rw [e1]
  exact h
/-! ### draws -/
/-- at l the draws: three numbers; at most n drawn by the second way -/
def Dr (n : Nat) (H : Hp) (l : Addr) : Prop := ∃ x y z : Int, H l = some (.lst [.int x, .int y, .int z]) ∧ 0 ≤ x ∧ 0 ≤ y ∧ y ≤ 1099511627776 ∧ 0 ≤ z ∧ z ≤ (n : Int)
theorem Dr.up {n m : Nat} {H : Hp} {l : Addr} (h : Dr n H l) (e : n ≤ m) : Dr m H l := by
  obtain ⟨x, y, z, h1, h2, h3, h4, h5, h6⟩ := h
  exact ⟨x, y, z, h1, h2, h3, h4, h5, by omega⟩
theorem Dr.ne {n : Nat} {H : Hp} {l : Addr} (h : Dr n H l) : H l ≠ none := by
  obtain ⟨x, y, z, h1, _⟩ := h
  rw [h1]
  simp
theorem Dr.ex {n : Nat} {H H' : Hp} {l : Addr} (h : Dr n H l) (e : Ex H H') : Dr n H' l := by
  obtain ⟨x, y, z, h1, h2⟩ := h
  exact ⟨x, y, z, e _ _ h1, h2⟩
/-- all but the cell l stays -/
def ExB (l : Addr) (H H' : Hp) : Prop := ∀ a o, a ≠ l → H a = some o → H' a = some o
theorem ExB.refl (l : Addr) (H : Hp) : ExB l H H := fun _ _ _ h => h
theorem ExB.of {l : Addr} {H H' : Hp} (e : Ex H H') : ExB l H H' := fun a o _ h => e a o h
theorem ExB.trans {l : Addr} {H H1 H2 : Hp} (a : ExB l H H1) (b : ExB l H1 H2) : ExB l H H2 := fun c o n h => b c o n (a c o n h)
theorem ExB.upd {l : Addr} {H : Hp} {o : HO} : ExB l H (upd H l o) := fun a u n h => by
  rw [upd_ne n]
  exact h
theorem ExB.w {l : Addr} {L : List Addr} {H H' : Hp} (e : ExB l H H') (m : l ∈ L) : Ex (W L H) (W L H') := fun a o h => by
  obtain ⟨h1, n⟩ := w_in h
  exact w_of n (e a o (fun z => n (by rw [z]; exact m)) h1)
theorem ExB.hid {l : Addr} {L : List Addr} {H H' : Hp} (e : ExB l H H') (hl : H' l ≠ none) (h : Hid L H) : Hid L H' := fun a m => by
  by_cases q : a = l
  · rw [q]
    exact hl
  · intro z
    cases r : H a with
    | none => exact h a m r
    | some o =>
      have t := e a o q r
      rw [z] at t
      cases t
def spSource (K : PySem.W.Frag) : Sp := fun vs H Q _ => ∃ (s : Addr) (ns : List Int) (i : Nat), vs = [.ref s, .int (i : Int)] ∧ SqL K H s (ns.map V.int) ∧ ns.length ≤ 63 ∧ i ≤ 100 ∧
  ∀ l o, H l = none → Dr 0 (upd H l o) l → Q (.ref l) (upd H l o)
def spDraw : Sp := fun vs H Q _ => ∃ (l : Addr) (many : Int) (n : Nat), vs = [.ref l, .int many] ∧ Dr n H l ∧ n < 1000000 ∧ 0 < many ∧ many < 1073741824 ∧
  ∀ r o, 0 ≤ r → r < many → Dr (n + 1) (upd H l o) l → Q (.int r) (upd H l o)
def spPick (K : PySem.W.Frag) : Sp := fun vs H Q _ => ∃ (l t : Addr) (ds : List PyData) (n : Nat) (L : List Addr), vs = [.ref l, .ref t] ∧ Dr n H l ∧ n < 1000000 ∧ l ∈ L ∧ Dp K (W L H) (.ref t) (.list ds) ∧ 0 < ds.length ∧ ds.length < 1073741824 ∧
  ∀ v d o, d ∈ ds → Dp K (W L (upd H l o)) v d → Dr (n + 1) (upd H l o) l → Q v (upd H l o)
end U

set_option Elab.async false
set_option linter.all false
set_option maxRecDepth 100000
set_option maxHeartbeats 2000000
namespace U
open PySem L2
open Evl (Ex)
theorem yes_lc {σ : L2.St} {H : Hp} {A B : Hp → Prop} (h : A H) : tYes σ H (fun b H3 => if b = true then A H3 else B H3) := by
  show (if true = true then A H else B H)
  rw [if_pos rfl]
  exact h
section
variable {K : PySem.W.Frag} {a b : Addr} {xs ys : List V} {σ : L2.St} {H : Hp}
theorem walk_zipT {n : Nat} (hn : n = min xs.length ys.length) : Walk (RZ.ItzT K a b) n (fun H => SqT K H a xs ∧ SqT K H b ys) (YPair (fun i => xs[i]?) (fun i => ys[i]?)) := by
  subst hn
  refine ⟨fun i _ hi q => ?_, fun _ q => ⟨xs, ys, q.1, q.2, by omega⟩, fun i H v H' _ q y => ?_⟩
  · have h1 : i < xs.length := by omega
    have h2 : i < ys.length := by omega
    exact ⟨xs, ys, xs[i], ys[i], q.1, q.2, by simp [h1], by simp [h2]⟩
  · obtain ⟨T, x, z, h1, h2, h3, h4, h5⟩ := y
    exact ⟨T, x, z, h1, h2, h3, h4 xs q.1, h5 ys q.2⟩
/-- what a comprehension of every item has made so far -/
def Cm (H : Hp) (v : Nat → V) (Dl : Addr) (i : Nat) (H' : Hp) : Prop := H Dl = none ∧ Ex H H' ∧ H' Dl = some (.lst ((List.range i).map v))
theorem cm_0 {v : Nat → V} {Dl : Addr} (h : H Dl = none) : Cm H v Dl 0 (upd H Dl (.lst [])) := ⟨h, Ex.new h, upd_same⟩
theorem cm_turn {H' : Hp} {v : Nat → V} {Dl : Addr} {i : Nat} {te : TE} {σ2 : L2.St} (p : Cm H v Dl i H') (hi : i < 50000) (H2 : Hp) (e2 : Ex H' H2) (he : Evl.Ev te σ2 H (v i)) :
    te σ2 H2 fun y H4 => ∃ acc, H4 Dl = some (.lst acc) ∧ acc.length < sizeLine ∧ Cm H v Dl (i + 1) (upd H4 Dl (.lst (acc ++ [y]))) := by
  obtain ⟨p1, p2, p3⟩ := p
  refine he H2 (p2.trans e2) _ fun H4 e4 => ⟨_, e4 Dl _ (e2 Dl _ p3), Evl.sz_lt (by rw [List.length_map, List.length_range]; omega), p1, Evl.Ex.mut ((p2.trans e2).trans e4) p1, ?_⟩
  rw [upd_same, List.range_succ, List.map_append]
  rfl
theorem el_zip {ta : TA} {te : TE} {i1 i2 : Nat} {vs : List Nat} {v : Nat → V} (h : Evl.EvA ta σ H [.ref a, .ref b]) (hx : (SqL K H a xs ∧ SqL K H b ys) ∨ (SqT K H a xs ∧ SqT K H b ys)) (hl : xs.length = ys.length) (hz : xs.length ≤ 40000)
    (hw : ∀ x y, wipe (((wipe σ vs).set i1 (some x)).set i2 (some y)) vs = wipe σ vs)
    (he : ∀ (i : Nat) (x y : V) H1, Ex H H1 → xs[i]? = some x → ys[i]? = some y → Evl.Ev te (((wipe σ vs).set i1 (some x)).set i2 (some y)) H1 (v i)) :
    Evl.EvL (tLc (RZ.iZipA K ta) (gTup K 2 (gCons (gName i1) (gCons (gName i2) gNil))) tYes te vs) σ H ((List.range xs.length).map v) := fun H0 e0 Q q => h H0 e0 _ fun H1 e1 => by
  have turn : ∀ (Dl : Addr) (i : Nat) (x : V) (H2 H3 : Hp), i < xs.length → Cm H1 v Dl i H2 → YPair (fun i => xs[i]?) (fun i => ys[i]?) i H2 x H3 → gTup K 2 (gCons (gName i1) (gCons (gName i2) gNil)) x (wipe σ vs) H3 fun σ2 H2 => wipe σ2 vs = wipe σ vs ∧ tYes σ2 H2 fun b H3 =>
      if b = true then te σ2 H3 fun y H4 => ∃ acc, H4 Dl = some (.lst acc) ∧ acc.length < sizeLine ∧ Cm H1 v Dl (i + 1) (upd H4 Dl (.lst (acc ++ [y]))) else Cm H1 v Dl (i + 1) H3 := by
    intro Dl i x H2 H3 hi p yp
    obtain ⟨T, u, w, rfl, hT, rfl, hu, hw'⟩ := yp
    refine ⟨T, [u, w], rfl, SqT.of upd_same, rfl, u, [w], rfl, w, [], rfl, rfl, hw u w, ?_⟩
    exact yes_lc (A := fun H3 => te ((List.set (wipe σ vs) i1 (some u)).set i2 (some w)) H3 fun y H4 => ∃ acc, H4 Dl = some (.lst acc) ∧ acc.length < sizeLine ∧ Cm H1 v Dl (i + 1) (upd H4 Dl (.lst (acc ++ [y])))) (B := fun H3 => Cm H1 v Dl (i + 1) H3) <| cm_turn p (by omega) _ (Ex.new hT) (he i u w _ (e0.trans e1) hu hw')
  rcases hx with ⟨x1, x2⟩ | ⟨x1, x2⟩
  · refine ⟨a, b, xs, ys, rfl, .inl ⟨Evl.ex_l (e0.trans e1) x1, Evl.ex_l (e0.trans e1) x2, fun Dl hD => ?_⟩⟩
    exact lc_it (walk_zip (n := xs.length) (by omega)) (Cm H1 v Dl) (cm_0 hD) (fun i H2 _ p => ⟨Evl.ex_l ((e0.trans e1).trans p.2.1) x1, Evl.ex_l ((e0.trans e1).trans p.2.1) x2⟩) (fun i x H2 H3 hi p y => turn Dl i x H2 H3 hi p y)
      (fun H2 p => q Dl H2 (Evl.fresh_back e1 p.1) (e1.trans p.2.1) p.2.2)
  · refine ⟨a, b, xs, ys, rfl, .inr ⟨Evl.ex_t (e0.trans e1) x1, Evl.ex_t (e0.trans e1) x2, fun Dl hD => ?_⟩⟩
    exact lc_it (walk_zipT (n := xs.length) (by omega)) (Cm H1 v Dl) (cm_0 hD) (fun i H2 _ p => ⟨Evl.ex_t ((e0.trans e1).trans p.2.1) x1, Evl.ex_t ((e0.trans e1).trans p.2.1) x2⟩) (fun i x H2 H3 hi p y => turn Dl i x H2 H3 hi p y)
      (fun H2 p => q Dl H2 (Evl.fresh_back e1 p.1) (e1.trans p.2.1) p.2.2)
theorem ev_all {te : TE} {bs : List Bool} (h : Evl.EvL te σ H (bs.map V.bl)) : Evl.Ev (tCB (rAll K) (tCons te tNil)) σ H (.bl (bs.all id)) := fun H1 e1 Q q =>
  h H1 e1 _ fun p H2 hp e2 h2 => ⟨p, bs, rfl, SqL.of h2, q H2 e2⟩
theorem ev_any {te : TE} {bs : List Bool} (h : Evl.EvL te σ H (bs.map V.bl)) : Evl.Ev (tCB (rAny K) (tCons te tNil)) σ H (.bl (bs.any id)) := fun H1 e1 Q q =>
  h H1 e1 _ fun p H2 hp e2 h2 => ⟨p, bs, rfl, SqL.of h2, q H2 e2⟩
theorem ev_callD {sp : Sp} {ta : TA} {vs : List V} {z : V} (h : Evl.EvA ta σ H vs) (hs : ∀ H1, Ex H H1 → ∀ Q : VK, (∀ H2, Ex H1 H2 → Q z H2) → sp vs H1 Q E0) : Evl.Ev (tCallD sp ta) σ H z := fun H1 e Q q =>
  h H1 e _ fun H2 e2 => hs H2 (e.trans e2) Q fun H3 e3 => q H3 (e2.trans e3)
end
/-! ### data no deeper than n -/
def fits : Nat → PyData → Prop
  | 0, .list _ => False
  | 0, .tuple _ => False
  | n + 1, .list ds => ds.length ≤ 40000 ∧ ∀ d ∈ ds, fits n d
  | n + 1, .tuple ds => ds.length ≤ 40000 ∧ ∀ d ∈ ds, fits n d
  | _, .dict kvs => kvs = []
  | _, _ => True
theorem fits_up : ∀ {n m : Nat} {d : PyData}, n ≤ m → fits n d → fits m d
  | 0, 0, _, _, h => h
  | 0, m + 1, d, _, h => by
    cases d with
    | list ds => exact h.elim
    | tuple ds => exact h.elim
    | dict _ => exact h
    | _ => trivial
  | n + 1, 0, _, e, _ => by omega
  | n + 1, m + 1, d, e, h => by
    cases d with
    | list ds => exact ⟨h.1, fun z hz => fits_up (by omega) (h.2 z hz)⟩
    | tuple ds => exact ⟨h.1, fun z hz => fits_up (by omega) (h.2 z hz)⟩
    | dict _ => exact h
    | _ => trivial
/-- two readings of the same data: True -/
def spSame (K : PySem.W.Frag) (n : Nat) : Sp := fun vs H Q _ => ∃ (x y : V) (d : PyData), vs = [x, y] ∧ Dp K H x d ∧ Dp K H y d ∧ fits n d ∧ ∀ H', Ex H H' → Q (.bl true) H'
end U

set_option Elab.async false
set_option linter.all false
set_option maxRecDepth 100000
set_option maxHeartbeats 2000000
namespace U
open PySem L2
open Evl (Ex)
/-! ### what evaluates to data -/
section
variable {K : PySem.W.Frag} {L : List Addr} {σ : L2.St} {H H' : Hp} {te tb : TE} {ta tr : TA} {v : V} {d : PyData} {ds : List PyData} {l p : Addr} {o : HO}
def EvD (K : PySem.W.Frag) (L : List Addr) (te : TE) (σ : L2.St) (H : Hp) (d : PyData) : Prop := ∀ H1, Ex H H1 → ∀ Q : VK, (∀ v H2, Ex H1 H2 → Dp K (W L H2) v d → Q v H2) → te σ H1 Q
def EvDs (K : PySem.W.Frag) (L : List Addr) (ta : TA) (σ : L2.St) (H : Hp) (ds : List PyData) : Prop := ∀ H1, Ex H H1 → ∀ Q : List V → Hp → Prop, (∀ vs H2, Ex H1 H2 → DpAll K (W L H2) vs ds → Q vs H2) → ta σ H1 Q
theorem EvD.mono (e : Ex H H') (h : EvD K L te σ H d) : EvD K L te σ H' d := fun H1 a Q q => h H1 (e.trans a) Q q
theorem EvDs.mono (e : Ex H H') (h : EvDs K L ta σ H ds) : EvDs K L ta σ H' ds := fun H1 a Q q => h H1 (e.trans a) Q q
theorem evd_of (h : Evl.Ev te σ H v) (hd : Dp K (W L H) v d) : EvD K L te σ H d := fun H1 e Q q => h H1 e _ fun H2 e2 => q v H2 e2 (hd.up (w_ex (e.trans e2)))
theorem evd_var {i : Nat} (h : σ[i]? = some (some v)) (hd : Dp K (W L H) v d) : EvD K L (tVar i) σ H d := evd_of (Evl.ev_var h) hd
theorem evd_int {i : Int} : EvD K L (tC (.int i)) σ H (.int i) := evd_of Evl.ev_c (.int i)
theorem evd_bl {b : Bool} : EvD K L (tC (.bl b)) σ H (.bool b) := evd_of Evl.ev_c (.bl b)
theorem evd_non : EvD K L (tC .non) σ H .none := evd_of Evl.ev_c .non
theorem evd_str {x : Str} : EvD K L (tC (.str x)) σ H (.str x) := evd_of Evl.ev_c (.str x)
theorem evd_evI {i : Int} (h : Evl.Ev te σ H (.int i)) : EvD K L te σ H (.int i) := evd_of h (.int i)
theorem evd_evB {b : Bool} (h : Evl.Ev te σ H (.bl b)) : EvD K L te σ H (.bool b) := evd_of h (.bl b)
theorem evds_nil : EvDs K L tNil σ H [] := fun H1 _ _ q => q [] H1 (Ex.refl H1) .nil
theorem evds_cons (h : EvD K L te σ H d) (hr : EvDs K L tr σ H ds) : EvDs K L (tCons te tr) σ H (d :: ds) := fun H1 e Q q =>
  h H1 e _ fun v H2 e2 hv => hr H2 (e.trans e2) _ fun vs H3 e3 hvs => q (v :: vs) H3 (e2.trans e3) (.cons (hv.up (w_ex e3)) hvs)
theorem evd_tup (hL : Hid L H) (h : EvDs K L ta σ H ds) (hz : ds.length ≤ 100000) : EvD K L (tTup ta) σ H (.tuple ds) := fun H1 e Q q =>
  h H1 e _ fun vs H2 e2 hv => ⟨Evl.sz_of (by rw [dpa_len hv]; exact hz), fun p hp => q (.ref p) _ (e2.trans (Ex.new hp)) (.tup (SqT.of (w_new (hid_ex (e.trans e2) hL) hp)) (hv.up (w_ex (Ex.new hp))))⟩
theorem evd_lst (hL : Hid L H) (h : EvDs K L ta σ H ds) (hz : ds.length ≤ 100000) : EvD K L (tLst ta) σ H (.list ds) := fun H1 e Q q =>
  h H1 e _ fun vs H2 e2 hv => ⟨Evl.sz_of (by rw [dpa_len hv]; exact hz), fun p hp => q (.ref p) _ (e2.trans (Ex.new hp)) (.lst (SqL.of (w_new (hid_ex (e.trans e2) hL) hp)) (hv.up (w_ex (Ex.new hp))))⟩
theorem w_fresh (hp : H p = none) : Ex (W L H) (W (p :: L) (upd H p o)) := fun a u h => by
  obtain ⟨h1, n⟩ := w_in h
  have ne : a ≠ p := ne_of_none h1 hp
  exact w_of (fun m => (List.mem_cons.mp m).elim ne n) (by rw [upd_ne ne]; exact h1)
theorem w_cons : Ex (W (p :: L) H) (W L H) := w_sub2 fun a m => List.mem_cons_of_mem _ m
/-! ### a list that grows -/
/-- at l a list of the data ds, which do not hang on l -/
def Gr (K : PySem.W.Frag) (L : List Addr) (H : Hp) (l : Addr) (ds : List PyData) : Prop := l ∉ L ∧ ∃ xs, H l = some (.lst xs) ∧ DpAll K (W (l :: L) H) xs ds
theorem Gr.dp (h : Gr K L H l ds) : Dp K (W L H) (.ref l) (.list ds) := by
  obtain ⟨n, xs, h1, h2⟩ := h
  exact .lst (SqL.of (w_of n h1)) (h2.up w_cons)
theorem Gr.up (h : Gr K L H l ds) (e : Ex H H') : Gr K L H' l ds := by
  obtain ⟨n, xs, h1, h2⟩ := h
  exact ⟨n, xs, e _ _ h1, h2.up (w_ex e)⟩
theorem Gr.ne (h : Gr K L H l ds) : H l ≠ none := by
  obtain ⟨n, xs, h1, h2⟩ := h
  rw [h1]
  simp
theorem gr_new {xs : List V} (hL : Hid L H) (hp : H p = none) (h : DpAll K (W L H) xs ds) : Gr K L (upd H p (.lst xs)) p ds := ⟨hid_not hL hp, xs, upd_same, h.up (w_fresh hp)⟩
/-- a heap that differs at l alone, where the list has one more -/
theorem gr_app {xs : List V} (n : l ∉ L) (h1 : H l = some (.lst xs)) (h2 : DpAll K (W (l :: L) H) xs ds) (hv : Dp K (W (l :: L) H) v d) : Gr K L (upd H l (.lst (xs ++ [v]))) l (ds ++ [d]) := by
  refine ⟨n, xs ++ [v], upd_same, ?_⟩
  rw [w_upd_in (List.mem_cons_self ..)]
  exact dpa_app h2 (.cons hv .nil)
/-! ### statements -/
variable {D : Ends} {tz tu : TS} {i : Nat}
theorem d_asg (h : EvD K L te σ H d) (k : ∀ v H1, Ex H H1 → Dp K (W L H1) v d → D.nx (σ.set i (some v)) H1) : tAsg te (gName i) D σ H := h H (Ex.refl H) _ fun v H1 e hv => k v H1 e hv
theorem qd_asg (h : EvD K L te σ H d) (k : ∀ v H1, Ex H H1 → Dp K (W L H1) v d → tz D (σ.set i (some v)) H1) : tSeq (tAsg te (gName i)) tz D σ H := d_asg (D := { D with nx := tz D }) h k
theorem d_ret (h : EvD K L te σ H d) (k : ∀ v H1, Ex H H1 → Dp K (W L H1) v d → D.rt v H1) : tRet te D σ H := h H (Ex.refl H) _ fun v H1 e hv => k v H1 e hv
theorem qd_lst (hL : Hid L H) (h : EvDs K L ta σ H ds) (hz : ds.length ≤ 100000) (k : ∀ p H1, H p = none → Ex H H1 → Gr K L H1 p ds → tz D (σ.set i (some (.ref p))) H1) : tSeq (tAsg (tLst ta) (gName i)) tz D σ H :=
  h H (Ex.refl H) _ fun vs H1 e hv => ⟨Evl.sz_of (by rw [dpa_len hv]; exact hz), fun p hp => k p _ (Evl.fresh_back e hp) (e.trans (Ex.new hp)) (gr_new (hid_ex e hL) hp hv)⟩
theorem d_app (hg : Gr K L H l ds) (ho : Evl.Ev tb σ H (.ref l)) (h : EvD K (l :: L) te σ H d) (hz : ds.length < 100000) (k : ∀ o H1, Ex H H1 → Gr K L (upd H1 l o) l (ds ++ [d]) → D.nx σ (upd H1 l o)) :
    tDrop (tBM K "list" rAppend tb (tCons te tNil)) D σ H := ho H (Ex.refl H) _ fun H1 e1 => by
  obtain ⟨n, xs, h1, h2⟩ := hg
  refine ⟨Or.inl ⟨rfl, xs, SqL.of (e1 l _ h1)⟩, h H1 e1 _ fun v H2 e2 hv => ⟨l, xs, v, rfl, rfl, e2 l _ (e1 l _ h1), Evl.sz_lt (by rw [dpa_len h2]; exact hz), k _ H2 (e1.trans e2) ?_⟩⟩
  exact gr_app n (e2 l _ (e1 l _ h1)) (h2.up (w_ex (e1.trans e2))) hv
theorem qd_app (hg : Gr K L H l ds) (ho : Evl.Ev tb σ H (.ref l)) (h : EvD K (l :: L) te σ H d) (hz : ds.length < 100000) (k : ∀ o H1, Ex H H1 → Gr K L (upd H1 l o) l (ds ++ [d]) → tz D σ (upd H1 l o)) :
    tSeq (tDrop (tBM K "list" rAppend tb (tCons te tNil))) tz D σ H := d_app (D := { D with nx := tz D }) hg ho h hz k
/-- xs + ys, the left a list that stands, the right a new one -/
theorem evd_cat {es : List PyData} (hL : Hid L H) (hg : Gr K L H l ds) (ho : Evl.Ev te σ H (.ref l)) (h : EvDs K L ta σ H es) (hz : ds.length + es.length ≤ 100000) : EvD K L (tOp rCat te (tLst ta)) σ H (.list (ds ++ es)) := fun H1 e1 Q q =>
  ho H1 e1 _ fun H2 e2 => h H2 (e1.trans e2) _ fun vs H3 e3 hv => by
    have eA := (e1.trans e2).trans e3
    obtain ⟨n, xs, h1, h2⟩ := hg
    have l1 := dpa_len h2
    have l2 := dpa_len hv
    refine ⟨Evl.sz_of (by omega), fun p hp => ⟨l, p, xs, vs, rfl, rfl, ?_, upd_same, Evl.sz_of (by omega), fun r hr => ?_⟩⟩
    · exact (eA.trans (Ex.new hp)) l _ h1
    · refine q (.ref r) _ ((e2.trans e3).trans ((Ex.new hp).trans (Ex.new hr))) (.lst (SqL.of (w_new (hid_upd (hid_ex eA hL)) hr)) ?_)
      have z : Ex (W L H3) (W L (upd (upd H3 p (.lst vs)) r (.lst (xs ++ vs)))) := w_ex ((Ex.new hp).trans (Ex.new hr))
      exact dpa_app (((h2.up w_cons).up (w_ex eA)).up z) (hv.up z)
/-- xs.extend(ys), ys a new list -/
theorem d_ext {es : List PyData} (hg : Gr K L H l ds) (hL : Hid L H) (ho : Evl.Ev tb σ H (.ref l)) (h : EvDs K (l :: L) ta σ H es) (hz : ds.length + es.length ≤ 100000) (k : ∀ o H1, Ex H H1 → Gr K L (upd H1 l o) l (ds ++ es) → D.nx σ (upd H1 l o)) :
    tDrop (tBM K "list" rExtend tb (tCons (tLst ta) tNil)) D σ H := ho H (Ex.refl H) _ fun H1 e1 => by
  obtain ⟨n, xs, h1, h2⟩ := hg
  refine ⟨Or.inl ⟨rfl, xs, SqL.of (e1 l _ h1)⟩, h H1 e1 _ fun vs H2 e2 hv => ?_⟩
  have l1 := dpa_len h2
  have l2 := dpa_len hv
  refine ⟨Evl.sz_of (by omega), fun p hp => ?_⟩
  have e3 : Ex H2 (upd H2 p (.lst vs)) := Ex.new hp
  have eA := (e1.trans e2).trans e3
  refine ⟨l, p, xs, vs, rfl, rfl, eA l _ h1, upd_same, Evl.sz_of (by omega), k _ _ eA ⟨n, xs ++ vs, upd_same, ?_⟩⟩
  rw [w_upd_in (List.mem_cons_self ..)]
  exact dpa_app (h2.up (w_ex eA)) (hv.up (w_ex e3))
theorem qd_ext {es : List PyData} (hg : Gr K L H l ds) (hL : Hid L H) (ho : Evl.Ev tb σ H (.ref l)) (h : EvDs K (l :: L) ta σ H es) (hz : ds.length + es.length ≤ 100000) (k : ∀ o H1, Ex H H1 → Gr K L (upd H1 l o) l (ds ++ es) → tz D σ (upd H1 l o)) :
    tSeq (tDrop (tBM K "list" rExtend tb (tCons (tLst ta) tNil))) tz D σ H := d_ext (D := { D with nx := tz D }) hg hL ho h hz k
end
end U

set_option Elab.async false
set_option linter.all false
set_option maxRecDepth 100000
set_option maxHeartbeats 2000000
/-! data with empty dicts among them -/
namespace U
open PySem L2
open Evl (Ex)
section
variable {K : PySem.W.Frag} {H H' : Hp}
mutual
inductive Dq (K : PySem.W.Frag) (H : Hp) : V → PyData → Prop
  | non : Dq K H .non .none
  | bl (b : Bool) : Dq K H (.bl b) (.bool b)
  | int (i : Int) : Dq K H (.int i) (.int i)
  | str (x : Str) : Dq K H (.str x) (.str x)
  | lst {a : Addr} {xs : List V} {ds : List PyData} : SqL K H a xs → DqAll K H xs ds → Dq K H (.ref a) (.list ds)
  | tup {a : Addr} {xs : List V} {ds : List PyData} : SqT K H a xs → DqAll K H xs ds → Dq K H (.ref a) (.tuple ds)
  | dct {a : Addr} : H a = some (.dK []) → Dq K H (.ref a) (.dict [])
inductive DqAll (K : PySem.W.Frag) (H : Hp) : List V → List PyData → Prop
  | nil : DqAll K H [] []
  | cons {v : V} {vs : List V} {d : PyData} {ds : List PyData} : Dq K H v d → DqAll K H vs ds → DqAll K H (v :: vs) (d :: ds)
end
mutual
theorem dq_of : ∀ (d : PyData) (v : V), Dp K H v d → Dq K H v d
  | .none, _, h => by cases h; exact .non
  | .bool _, _, h => by cases h; exact .bl _
  | .int _, _, h => by cases h; exact .int _
  | .str _, _, h => by cases h; exact .str _
  | .list ds, _, h => by
    cases h with
    | lst hs ha => exact .lst hs (dqa_of ds _ ha)
  | .tuple ds, _, h => by
    cases h with
    | tup hs ha => exact .tup hs (dqa_of ds _ ha)
  | .dict _, _, h => by cases h
theorem dqa_of : ∀ (ds : List PyData) (vs : List V), DpAll K H vs ds → DqAll K H vs ds
  | [], _, h => by cases h; exact .nil
  | d :: ds, _, h => by
    cases h with
    | cons h1 h2 => exact .cons (dq_of d _ h1) (dqa_of ds _ h2)
end
theorem _root_.L2.Dp.q {v : V} {d : PyData} (h : Dp K H v d) : Dq K H v d := dq_of d v h
mutual
theorem dq_mono (e : Ex H H') : ∀ (d : PyData) (v : V), Dq K H v d → Dq K H' v d
  | .none, _, h => by cases h; exact .non
  | .bool _, _, h => by cases h; exact .bl _
  | .int _, _, h => by cases h; exact .int _
  | .str _, _, h => by cases h; exact .str _
  | .list ds, _, h => by
    cases h with
    | lst hs ha => exact .lst (Evl.ex_l e hs) (dqa_mono e ds _ ha)
  | .tuple ds, _, h => by
    cases h with
    | tup hs ha => exact .tup (Evl.ex_t e hs) (dqa_mono e ds _ ha)
  | .dict _, _, h => by
    cases h with
    | dct h => exact .dct (e _ _ h)
theorem dqa_mono (e : Ex H H') : ∀ (ds : List PyData) (vs : List V), DqAll K H vs ds → DqAll K H' vs ds
  | [], _, h => by cases h; exact .nil
  | d :: ds, _, h => by
    cases h with
    | cons h1 h2 => exact .cons (dq_mono e d _ h1) (dqa_mono e ds _ h2)
end
theorem Dq.up {v : V} {d : PyData} (h : Dq K H v d) (e : Ex H H') : Dq K H' v d := dq_mono e d v h
theorem DqAll.up {vs : List V} {ds : List PyData} (h : DqAll K H vs ds) (e : Ex H H') : DqAll K H' vs ds := dqa_mono e ds vs h
theorem dqa_len : ∀ {vs : List V} {ds : List PyData}, DqAll K H vs ds → vs.length = ds.length
  | _, _, .nil => rfl
  | _, _, .cons _ t => congrArg Nat.succ (dqa_len t)
theorem dqa_get : ∀ {vs : List V} {ds : List PyData} {i : Nat} {v : V}, DqAll K H vs ds → vs[i]? = some v → ∃ d, ds[i]? = some d ∧ Dq K H v d
  | _, _, _, _, .nil, e => by simp at e
  | _, _, 0, _, .cons r _, e => by simp at e; subst e; exact ⟨_, rfl, r⟩
  | _, _, i + 1, x, .cons _ t, e => by
    obtain ⟨d, h1, h2⟩ := dqa_get (i := i) (v := x) t (by simpa using e)
    exact ⟨d, by simpa using h1, h2⟩
theorem dqa_app : ∀ {vs ws : List V} {ds es : List PyData}, DqAll K H vs ds → DqAll K H ws es → DqAll K H (vs ++ ws) (ds ++ es)
  | _, _, _, _, .nil, h => h
  | _, _, _, _, .cons r t, h => .cons r (dqa_app t h)
theorem dq_ty {v : V} {d : PyData} (h : Dq K H v d) : TyX K H v (.type (tyOf d)) := by
  cases h with
  | non => exact .base .non
  | bl b => exact .base (.bl b)
  | int i => exact .base (.int i)
  | str x => exact .base (.str x)
  | lst hs ha =>
    rcases hs with (h | ⟨o, h⟩) | ⟨o, its, n, h, c, _⟩
    · exact .base (.lst h)
    · exact .base (.frz h)
    · exact .kList h c
  | tup hs ha =>
    rcases hs with (h | ⟨o, h⟩) | ⟨o, its, n, h, c, _⟩
    · exact .base (.tup h)
    · exact .fTuple h
    · exact .kTuple h c
  | dct h => exact .base (.dK h)
end
section
variable {K : PySem.W.Frag} {σ : L2.St} {H : Hp} {te tb : TE} {v w : V} {d e : PyData} {b : Bool}
theorem evq_isi {n : String} (h : Evl.Ev te σ H v) (hd : Dq K H v d) (hb : kitB (tyOf d) n = some b) : Evl.Ev (tCB (rIsi K) (tCons te (tCons (tC (.ty n)) tNil))) σ H (.bl b) := fun H1 e1 Q q =>
  h H1 e1 _ fun H2 e2 => ⟨v, .ty n, _, _, b, rfl, .ty n, dq_ty (hd.up (e1.trans e2)), kit_ty hb, q H2 e2⟩
theorem evq_isi2 {m n : String} (h : Evl.Ev te σ H v) (hd : Dq K H v d) (hb : kitsB (tyOf d) [m, n] = some b) : Evl.Ev (tCB (rIsiT K) (tCons te (tCons (tTup (tCons (tC (.ty m)) (tCons (tC (.ty n)) tNil))) tNil))) σ H (.bl b) := fun H1 e1 Q q =>
  h H1 e1 _ fun H2 e2 => ⟨by show 2 ≤ sizeLine; decide, fun p hp => ⟨v, p, _, _, _, b, rfl, upd_same, tys_cls (ns := [m, n]), dq_ty (hd.up ((e1.trans e2).trans (Ex.new hp))), kitsB_ok hb, q _ (e2.trans (Ex.new hp))⟩⟩
end
end U

set_option Elab.async false
set_option linter.all false
set_option maxRecDepth 100000
set_option maxHeartbeats 4000000
namespace UX
open PySem PySem.W PySem.Calls PyProof.Rows PySem.HandSPX
section
variable {M : Model} {A : Around} {E : Value → Shared → Prop} {h : Heap} {g : Array GenState} {d : Drawn} {t : Nat} {os : OsState}
variable {nm q : Str} {C N : Addr} {bs bm bmB : List Value} {hd : Bool} {sn : List Str} {sub : List Value} {ab : Bool} {col : Option Bool} {dd : Option Addr} {k0 k1 k2 k3 k5 : Option Value} {B nid iid : String}
/-- keywords are no fault of a call of such a __new__ -/
theorem kw_check (F : ExcBaseFacts B nid iid bmB) (hT : ∀ X : String, bm.contains (.type X) = bmB.contains (.type X)) {kw : List (Str × Value)} {Q : Unit → Shared → Prop}
    (hC : h.get? C = some (excClassObj nm q C N bs bm hd sn sub ab col dd k0 k1 k2 k3 k5 nid)) (hq : Q () ⟨h, g, d, t, os⟩) : wpAny M A (checkBuiltinCall nid ⟨[.ref C], kw⟩) Q E ⟨h, g, d, t, os⟩ := by
  have inB : (Value.ref C :: bm).contains (.type B) = true := (List.contains_cons ..).trans (by rw [hT, F.hasB]; exact Bool.or_true _)
  have star := F.noStar
  simp only [checkBuiltinCall, F.newKind, F.newSplit, F.newRow]
  repeat (first | refine wpAny_loadPart_at hC ?_ | (refine wpAny_isSubtype_exc hC ?_; rw [inB]) | refine wpAny_staticBase_exc hC ?_ | refine wpAny_madeBy_exc hC ?_ | (simp only [bne_self_eq_false, Bool.false_eq_true, if_false]) | wp_step)
  exact hq
end
section
variable {prog : Program} {w : World} {A : Around} {E : Value → Shared → Prop} {R : Result → Shared → Prop} {h : Heap} {g : Array GenState} {d : Drawn} {t : Nat} {os : OsState}
variable {nm q : Str} {C N : Addr} {bs bm bmB : List Value} {hd : Bool} {sn : List Str} {sub : List Value} {ab : Bool} {col : Option Bool} {dd : Option Addr} {k0 k1 k2 k3 k5 : Option Value} {B nid iid : String}
/-- the heap behind the making of an exception without arguments -/
abbrev mkd (h : Heap) (C : Addr) : Heap := (h.push (kdv_tup [])).push (excO C h.objs.size)
theorem kw_new (F : ExcBaseFacts B nid iid bmB) (hT : ∀ X : String, bm.contains (.type X) = bmB.contains (.type X)) {kw : List (Str × Value)} (hC : h.get? C = some (excClassObj nm q C N bs bm hd sn sub ab col dd k0 k1 k2 k3 k5 nid))
    (hq : R (.ok (.ret (.ref (h.objs.size + 1)))) ⟨mkd h C, g, d, t, os⟩) : codeAny (model prog w) A (.builtin nid ⟨[.ref C], kw⟩) R ⟨h, g, d, t, os⟩ := by
  have ends := F.ends
  have inB : (Value.ref C :: bm).contains (.type B) = true := (List.contains_cons ..).trans (by rw [hT, F.hasB]; exact Bool.or_true _)
  have noA : (Value.ref C :: bm).contains (.type "AttributeError") = false := (List.contains_cons ..).trans (by rw [hT, F.noAttr]; rfl)
  have noN : (Value.ref C :: bm).contains (.type "NameError") = false := (List.contains_cons ..).trans (by rw [hT, F.noName]; rfl)
  have none0 : ([] : List Value).length ≤ sizeLine := Nat.zero_le _
  refine codeAny_builtinAt F.entry ?_
  unfold Builtin.«BaseException.__new__»
  refine PySem.wpAt_bind ?_
  show PySem.wpAt _ _ _ (stack >>= _) _ _ _
  refine PySem.wpAt_bind (PySem.wpAt_stack fun p below => PySem.wpAt_of_wpAny ?_)
  wp_walk
  refine PySem.wpAt_of_wpAny ?_
  rw [F.owner]
  repeat (first | with_reducible refine wpAny_madeHere_exc F.canon hC ?_ | with_reducible refine wpAny_loadPart_at hC ?_ | (with_reducible refine wpAny_isSubtype_exc hC ?_; first | rw [inB] | rw [noA] | rw [noN]) | wp_step)
  show R _ _
  rw [Heap.size_push]
  exact hq
theorem kw_type (F : ExcBaseFacts B nid iid bmB) (hT : ∀ X : String, bm.contains (.type X) = bmB.contains (.type X)) {kw : List (Str × Value)} {fI : Addr} {Q : Fin → Shared → Prop} (hC : h.get? C = some (excClassObj nm q C N bs bm hd sn sub ab col dd k0 k1 k2 k3 k5 nid))
    (hi : Looks (model prog w) h (typeLookup (.ref C) "__init__") (some (.ref fI))) (hb : ∀ self, Looks (model prog w) h (bindSpecial (.ref fI) self) (.ref fI, [self]))
    (hq : codeAny (model prog w) A (.call (.ref fI) ⟨[.ref (h.objs.size + 1)], kw⟩) (fun r s' => match r with | .ok (.ret v) => v = .none ∧ Q (.done (.ret (.ref (h.objs.size + 1)))) s' | .ok _ => False | .error e => E e s') ⟨mkd h C, g, d, t, os⟩) :
    wpAny (model prog w) A (Builtin.«type.__call__» ⟨[.ref C], kw⟩) Q E ⟨h, g, d, t, os⟩ := by
  repeat (first | with_reducible refine wpAny_loadPart_at hC ?_ | with_reducible refine wpAny_madeBy_exc hC ?_ | wp_step)
  refine codeAny_call_builtin_code (Code.quiet_builtin _ F.quiet) (kw_check F hT hC ?_)
  refine kw_new F hT hC ?_
  show wpAny _ _ _ _ _ _
  have kp : ∀ b o, h.get? b = some o → (mkd h C).get? b = some o := fun b o e => Heap.get?_push_of_some _ (Heap.get?_push_of_some _ e)
  have hC1 := kp _ _ hC
  have get1 : (mkd h C).get? (h.objs.size + 1) = some (excO C h.objs.size) := by heap_get
  have self1 : (Value.ref C :: bm).contains (.ref C) = true := by simp
  have i1 := hi.keeps kp
  have b1 := (hb (.ref (h.objs.size + 1))).keeps kp
  unfold isInstance
  repeat (first | with_reducible refine wpAny_loadPart_at get1 ?_ | (with_reducible refine wpAny_isSubtype_exc hC1 ?_; rw [self1]) | wp_step)
  show wpAny _ _ (typeLookup (.ref C) _) _ _ _
  refine i1.at ?_
  refine wpAny_holding (wpAny_bind (b1.at ?_))
  refine wpAny_bind (wpAny_call (codeAny_mono hq fun r s' z => ?_))
  cases r with
  | error e => exact z
  | ok fl =>
    cases fl with
    | ret v =>
      obtain ⟨rfl, z⟩ := z
      first
        | exact wpAny_pure (wpAny_pure z)
        | (wp_walk; exact z)
    | next => exact z.elim
    | brk => exact z.elim
    | cont => exact z.elim
theorem kw_call (F : ExcBaseFacts B nid iid bmB) (hT : ∀ X : String, bm.contains (.type X) = bmB.contains (.type X)) {kw : List (Str × Value)} {fI : Addr} (hC : h.get? C = some (excClassObj nm q C N bs bm hd sn sub ab col dd k0 k1 k2 k3 k5 nid))
    (hi : Looks (model prog w) h (typeLookup (.ref C) "__init__") (some (.ref fI))) (hb : ∀ self, Looks (model prog w) h (bindSpecial (.ref fI) self) (.ref fI, [self]))
    (hq : codeAny (model prog w) (A.under (.builtin "type.__call__" ⟨[.ref C], kw⟩)) (.call (.ref fI) ⟨[.ref (h.objs.size + 1)], kw⟩) (InitBack (h.objs.size + 1) R) ⟨mkd h C, g, d, t, os⟩) :
    codeAny (model prog w) A (.call (.ref C) ⟨[], kw⟩) R ⟨h, g, d, t, os⟩ := by
  have f1 := tc_lookup
  have f2 := tc_bind (.ref C)
  have tyC : (⟨h, g, d, t, os⟩ : Shared).TypeIs (.ref C) "type" := ⟨_, hC, rfl⟩
  refine codeAny_of_tree ?_
  show wpAny _ _ (callAny (.ref C) _) _ _ _
  repeat (any_goals (first | assumption | with_reducible refine wpAny_loadPart_at hC ?_ | wp_step))
  refine ⟨rfl, ?_⟩
  refine codeAny_call_builtin_at (Code.quiet_builtin _ (by decide +kernel)) entry_typeCall (wpAny_check_type_call_sub hC (kw_type F hT hC hi hb ?_))
  refine codeAny_mono hq fun r s' z => ?_
  cases r with
  | error e => exact z
  | ok fl => cases fl <;> exact z
end
end UX

set_option Elab.async false
set_option linter.all false
set_option maxRecDepth 100000
set_option maxHeartbeats 4000000
namespace U
open PySem L2 PyProof.Rows
open Evl (Ex)
/-! ### errors of the text as values -/
/-- what a class of errors with its own __init__(self, f) says -/
structure ErrC (P : Program) (w : World) (K : PySem.W.Frag) (mg : Str → Option Value) (base : Heap) (x : Str) (C : Addr) (f : Str) : Prop where
  T : OexC K C
  gC : mg x = some (.ref C)
  xf : XfC K C
  no : PySem.W.findIn K (.ref C) f = some none
  init : ∃ (fI : Addr) (fd : FuncData), PySem.W.findIn K (.ref C) "__init__" = some (some (.ref fI)) ∧ PySem.W.typeIn K (.ref fI) = some (.type "function") ∧
    FnOk P w K mg base CX0 1 fI fd ["self", f] (fun vs H Q _ => ∃ (a : Addr) (v : V), vs = [.ref a, v] ∧ H a = some (exo a C none) ∧ ∀ dx, H dx = none → dx ≠ a → Q .non (upd (upd H dx (exd dx [(f, v)])) a (exo a C (some dx)))) ∧
    Binds K fd ["self", f] [] ∧ (∀ (s : Shared) (u v : Value), BindsTo s fd ⟨[u], [(f, v)]⟩ [("self", u), (f, v)])
/-- at a an error of the class at C whose attribute f is v -/
def ErrAt (H : Hp) (a C : Addr) (f : Str) (v : V) : Prop := ∃ d : Addr, H a = some (exo a C (some d)) ∧ H d = some (exd d [(f, v)])
theorem ErrAt.up {H H' : Hp} {a C : Addr} {f : Str} {v : V} (h : ErrAt H a C f v) (e : Ex H H') : ErrAt H' a C f v := by
  obtain ⟨d, h1, h2⟩ := h
  exact ⟨d, e _ _ h1, e _ _ h2⟩
/-- at a an error of the class at C -/
def ErrOf (H : Hp) (a C : Addr) : Prop := (∃ (d : Addr) (fs : List (Str × V)), H a = some (exo a C (some d)) ∧ H d = some (exd d fs)) ∨ H a = some (ExO (.ref C) a)
theorem ErrOf.up {H H' : Hp} {a C : Addr} (h : ErrOf H a C) (e : Ex H H') : ErrOf H' a C := by
  rcases h with ⟨d, fs, h1, h2⟩ | h1
  · exact .inl ⟨d, fs, e _ _ h1, e _ _ h2⟩
  · exact .inr (e _ _ h1)
theorem ErrAt.of {H : Hp} {a C : Addr} {f : Str} {v : V} (h : ErrAt H a C f v) : ErrOf H a C := by
  obtain ⟨d, h1, h2⟩ := h
  exact .inl ⟨d, _, h1, h2⟩
theorem err_laid {H : Hp} {a dx C : Addr} {f : Str} {v : V} (ha : H a = none) (hd : H dx = none) (n : dx ≠ a) :
    Ex H (upd (upd (upd H a (exo a C none)) dx (exd dx [(f, v)])) a (exo a C (some dx))) ∧ ErrAt (upd (upd (upd H a (exo a C none)) dx (exd dx [(f, v)])) a (exo a C (some dx))) a C f v := by
  refine ⟨fun b o e => ?_, dx, upd_same, ?_⟩
  · have n1 : b ≠ a := ne_of_none e ha
    have n2 : b ≠ dx := ne_of_none e hd
    rw [upd_ne n1, upd_ne n2, upd_ne n1]
    exact e
  · rw [upd_ne n, upd_same]
section
variable {X : Cx} {x f : Str} {C : Addr} {e : Expr} {te : TE} {p pos kpos apos : Pos}
/-- X(e): a new error -/
def tErr (C : Addr) (f : Str) (te : TE) : TE := fun σ H Q => te σ H fun v H1 => ∀ a H2, H1 a = none → Ex H1 H2 → ErrAt H2 a C f v → Q (.ref a) H2
theorem err_size {us : List Value} (h : us.length ≤ 1) : us.length ≤ sizeLine := by
  rw [sizeLine_eq]
  omega
theorem pe_err (R : ErrC X.prog X.w X.K X.mg X.base x C f) (hr : Room 2 X.A) (hg : Gl X x) (he : PE X e te) (hdb : (x == ("__debug__" : Str)) = false := by decide)
    (hs : starEach [e] X.env = (false, eval e X.env) :: starEach [] X.env := by rfl) : PE X (.Call (.Name x p) [e] [] pos) (tErr C f te) := by
  refine ⟨fun pins s σ H Q I h => ?_⟩
  obtain ⟨fI, fd, iC, tI, F1, hb, _⟩ := R.init
  obtain ⟨nm, q, N, bs, bm, sn, sub, ab, col, dd, k0, k1, k2, k3, k5, hC, hbm⟩ := R.T.cls
  refine wpAny_Call_Name_kw (ld_glob I hg R.gC ?_ hdb)
  refine PySem.W.callWith_K (h₀ := X.base) I.ok.mod.kin R.T.kC ?_ hs (by rfl)
  rw [hs]
  show wpAny _ _ (spliced ((false, eval e X.env) :: backTo pos (starEach [] X.env))) _ _ s
  refine Calls.spliced_cons (thn (he.run pins s σ H _ I h) fun u s1 ⟨v, H1, I1, r1, q1⟩ => Calls.spliced_nil ⟨I1.kIn, ?_⟩)
  show wpAny _ _ (call (.ref C) [u]) _ _ _
  obtain ⟨hp, g, dr, tk, os⟩ := s1
  have hsz : hp.objs.size ≤ hp.objs.size + 1 := Nat.le_succ _
  have hn : H1 (hp.objs.size + 1) = none := I1.hok.fresh hsz
  have kk : ∀ b o, hp.get? b = some o → ((hp.push (PySem.W.kdv_tup [u])).push (PySem.HandSPX.excO C hp.objs.size)).get? b = some o := fun b o z => Heap.get?_push_of_some _ (Heap.get?_push_of_some _ z)
  have hget : ((hp.push (PySem.W.kdv_tup [u])).push (PySem.HandSPX.excO C hp.objs.size)).get? (hp.objs.size + 1) = some (PySem.HandSPX.excO C hp.objs.size) := by heap_get
  have I2 : Inv X pins σ (upd H1 (hp.objs.size + 1) (exo (hp.objs.size + 1) C none)) ⟨(hp.push (PySem.W.kdv_tup [u])).push (PySem.HandSPX.excO C hp.objs.size), g, dr, tk, os⟩ :=
    I1.laid (t' := tk) (a := hp.objs.size + 1) (o := exo (hp.objs.size + 1) C none) (h' := (hp.push (PySem.W.kdv_tup [u])).push (PySem.HandSPX.excO C hp.objs.size)) kk hsz (exo_ok hget)
  have r2 : Vals [V.ref (hp.objs.size + 1), v] [Value.ref (hp.objs.size + 1), u] := .cons rfl (.cons r1 .nil)
  have bt := hb _ [Value.ref (hp.objs.size + 1), u] I2.kIn rfl
  rw [List.append_nil] at bt
  refine wpAny_call (PySem.HandSPX.call_own PySem.F.excBase_ValueError (fun Y => PySem.HandSPX.refsVE_contains Y bm hbm) (I1.kIn _ _ hC) (PySem.W.looks_findIn I1.kIn iC) (fun self => PySem.W.bind_fn I1.kIn self tI) (err_size (Nat.le_refl 1))
    (codeAny_mono (F1.run _ X.stack _ _ ⟨[Value.ref (hp.objs.size + 1), u], []⟩ [Value.ref (hp.objs.size + 1), u] _ (fun y H2 => y = .non ∧ Q (.ref (hp.objs.size + 1)) H2) (fun _ _ _ => False) (hr.make C [u] []) (I2.env0.make C [u] []) bt r2
      ⟨_, v, rfl, upd_same, fun dx hdx nx => ⟨rfl, ?_⟩⟩) fun r s' hq' => ?_))
  · have hd1 : H1 dx = none := by
      rw [upd_ne nx] at hdx
      exact hdx
    obtain ⟨z1, z2⟩ := err_laid (C := C) (f := f) (v := v) hn hd1 nx
    exact q1 _ _ hn z1 z2
  · cases r with
    | error er => exact False.elim hq'
    | ok fl =>
      cases fl with
      | ret u' =>
        obtain ⟨y, H', I3, ry, ey, q3⟩ := I2.after hq'
        subst ey
        exact ⟨ry, ⟨V.ref (hp.objs.size + 1), H', I3, rfl, q3⟩⟩
      | next => exact False.elim hq'
      | brk => exact False.elim hq'
      | cont => exact False.elim hq'
/-- of a list with one item -/
def only1 (R : V → Hp → Prop) : List V → Hp → Prop
  | [v], H => R v H
  | _, _ => False
theorem only1_is {R : V → Hp → Prop} : ∀ {vs : List V} {H : Hp}, only1 R vs H → ∃ v, vs = [v] ∧ R v H
  | [v], _, h => ⟨v, rfl, h⟩
  | [], _, h => h.elim
  | _ :: _ :: _, _, h => h.elim
/-- X(f=e) -/
theorem pe_errK (R : ErrC X.prog X.w X.K X.mg X.base x C f) (hr : Room 2 X.A) (hg : Gl X x) (he : PE X e te) (hdb : (x == ("__debug__" : Str)) = false := by decide) : PE X (.Call (.Name x p) [] [⟨some f, e, kpos⟩] pos) (tErr C f te) := by
  refine ⟨fun pins s σ H Q I h => ?_⟩
  obtain ⟨fI, fd, iC, tI, F1, _, hb⟩ := R.init
  obtain ⟨nm, q, N, bs, bm, sn, sub, ab, col, dd, k0, k1, k2, k3, k5, hC, hbm⟩ := R.T.cls
  refine wpAny_Call_Name_kw (ld_glob I hg R.gC ?_ hdb)
  have hk : PK X [⟨some f, e, kpos⟩] (tCons te tNil) := pk_cons he pk_nil
  refine PySem.W.callWith_KW0 (h₀ := X.base) I.ok.mod.kin R.T.kC (by rfl) (thn (hk.run pos pins s σ H (only1 fun v H1 => ∀ a H2, H1 a = none → Ex H1 H2 → ErrAt H2 a C f v → Q (.ref a) H2) I h) fun us s1 ⟨vs, H1, I1, r1, q0⟩ => ⟨I1.kIn, ?_⟩)
  obtain ⟨v, ev, q1⟩ := only1_is q0
  subst ev
  obtain ⟨u, eu, r9⟩ := Vals.one r1
  subst eu
  show wpAny _ _ (call (.ref C) [] [(f, u)]) _ _ _
  obtain ⟨hp, g, dr, tk, os⟩ := s1
  have hsz : hp.objs.size ≤ hp.objs.size + 1 := Nat.le_succ _
  have hn : H1 (hp.objs.size + 1) = none := I1.hok.fresh hsz
  have kk : ∀ b o, hp.get? b = some o → (UX.mkd hp C).get? b = some o := fun b o z => Heap.get?_push_of_some _ (Heap.get?_push_of_some _ z)
  have hget : (UX.mkd hp C).get? (hp.objs.size + 1) = some (PySem.HandSPX.excO C hp.objs.size) := by heap_get
  have I2 : Inv X pins σ (upd H1 (hp.objs.size + 1) (exo (hp.objs.size + 1) C none)) ⟨UX.mkd hp C, g, dr, tk, os⟩ :=
    I1.laid (t' := tk) (a := hp.objs.size + 1) (o := exo (hp.objs.size + 1) C none) (h' := UX.mkd hp C) kk hsz (exo_ok hget)
  have r2 : Vals [V.ref (hp.objs.size + 1), v] [Value.ref (hp.objs.size + 1), u] := .cons rfl (.cons r9 .nil)
  have bt := hb ⟨UX.mkd hp C, g, dr, tk, os⟩ (Value.ref (hp.objs.size + 1)) u
  refine wpAny_call (UX.kw_call PySem.F.excBase_ValueError (fun Y => PySem.HandSPX.refsVE_contains Y bm hbm) (I1.kIn _ _ hC) (PySem.W.looks_findIn I1.kIn iC) (fun self => PySem.W.bind_fn I1.kIn self tI)
    (codeAny_mono (F1.run _ X.stack _ _ ⟨[Value.ref (hp.objs.size + 1)], [(f, u)]⟩ [Value.ref (hp.objs.size + 1), u] _ (fun y H2 => y = .non ∧ Q (.ref (hp.objs.size + 1)) H2) (fun _ _ _ => False) (hr.make C [] [(f, u)]) (I2.env0.make C [] [(f, u)]) bt r2
      ⟨_, v, rfl, upd_same, fun dx hdx nx => ⟨rfl, ?_⟩⟩) fun r s' hq' => ?_))
  · have hd1 : H1 dx = none := by
      rw [upd_ne nx] at hdx
      exact hdx
    obtain ⟨z1, z2⟩ := err_laid (C := C) (f := f) (v := v) hn hd1 nx
    exact q1 _ _ hn z1 z2
  · cases r with
    | error er => exact False.elim hq'
    | ok fl =>
      cases fl with
      | ret u' =>
        obtain ⟨y, H', I3, ry, ey, q3⟩ := I2.after hq'
        subst ey
        exact ⟨ry, ⟨V.ref (hp.objs.size + 1), H', I3, rfl, q3⟩⟩
      | next => exact False.elim hq'
      | brk => exact False.elim hq'
      | cont => exact False.elim hq'
/-- e.f, e an error that stands -/
def tErrF (K : PySem.W.Frag) (f : Str) (te : TE) : TE := fun σ H Q => te σ H fun x H1 => ∃ (a C : Addr) (v : V), x = .ref a ∧ XfC K C ∧ PySem.W.findIn K (.ref C) f = some none ∧ ErrAt H1 a C f v ∧ Q v H1
theorem pe_errF (he : PE X e te) (hb : attributeBase e f X.env (eval e X.env) = eval e X.env := by rfl) : PE X (.Attribute e f pos) (tErrF X.K f te) := by
  refine ⟨fun pins s σ H Q I h => ?_⟩
  refine attr_of hb (thn (he.run pins s σ H _ I h) fun u s1 hh => ?_)
  obtain ⟨x, H1, I1, rx, a, C, v, ex, R, hno, ⟨d, ea, ed⟩, q⟩ := hh
  subst ex
  obtain rfl : u = Value.ref a := rx
  obtain ⟨t1, ho⟩ := exo_at I1.hok ea
  obtain ⟨mA, hns, rel⟩ := exd_at I1.hok ed
  obtain ⟨od, hd, hl⟩ := lookIn_ns hns
  have l1 : [(f, v)].lookup f = some v := by simp [List.lookup]
  obtain ⟨y, hy, ry⟩ := RelO.some_of (v := v) (o := mA f) (by rw [← l1]; exact rel f)
  have J : PySem.W.InstAt s1.heap a { cls := .ref C, dict := some d, data := .fields #[.ref t1, .none, .none, .none, .bool false, .none] } C (some od) := ⟨ho, rfl, rfl, hd⟩
  exact HandSPX.exc_get I1.kIn J R.ga R.gg R.exC (PySem.W.findObj_own R.hdC hno rfl (by rw [hl, hy])) (handed_of ry) ⟨v, H1, I1.tok _, ry, q⟩
/-- X(): an error of a class without own __init__ -/
theorem pe_err0 {bmB : List Value} {B nid iid : String} (F : ExcBaseFacts B nid iid bmB) (q : PySem.W.excIn X.K C bmB nid = true) (gC : X.mg x = some (.ref C)) (kC : PySem.W.keepIn X.K (.ref C) = true) (hg : Gl X x) (hdb : (x == ("__debug__" : Str)) = false := by decide) :
    PE X (.Call (.Name x p) [] [] pos) (fun _ H Q => ∀ a, H a = none → Q (.ref a) (upd H a (ExO (.ref C) a))) := by
  refine ⟨fun pins s σ H Q I h => ?_⟩
  refine wpAny_Call_Name_kw (ld_glob I hg gC ?_ hdb)
  refine PySem.W.callWith_K0 I.kIn kC ?_
  show wpAny _ _ (call (.ref C) []) _ _ _
  obtain ⟨bm, N, nm, qn, bs, hdct, sn, sub, ab, col, dd, k0, k1, k2, k3, k5, mN, hC, hN, hni, T⟩ := exc_obj I.kIn q
  refine wpAny_call_exc_subT F T hC hN hni (fun h' a hm => ?_) (Nat.zero_le _)
  have hn : H a = none := I.hok.gone hm.new
  obtain ⟨t, ht, _, _⟩ := hm.there
  exact ⟨.ref a, upd H a (ExO (.ref C) a), I.laidN hm.keeps hm.new hn (exO_ok ht ⟨rfl, rfl⟩ rfl rfl rfl (show 4 < 6 by decide)), rfl, h a hn⟩
/-- what the class D says, so that isinstance asks its instances rightly -/
structure IsiC (K : PySem.W.Frag) (D : Addr) : Prop where
  cl : (PySem.W.clsIn K D).isSome = true
  hg : PySem.W.findIn K (.ref D) "__getattribute__" = some (some (.builtin "BaseException.__getattribute__"))
  hk : PySem.W.findIn K (.ref D) "__getattr__" = some none
  hs : PySem.W.subIn K (.ref D) (.type "BaseException") = some true
  ha : PySem.W.findIn K (.ref D) "__class__" = some (some (.builtin "object.__class__"))
  hn : PySem.W.specialIn K (.builtin "object.__class__") "__get__" = some (some (.builtin "getset_descriptor.__get__"))
  ht : PySem.W.takesIn K (.builtin "object.__class__") = some true
  hm : PySem.W.mroIn K D (.type "object") = some true
/-- isinstance(e, c), e an error that stands -/
def rIsErr (K : PySem.W.Frag) : List V → Hp → VK → Prop := fun xs H Q => ∃ (a D : Addr) (c : V) (cv : Value) (b : Bool), xs = [.ref a, c] ∧ ErrOf H a D ∧ IsiC K D ∧ ClsV c cv ∧ PySem.W.kitOne K (.ref D) cv = some b ∧ Q (.bl b) H
theorem call_isErr : CallR X (.builtin "isinstance") (rIsErr X.K) := by
  intro pins s σ H xs us Q I r h
  obtain ⟨a, D, c, cv, b, rfl, he, Z, hc, e, q⟩ := h
  obtain ⟨u1, u2, rfl, r1, r2⟩ := vals2 r
  have e2 := hc.eq r2
  subst e2
  obtain rfl : u1 = Value.ref a := r1
  have J : ∃ (ox : Obj) (od : Option Obj), PySem.W.InstAt s.heap a ox D od := by
    rcases he with ⟨d, fs, ea, ed⟩ | ea
    · obtain ⟨t1, ho⟩ := exo_at I.hok ea
      obtain ⟨mA, hns, rel⟩ := exd_at I.hok ed
      obtain ⟨od, hd, hl⟩ := lookIn_ns hns
      exact ⟨_, some od, ho, rfl, rfl, hd⟩
    · obtain ⟨⟨oe, vs, h1, h2, h3, _⟩, _, _⟩ := (show ObjOk X.prog X.w H s.heap a (.ext _) from I.hok a _ ea)
      refine ⟨oe, none, h1, h2.1, ?_, ?_⟩
      · unfold PySem.W.notCls
        rw [h3]
      · rw [h2.2]
        trivial
  obtain ⟨ox, od, J⟩ := J
  exact PySem.W.kia_one (PySem.W.kitx_exc Z.cl Z.hg Z.hk Z.hs Z.ha Z.hn Z.ht Z.hm) I.kIn J e (fun z => nomatch z) fun tk => ⟨.bl b, H, I.tok tk, rfl, q⟩
end
end U

set_option Elab.async false
set_option linter.all false
set_option maxRecDepth 100000
set_option maxHeartbeats 4000000
namespace UE
open PySem PySem.Spec PyProof.Rows L2
open AutoSeq1 (wpAny_loadPart')
/-! ### enumerate of a tuple -/
theorem meets_enumT (t : Addr) (its : Array Value) (n : Nat) (dd : Option Addr) (sl : Array (Option Value)) :
    Meets (Builtin.«enumerate.__new__» ⟨[.type "enumerate", .ref t], []⟩) (fun _ R s => s.heap.get? t = some { cls := .type "tuple", dict := dd, data := .seq its n, slots := sl } ∧
      R (.ok (.ret (.ref (s.heap.push { cls := .type "tuple_iterator", data := .fields #[.ref t, .int 0 0] }).objs.size)))
        { s with heap := (s.heap.push { cls := .type "tuple_iterator", data := .fields #[.ref t, .int 0 0] }).push { cls := .type "enumerate", data := .fields #[.none, .bool false, .ref s.heap.objs.size, rawInt 0, .none, .none] } }) :=
  .of_wp fun prog w A R s hyp => by
    obtain ⟨hp, g, d, tk, os⟩ := s
    obtain ⟨ht, hyp⟩ := hyp
    have sub := sub_enumerate
    have hT : Heap.IsTuple (Shared.heap ⟨hp, g, d, tk, os⟩) t its := ⟨_, ht, rfl, n, rfl⟩
    wp_walk using wpAny_loadPart' ht
    refine wpAny_stack_any fun st => wpAny_pure ?_
    split
    · rename_i c _ _ _ _ _
      cases (c == Value.type "enumerate") <;>
      · wp_walk using wpAny_loadPart' ht, wpAny_pyIter_tuple hT
        exact ⟨_, rfl, hyp⟩
    · wp_walk using wpAny_loadPart' ht, wpAny_pyIter_tuple hT
      exact ⟨_, rfl, hyp⟩
section
variable {prog : Program} {w : World} {A : Around} {E : Value → Shared → Prop} {s : Shared}
theorem call_enumT {t : Addr} {its : Array Value} {Q : Value → Shared → Prop} (hT : s.heap.IsTuple t its)
    (hyp : ∀ h', IsEnum h' (s.heap.objs.size + 1) s.heap.objs.size 0 .none → h'.IsTupleIter s.heap.objs.size t 0 → h'.objs.size = s.heap.objs.size + 2 → (∀ b o, s.heap.get? b = some o → h'.get? b = some o) → Q (.ref (s.heap.objs.size + 1)) { s with heap := h' }) :
    wpAny (model prog w) A (call (.type "enumerate") [.ref t]) Q E s := by
  obtain ⟨⟨c, dd, dt, sl⟩, ht, hc, n, hd⟩ := hT
  obtain rfl : c = .type "tuple" := hc
  obtain rfl : dt = .seq its n := hd
  refine callType_new F.called_enumerate (by decide) (F.typeCall_enumerate_1 _) (F.newCall_enumerate_1 _) (fun ob => F.args_object_init_2 ob _) F.entry_enumerate_new (meets_enumT t its n dd sl) ⟨ht, ?_⟩
  have sz : (s.heap.push { cls := .type "tuple_iterator", data := .fields #[.ref t, .int 0 0] }).objs.size = s.heap.objs.size + 1 := Heap.size_push ..
  show _ ∧ _
  rw [sz]
  have he : IsEnum ((s.heap.push { cls := .type "tuple_iterator", data := .fields #[.ref t, .int 0 0] }).push { cls := .type "enumerate", data := .fields #[.none, .bool false, .ref s.heap.objs.size, rawInt 0, .none, .none] }) (s.heap.objs.size + 1) s.heap.objs.size 0 .none := by
    have q := Heap.get?_push_size (s.heap.push { cls := .type "tuple_iterator", data := .fields #[.ref t, .int 0 0] }) (o := { cls := .type "enumerate", data := .fields #[.none, .bool false, .ref s.heap.objs.size, rawInt 0, .none, .none] }) rfl
    rw [sz] at q
    exact q
  exact ⟨⟨_, he, rfl⟩, hyp _ he ⟨_, Heap.get?_push_of_some _ (Heap.get?_push_size _ rfl), rfl, rfl⟩ (by rw [Heap.size_push, sz]) fun b o z => Heap.get?_push_of_some _ (Heap.get?_push_of_some _ z)⟩
end
/-- the tuple at a, each item in a new pair -/
def IteT (K : PySem.W.Frag) (a : Addr) : It :=
  ⟨fun i H => ∃ (xs : List V) (x : V), SqT K H a xs ∧ xs[i]? = some x, fun i H v H' => ∃ T x, v = .ref T ∧ H T = none ∧ H' = upd H T (.tup [.int (i : Nat), x]) ∧ ∀ xs, SqT K H a xs → xs[i]? = some x, fun i H => ∃ xs : List V, SqT K H a xs ∧ xs.length ≤ i⟩
theorem turn_enumT {P : Program} {w : World} {K : PySem.W.Frag} {elts : List Expr} {kk : Nat} {tpos : Pos} (a e it : Addr) :
    Turn P w K (.Tuple elts kk tpos) (IteT K a) [e, it] e (fun i h => (∃ old, IsEnum h e it ((i : Nat) : Int) old) ∧ h.IsTupleIter it a i ∧ e ≠ it ∧ a ≠ it ∧ a ≠ e) where
  mem := by simp
  obj := fun i h st b hb => by
    obtain ⟨⟨old, he⟩, ⟨o, ho, hc, hd⟩, _⟩ := st
    have e' : b = e ∨ b = it := by simpa using hb
    rcases e' with z | z
    · rw [z]
      exact ⟨_, he, fun v q => nomatch q⟩
    · rw [z]
      exact ⟨o, ho, fun v q => by rw [hd] at q; cases q⟩
  keep := fun i h h' st k => by
    obtain ⟨⟨old, he⟩, hi, ne⟩ := st
    exact ⟨⟨old, k e (by simp) _ he⟩, hi.at fun o q => k it (by simp) o q, ne⟩
  item := by
    intro X hP hw hK hc i pins s σ H E I hf st hg
    subst hP hw hK
    obtain ⟨⟨old, he⟩, hit, n1, n2, n3⟩ := st
    obtain ⟨xs, x, hq, hx⟩ := hg
    obtain ⟨its, rv, p, hz⟩ := I.tuple hq
    obtain ⟨u, hu, ru⟩ := rv.get hx
    have le : e < s.heap.objs.size := Heap.lt_size he
    have li : it < s.heap.objs.size := by
      obtain ⟨_, q, _⟩ := hit
      exact Heap.lt_size q
    have hlt : i < its.toArray.size := by
      have z := (List.getElem?_eq_some_iff.mp hu).1
      simpa using z
    have D : Draws X.prog X.w X.A.in1 it [it, a] its.toArray.size (fun i v => its.toArray[i]? = some v) (fun i h => h.IsTupleIter it a i ∧ h.IsTuple a its.toArray) := Draws.tuple (show X.A.in1.handled = none from I.ok.hd hc) it a n2 its.toArray
    refine wpAny_pyNext_enum_itemD D he ⟨hit, p⟩ hlt n1 (by simp [n1, Ne.symm n3]) fun y h' tk hy ho hst hT sz kp => ?_
    obtain rfl : y = u := by
      have z : its.toArray[i]? = some u := by simpa using hu
      rw [hy] at z
      exact Option.some.inj z
    refine ⟨_, rfl, wpAny_letOwnedTupleGo_enum (s := { s with heap := h', toks := tk + 1 }) ho fun h'' he' sb => ?_⟩
    have hT2 : h''.get? s.heap.objs.size = some { cls := .type "tuple", data := .seq #[.int i tk, y] } := (sb.2 _ (Nat.ne_of_gt le)).trans hT
    have new : ObjOk X.prog X.w (upd H s.heap.objs.size (.tup [.int (i : Nat), x])) h'' s.heap.objs.size (.tup [.int (i : Nat), x]) := ⟨by show 2 ≤ sizeLine; decide, [.int i tk, y], .cons ⟨_, rfl⟩ (.cons ru .nil), ⟨_, hT2, rfl, _, rfl⟩⟩
    have I1 : Inv X pins σ (upd H s.heap.objs.size (.tup [.int (i : Nat), x])) { s with heap := h'', toks := tk + 1 } :=
      I.turnedNew (ch := [e, it]) (fun b ob hb q => (sb.2 b (fun z => hb (by simp [z]))).trans (kp b ob (fun z => hb (by simp [z])) (fun z => hb (by simp [z])) q)) hf (Nat.le_refl _) new
    refine ⟨.ref s.heap.objs.size, _, I1, rfl, ⟨_, x, rfl, I.hok.fresh (Nat.le_refl _), rfl, fun ys hy => by rw [I.tuple_inj hy hq]; exact hx⟩, ⟨⟨y, ?_⟩, hst.1.at fun o q => (sb.2 it (Ne.symm n1)).trans q, n1, n2, n3⟩, fun b hb => ?_⟩
    · have e1 : ((i + 1 : Nat) : Int) = (i : Int) + 1 := by omega
      rw [e1]
      exact he'
    · have hb' : b < s.heap.objs.size := by
        have e' : b = e ∨ b = it := by simpa using hb
        rcases e' with z | z
        · rw [z]
          exact le
        · rw [z]
          exact li
      rw [upd_ne (Nat.ne_of_lt hb')]
      exact (hf b hb).1
  done := by
    intro X hP hw hK hc i pins s σ H E I hf st hg
    subst hP hw hK
    obtain ⟨⟨old, he⟩, hit, n1, n2, n3⟩ := st
    obtain ⟨xs, hq, hx⟩ := hg
    obtain ⟨its, rv, p, hz⟩ := I.tuple hq
    obtain ⟨f0, f1, f2, f3, f4, f5⟩ := hf it (by simp)
    have hl := rv.length
    have hA : X.A.in1.handled = none := I.ok.hd hc
    have D : Draws X.prog X.w X.A.in1 it [it, a] i (fun _ _ => True) (fun k h => (h.IsTupleIter it a k ∧ h.IsTuple a its.toArray) ∧ k = i) :=
      { live := fun _ _ st => let ⟨o, ho, _⟩ := st.1.1; ⟨o, ho⟩
        frame := fun _ _ _ st hk => ⟨⟨st.1.1.at fun o e => hk it (by simp) o e, st.1.2.at fun o e => hk a (by simp) o e⟩, st.2⟩
        item := fun k s Q E hi st hQ => absurd st.2 (Nat.ne_of_lt hi)
        done := fun s Q E st hE => wpAny_nextOf_tuple_end hA st.1.1 st.1.2 (by simp; omega) hE }
    exact wpAny_pyNext_enum_endD D he ⟨⟨hit, p⟩, rfl⟩ fun h' eb => ⟨rfl, I.turned (t' := s.toks) (fun b o hb q => eb b o hb q) f0 f1 f3 f4 f5⟩
  self := fun A i s Q E st h => by
    obtain ⟨⟨_, he⟩, _⟩ := st
    exact wpAny_pyIter_enum he h
/-- enumerate of a tuple -/
def iEnumT (K : PySem.W.Frag) (ta : TA) : TI := fun σ H R => ta σ H fun vs H1 => ∃ a xs, vs = [.ref a] ∧ SqT K H1 a xs ∧ R (IteT K a) H1
theorem pi_enumT {X : Cx} {e : Expr} {ta : TA} {p pos tpos : Pos} {elts : List Expr} {kk : Nat} (hg : Gl X "enumerate") (hm : X.mg "enumerate" = none) (ha : PA X [e] ta) (hs : starEach [e] X.env = [(false, eval e X.env)] := by rfl) :
    PI X (.Tuple elts kk tpos) (.Call (.Name "enumerate" p) [e] [] pos) (iEnumT X.K ta) := by
  refine ⟨fun pins s σ H R I h => ?_⟩
  refine Call_ (ld_blt I hg hm boot_enumerate (PyProof.Rows.callWith_type1 (thn (ha.run pos pins s σ H _ I h) fun us s1 ⟨vs, H1, I1, r1, q1⟩ => ?_) hs rfl))
  obtain ⟨a, xs, ex, hq, q⟩ := q1
  subst ex
  cases r1 with
  | cons r rr =>
    cases rr
    cases r
    obtain ⟨its, rv, p', hz⟩ := I1.tuple hq
    obtain ⟨oT, hoT, _⟩ := id p'
    have la : a < s1.heap.objs.size := Heap.lt_size hoT
    refine call_enumT (its := its.toArray) p' fun h' he hit hsz hk => wpAny_pyIter_enum he ?_
    have I2 : Inv X pins σ H1 { s1 with heap := h' } := I1.kept (t' := s1.toks) hk
    refine ⟨s1.heap.objs.size + 1, [s1.heap.objs.size + 1, s1.heap.objs.size], _, _, H1, rfl, I2, turn_enumT a (s1.heap.objs.size + 1) s1.heap.objs.size, ⟨⟨.none, he⟩, hit, Nat.succ_ne_self _, Nat.ne_of_lt la, Nat.ne_of_lt (Nat.lt_succ_of_lt la)⟩, fun b hb => ?_, q⟩
    have e' : b = s1.heap.objs.size + 1 ∨ b = s1.heap.objs.size := by simpa using hb
    have hle : s1.heap.objs.size ≤ b := by
      rcases e' with z | z
      · rw [z]
        exact Nat.le_add_right _ _
      · rw [z]
        exact Nat.le_refl _
    exact I1.fpOk hle (I1.hok.fresh hle)
end UE

set_option Elab.async false
set_option linter.all false
set_option maxRecDepth 100000
set_option maxHeartbeats 4000000
namespace U
open PySem PySem.Spec PyProof.Rows L2
open Evl (Ex)
section
variable {X : Cx} {tg : Expr}
/-- a list or a tuple, item by item -/
def iSeq (K : PySem.W.Frag) (tl : TE) : TI := fun σ H R => tl σ H fun x H1 => ∃ a, x = .ref a ∧ (((∃ xs, SqL K H1 a xs) ∧ R (Itl K a) H1) ∨ ((∃ xs, SqT K H1 a xs) ∧ R (Itt K a) H1))
theorem pi_seq {l : Expr} {tl : TE} (hl : PE X l tl) : PI X tg l (iSeq X.K tl) := by
  refine ⟨fun pins s σ H R I h => ?_⟩
  refine thn (hl.run pins s σ H _ I h) fun v s1 ⟨x, H1, I1, r1, q1⟩ => ?_
  obtain ⟨a, e, q⟩ := q1
  subst e
  cases r1
  have fresh : ∀ b ∈ [s1.heap.objs.size], b = s1.heap.objs.size := fun b hb => by simpa using hb
  rcases q with ⟨⟨xs, hq⟩, q⟩ | ⟨⟨xs, hq⟩, q⟩
  · obtain ⟨its, rv, p, hz⟩ := I1.list hq
    refine wpAny_pyIter_list p.isList ?_
    refine ⟨s1.heap.objs.size, [s1.heap.objs.size], _, _, H1, rfl, I1.kept (t' := s1.toks) fun b o e => Heap.get?_push_of_some _ e, turn_list a _, ⟨_, Heap.get?_push_size _ rfl, rfl, rfl⟩, fun b hb => ?_, q⟩
    rw [fresh b hb]
    exact I1.fpOk (Nat.le_refl _) (I1.hok.fresh (Nat.le_refl _))
  · obtain ⟨its, rv, p, hz⟩ := I1.tuple hq
    refine wpAny_pyIter_tuple (show s1.heap.IsTuple a its.toArray from p) ?_
    refine ⟨s1.heap.objs.size, [s1.heap.objs.size], _, _, H1, rfl, I1.kept (t' := s1.toks) fun b o e => Heap.get?_push_of_some _ e, turn_tuple a _, ⟨_, Heap.get?_push_size _ rfl, rfl, rfl⟩, fun b hb => ?_, q⟩
    rw [fresh b hb]
    exact I1.fpOk (Nat.le_refl _) (I1.hok.fresh (Nat.le_refl _))
/-- enumerate of a list or a tuple -/
def iEnumA (K : PySem.W.Frag) (ta : TA) : TI := fun σ H R => ta σ H fun vs H1 => ∃ a xs, vs = [.ref a] ∧ ((SqL K H1 a xs ∧ R (Ite K a) H1) ∨ (SqT K H1 a xs ∧ R (UE.IteT K a) H1))
theorem pi_enumA {e : Expr} {ta : TA} {p pos tpos : Pos} {elts : List Expr} {kk : Nat} (hg : Gl X "enumerate") (hm : X.mg "enumerate" = none) (ha : PA X [e] ta) (hs : starEach [e] X.env = [(false, eval e X.env)] := by rfl) :
    PI X (.Tuple elts kk tpos) (.Call (.Name "enumerate" p) [e] [] pos) (iEnumA X.K ta) := by
  refine ⟨fun pins s σ H R I h => ?_⟩
  refine Call_ (ld_blt I hg hm boot_enumerate (PyProof.Rows.callWith_type1 (thn (ha.run pos pins s σ H _ I h) fun us s1 ⟨vs, H1, I1, r1, q1⟩ => ?_) hs rfl))
  obtain ⟨a, xs, ex, q⟩ := q1
  subst ex
  have hb2 : ∀ b ∈ [s1.heap.objs.size + 1, s1.heap.objs.size], s1.heap.objs.size ≤ b := fun b hb => by
    have e' : b = s1.heap.objs.size + 1 ∨ b = s1.heap.objs.size := by simpa using hb
    omega
  cases r1 with
  | cons r rr =>
    cases rr
    cases r
    rcases q with ⟨hq, q⟩ | ⟨hq, q⟩
    · obtain ⟨its, rv, p', hz⟩ := I1.list hq
      refine call_enumerate_list p'.isList fun h' he hit hsz hk => wpAny_pyIter_enum he ?_
      have I2 : Inv X pins σ H1 { s1 with heap := h' } := I1.kept (t' := s1.toks) hk
      exact ⟨s1.heap.objs.size + 1, [s1.heap.objs.size + 1, s1.heap.objs.size], _, _, H1, rfl, I2, turn_enum a (s1.heap.objs.size + 1) s1.heap.objs.size, ⟨⟨.none, he⟩, hit, Nat.succ_ne_self _⟩, fun b hb => I1.fpOk (hb2 b hb) (I1.hok.fresh (hb2 b hb)), q⟩
    · obtain ⟨its, rv, p', hz⟩ := I1.tuple hq
      obtain ⟨oT, hoT, _⟩ := id p'
      have la : a < s1.heap.objs.size := Heap.lt_size hoT
      refine UE.call_enumT (its := its.toArray) p' fun h' he hit hsz hk => wpAny_pyIter_enum he ?_
      have I2 : Inv X pins σ H1 { s1 with heap := h' } := I1.kept (t' := s1.toks) hk
      exact ⟨s1.heap.objs.size + 1, [s1.heap.objs.size + 1, s1.heap.objs.size], _, _, H1, rfl, I2, UE.turn_enumT a (s1.heap.objs.size + 1) s1.heap.objs.size, ⟨⟨.none, he⟩, hit, Nat.succ_ne_self _, Nat.ne_of_lt la, Nat.ne_of_lt (Nat.lt_succ_of_lt la)⟩, fun b hb => I1.fpOk (hb2 b hb) (I1.hok.fresh (hb2 b hb)), q⟩
end
section
variable {K : PySem.W.Frag} {a : Addr} {xs : List V}
theorem walk_enumT : Walk (UE.IteT K a) xs.length (fun H => SqT K H a xs) (YPair (fun i => some (.int (i : Nat))) (fun i => xs[i]?)) := by
  refine ⟨fun i _ hi q => ⟨xs, xs[i], q, by simp [hi]⟩, fun _ q => ⟨xs, q, Nat.le_refl _⟩, fun i H v H' _ q y => ?_⟩
  obtain ⟨T, x, h1, h2, h3, h4⟩ := y
  exact ⟨T, .int (i : Nat), x, h1, h2, h3, rfl, h4 xs q⟩
end
/-! ### a comprehension whose items are data -/
section
variable {K : PySem.W.Frag} {L : List Addr} {σ σ2 : L2.St} {H H' H1 H2 : Hp} {te tl : TE} {ta : TA} {tt : TT} {v : V} {d : PyData} {ds : List PyData} {l a Dl : Addr} {xs : List V} {f : Nat → List PyData} {i : Nat}
theorem w_past (hn : H Dl = none) (e : Ex H H') : Ex (W L H) (W (Dl :: L) H') := fun b o h => by
  obtain ⟨h1, n⟩ := w_in h
  have ne : b ≠ Dl := ne_of_none h1 hn
  exact w_of (fun m => (List.mem_cons.mp m).elim ne n) (e b o h1)
/-- evaluates to a new list of data -/
def EvG (K : PySem.W.Frag) (L : List Addr) (te : TE) (σ : L2.St) (H : Hp) (ds : List PyData) : Prop := ∀ H1, Ex H H1 → ∀ Q : VK, (∀ p H2, H1 p = none → Ex H1 H2 → Gr K L H2 p ds → Q (.ref p) H2) → te σ H1 Q
theorem EvG.mono (e : Ex H H') (h : EvG K L te σ H ds) : EvG K L te σ H' ds := fun H1 a Q q => h H1 (e.trans a) Q q
theorem EvG.dat (h : EvG K L te σ H ds) : EvD K L te σ H (.list ds) := fun H1 e Q q => h H1 e _ fun p H2 hp e2 g => q (.ref p) H2 e2 g.dp
def Cmd (K : PySem.W.Frag) (L : List Addr) (H : Hp) (f : Nat → List PyData) (Dl : Addr) (i : Nat) (H' : Hp) : Prop := H Dl = none ∧ Ex H H' ∧ Gr K L H' Dl (f i)
theorem cmd_0 (hL : Hid L H) (hn : H Dl = none) (f0 : f 0 = []) : Cmd K L H f Dl 0 (upd H Dl (.lst [])) := ⟨hn, Ex.new hn, by
  rw [f0]
  exact gr_new hL hn .nil⟩
theorem cmd_yes (p : Cmd K L H f Dl i H') (hz : (f i).length < 100000) (e2 : Ex H' H2) (he : EvD K (Dl :: L) te σ2 H2 d) (hf : f (i + 1) = f i ++ [d]) :
    te σ2 H2 fun y H4 => ∃ acc, H4 Dl = some (.lst acc) ∧ acc.length < sizeLine ∧ Cmd K L H f Dl (i + 1) (upd H4 Dl (.lst (acc ++ [y]))) := by
  obtain ⟨p1, p2, n, acc, p3, p4⟩ := p
  refine he H2 (Ex.refl H2) _ fun y H4 e4 hy => ⟨acc, e4 Dl _ (e2 Dl _ p3), Evl.sz_lt (by rw [dpa_len p4]; exact hz), p1, Evl.Ex.mut ((p2.trans e2).trans e4) p1, ?_⟩
  rw [hf]
  exact gr_app n (e4 Dl _ (e2 Dl _ p3)) (p4.up (w_ex (e2.trans e4))) hy
theorem cmd_no (p : Cmd K L H f Dl i H') (e2 : Ex H' H2) (hf : f (i + 1) = f i) : Cmd K L H f Dl (i + 1) H2 := by
  obtain ⟨p1, p2, p3⟩ := p
  rw [← hf] at p3
  exact ⟨p1, p2.trans e2, p3.up e2⟩
/-- [.. for x in a list or a tuple of data] -/
theorem eg_seq {j : Nat} {vs : List Nat} {g : PyData → PyData} (h : Evl.Ev tl σ H (.ref a)) (hx : SqL K H a xs ∨ SqT K H a xs) (hd : DpAll K (W L H) xs ds) (hL : Hid L H) (hz : ds.length ≤ 50000) (hw : ∀ x, wipe ((wipe σ vs).set j (some x)) vs = wipe σ vs)
    (he : ∀ L' (x : V) d H1, d ∈ ds → Hid L' H1 → Ex H H1 → Dp K (W L' H1) x d → EvD K L' te ((wipe σ vs).set j (some x)) H1 (g d)) : EvG K L (tLc (iSeq K tl) (gName j) tYes te vs) σ H (ds.map g) := fun H0 e0 Q q => h H0 e0 _ fun H1 e1 => by
  have hlen := dpa_len hd
  have turn : ∀ (Dl : Addr) (i : Nat) (x : V) (H2 H3 : Hp), i < xs.length → Cmd K L H1 (fun i => (ds.take i).map g) Dl i H2 → YAt xs i H2 x H3 → gName j x (wipe σ vs) H3 fun σ2 H2 => wipe σ2 vs = wipe σ vs ∧ tYes σ2 H2 fun b H3 =>
      if b = true then te σ2 H3 fun y H4 => ∃ acc, H4 Dl = some (.lst acc) ∧ acc.length < sizeLine ∧ Cmd K L H1 (fun i => (ds.take i).map g) Dl (i + 1) (upd H4 Dl (.lst (acc ++ [y]))) else Cmd K L H1 (fun i => (ds.take i).map g) Dl (i + 1) H3 := by
    intro Dl i x H2 H3 hi p yp
    obtain ⟨rfl, hu⟩ := yp
    obtain ⟨d, hd1, hd2⟩ := dpa_get hd hu
    obtain ⟨p1, p2, p3⟩ := id p
    refine ⟨hw x, ?_⟩
    refine yes_lc (A := fun H3 => te ((wipe σ vs).set j (some x)) H3 fun y H4 => ∃ acc, H4 Dl = some (.lst acc) ∧ acc.length < sizeLine ∧ Cmd K L H1 (fun i => (ds.take i).map g) Dl (i + 1) (upd H4 Dl (.lst (acc ++ [y])))) (B := fun H3 => Cmd K L H1 (fun i => (ds.take i).map g) Dl (i + 1) H3) ?_
    refine cmd_yes p (by simp; omega) (Ex.refl _) (he _ x d _ (List.mem_of_getElem? hd1) ?_ ((e0.trans e1).trans p2) (hd2.up (w_past (Evl.fresh_back (e0.trans e1) p1) ((e0.trans e1).trans p2)))) ?_
    · intro b hb
      rcases List.mem_cons.mp hb with z | z
      · rw [z]
        exact p3.ne
      · exact hid_ex ((e0.trans e1).trans p2) hL b z
    · have hi' : i < ds.length := by omega
      rw [List.take_add_one, hd1]
      simp
  have fin : ∀ Dl H2, Cmd K L H1 (fun i => (ds.take i).map g) Dl xs.length H2 → Q (.ref Dl) H2 := fun Dl H2 p => by
    obtain ⟨p1, p2, p3⟩ := p
    refine q Dl H2 (Evl.fresh_back e1 p1) (e1.trans p2) ?_
    have e : (ds.take xs.length).map g = ds.map g := by rw [hlen, List.take_length]
    rw [← e]
    exact p3
  have hL1 : Hid L H1 := hid_ex (e0.trans e1) hL
  refine ⟨a, rfl, ?_⟩
  rcases hx with x1 | x1
  · refine .inl ⟨⟨xs, Evl.ex_l (e0.trans e1) x1⟩, fun Dl hD => ?_⟩
    exact lc_it (walk_list (xs := xs)) (Cmd K L H1 (fun i => (ds.take i).map g) Dl) (cmd_0 hL1 hD rfl) (fun i H2 _ p => Evl.ex_l ((e0.trans e1).trans p.2.1) x1) (fun i x H2 H3 hi p y => turn Dl i x H2 H3 hi p y) (fun H2 p => fin Dl H2 p)
  · refine .inr ⟨⟨xs, Evl.ex_t (e0.trans e1) x1⟩, fun Dl hD => ?_⟩
    exact lc_it (walk_tup (xs := xs)) (Cmd K L H1 (fun i => (ds.take i).map g) Dl) (cmd_0 hL1 hD rfl) (fun i H2 _ p => Evl.ex_t ((e0.trans e1).trans p.2.1) x1) (fun i x H2 H3 hi p y => turn Dl i x H2 H3 hi p y) (fun H2 p => fin Dl H2 p)
/-- [.. for p, q in a list or a tuple of pairs of data] -/
theorem eg_pairs {j1 j2 : Nat} {vs : List Nat} {g : PyData → PyData} (h : Evl.Ev tl σ H (.ref a)) (hx : SqL K H a xs ∨ SqT K H a xs) (hd : DpAll K (W L H) xs ds) (hL : Hid L H) (hz : ds.length ≤ 50000)
    (h2 : ∀ d ∈ ds, ∃ d1 d2, d = .tuple [d1, d2]) (hw : ∀ x y, wipe (((wipe σ vs).set j1 (some x)).set j2 (some y)) vs = wipe σ vs)
    (he : ∀ L' (x y : V) d1 d2 H1, PyData.tuple [d1, d2] ∈ ds → Hid L' H1 → Ex H H1 → Dp K (W L' H1) x d1 → Dp K (W L' H1) y d2 → EvD K L' te (((wipe σ vs).set j1 (some x)).set j2 (some y)) H1 (g (.tuple [d1, d2]))) :
    EvG K L (tLc (iSeq K tl) (gTup K 2 (gCons (gName j1) (gCons (gName j2) gNil))) tYes te vs) σ H (ds.map g) := fun H0 e0 Q q => h H0 e0 _ fun H1 e1 => by
  have hlen := dpa_len hd
  have turn : ∀ (Dl : Addr) (i : Nat) (x : V) (H2 H3 : Hp), i < xs.length → Cmd K L H1 (fun i => (ds.take i).map g) Dl i H2 → YAt xs i H2 x H3 → gTup K 2 (gCons (gName j1) (gCons (gName j2) gNil)) x (wipe σ vs) H3 fun σ2 H2 => wipe σ2 vs = wipe σ vs ∧ tYes σ2 H2 fun b H3 =>
      if b = true then te σ2 H3 fun y H4 => ∃ acc, H4 Dl = some (.lst acc) ∧ acc.length < sizeLine ∧ Cmd K L H1 (fun i => (ds.take i).map g) Dl (i + 1) (upd H4 Dl (.lst (acc ++ [y]))) else Cmd K L H1 (fun i => (ds.take i).map g) Dl (i + 1) H3 := by
    intro Dl i x H2 H3 hi p yp
    obtain ⟨rfl, hu⟩ := yp
    obtain ⟨d, hd1, hd2⟩ := dpa_get hd hu
    obtain ⟨d1, d2, rfl⟩ := h2 d (List.mem_of_getElem? hd1)
    obtain ⟨p1, p2, p3⟩ := id p
    have hd3 := hd2.up (w_past (Evl.fresh_back (e0.trans e1) p1) ((e0.trans e1).trans p2))
    cases hd3 with
    | @tup T ys _ hT ha =>
      cases ha with
      | @cons u1 us1 _ _ r1 rr =>
        cases rr with
        | @cons u2 us2 _ _ r2 rr2 =>
          cases rr2
          refine ⟨T, [u1, u2], rfl, Evl.ex_t w_sub hT, rfl, u1, [u2], rfl, u2, [], rfl, rfl, hw u1 u2, ?_⟩
          refine yes_lc (A := fun H3 => te ((List.set (wipe σ vs) j1 (some u1)).set j2 (some u2)) H3 fun y H4 => ∃ acc, H4 Dl = some (.lst acc) ∧ acc.length < sizeLine ∧ Cmd K L H1 (fun i => (ds.take i).map g) Dl (i + 1) (upd H4 Dl (.lst (acc ++ [y])))) (B := fun H3 => Cmd K L H1 (fun i => (ds.take i).map g) Dl (i + 1) H3) ?_
          refine cmd_yes p (by simp; omega) (Ex.refl _) (he _ u1 u2 d1 d2 _ (List.mem_of_getElem? hd1) ?_ ((e0.trans e1).trans p2) r1 r2) ?_
          · intro b hb
            rcases List.mem_cons.mp hb with z | z
            · rw [z]
              exact p3.ne
            · exact hid_ex ((e0.trans e1).trans p2) hL b z
          · rw [List.take_add_one, hd1]
            simp
  have fin : ∀ Dl H2, Cmd K L H1 (fun i => (ds.take i).map g) Dl xs.length H2 → Q (.ref Dl) H2 := fun Dl H2 p => by
    obtain ⟨p1, p2, p3⟩ := p
    refine q Dl H2 (Evl.fresh_back e1 p1) (e1.trans p2) ?_
    have e : (ds.take xs.length).map g = ds.map g := by rw [hlen, List.take_length]
    rw [← e]
    exact p3
  have hL1 : Hid L H1 := hid_ex (e0.trans e1) hL
  refine ⟨a, rfl, ?_⟩
  rcases hx with x1 | x1
  · refine .inl ⟨⟨xs, Evl.ex_l (e0.trans e1) x1⟩, fun Dl hD => ?_⟩
    exact lc_it (walk_list (xs := xs)) (Cmd K L H1 (fun i => (ds.take i).map g) Dl) (cmd_0 hL1 hD rfl) (fun i H2 _ p => Evl.ex_l ((e0.trans e1).trans p.2.1) x1) (fun i x H2 H3 hi p y => turn Dl i x H2 H3 hi p y) (fun H2 p => fin Dl H2 p)
  · refine .inr ⟨⟨xs, Evl.ex_t (e0.trans e1) x1⟩, fun Dl hD => ?_⟩
    exact lc_it (walk_tup (xs := xs)) (Cmd K L H1 (fun i => (ds.take i).map g) Dl) (cmd_0 hL1 hD rfl) (fun i H2 _ p => Evl.ex_t ((e0.trans e1).trans p.2.1) x1) (fun i x H2 H3 hi p y => turn Dl i x H2 H3 hi p y) (fun H2 p => fin Dl H2 p)
/-- the items at the places that c names -/
def sel (c : Nat → Bool) (ds : List PyData) (n : Nat) : List PyData := (List.range n).flatMap fun i => if c i then (ds[i]?).toList else []
theorem sel_step {c : Nat → Bool} {n : Nat} : sel c ds (n + 1) = sel c ds n ++ (if c n then (ds[n]?).toList else []) := by
  unfold sel
  rw [List.range_succ, List.flatMap_append]
  simp
theorem sel_len {c : Nat → Bool} : ∀ n, (sel c ds n).length ≤ n
  | 0 => by simp [sel]
  | n + 1 => by
    have q := sel_len (c := c) n
    rw [sel_step, List.length_append]
    have z : (if c n = true then (ds[n]?).toList else []).length ≤ 1 := by
      split
      · cases ds[n]? <;> simp
      · simp
    omega
theorem sel_mem {c : Nat → Bool} {n : Nat} {d : PyData} (h : d ∈ sel c ds n) : d ∈ ds := by
  unfold sel at h
  obtain ⟨i, _, hi⟩ := List.mem_flatMap.mp h
  split at hi
  · exact List.mem_of_getElem? (by simpa using hi)
  · cases hi
/-- [x for i, x in enumerate(a list or a tuple of data) if c i] -/
theorem eg_enum {j1 j2 : Nat} {vs : List Nat} {c : Nat → Bool} (h : Evl.EvA ta σ H [.ref a]) (hx : SqL K H a xs ∨ SqT K H a xs) (hd : DpAll K (W L H) xs ds) (hL : Hid L H) (hz : ds.length ≤ 50000)
    (hw : ∀ x y, wipe (((wipe σ vs).set j1 (some x)).set j2 (some y)) vs = wipe σ vs)
    (ht : ∀ (x : V) (i : Nat) H1, i < ds.length → Ex H H1 → Evl.EvT tt (((wipe σ vs).set j1 (some (.int (i : Int)))).set j2 (some x)) H1 (c i)) (hn : ∀ x y, (((wipe σ vs).set j1 (some x)).set j2 (some y))[j2]? = some (some y)) :
    EvG K L (tLc (iEnumA K ta) (gTup K 2 (gCons (gName j1) (gCons (gName j2) gNil))) tt (tVar j2) vs) σ H (sel c ds ds.length) := fun H0 e0 Q q => h H0 e0 _ fun H1 e1 => by
  have hlen := dpa_len hd
  have turn : ∀ (Dl : Addr) (i : Nat) (x : V) (H2 H3 : Hp), i < xs.length → Cmd K L H1 (sel c ds) Dl i H2 → YPair (fun i => some (.int (i : Nat))) (fun i => xs[i]?) i H2 x H3 → gTup K 2 (gCons (gName j1) (gCons (gName j2) gNil)) x (wipe σ vs) H3 fun σ2 H2 => wipe σ2 vs = wipe σ vs ∧ tt σ2 H2 fun b H3 =>
      if b = true then (tVar j2) σ2 H3 fun y H4 => ∃ acc, H4 Dl = some (.lst acc) ∧ acc.length < sizeLine ∧ Cmd K L H1 (sel c ds) Dl (i + 1) (upd H4 Dl (.lst (acc ++ [y]))) else Cmd K L H1 (sel c ds) Dl (i + 1) H3 := by
    intro Dl i x H2 H3 hi p yp
    obtain ⟨T, u, w, rfl, hT, rfl, hu, hw'⟩ := yp
    have eu : u = .int (i : Int) := (Option.some.inj hu).symm
    subst eu
    have hw2 : xs[i]? = some w := hw'
    obtain ⟨d, hd1, hd2⟩ := dpa_get hd hw2
    obtain ⟨p1, p2, p3⟩ := id p
    refine ⟨T, [.int (i : Int), w], rfl, SqT.of upd_same, rfl, .int (i : Int), [w], rfl, w, [], rfl, rfl, hw _ w, ?_⟩
    have eN := ((e0.trans e1).trans p2).trans (Ex.new (o := .tup [.int (i : Int), w]) hT)
    refine ht w i _ (by omega) eN _ (Ex.refl _) _ fun H4 e4 => ?_
    have e24 : Ex H2 H4 := (Ex.new hT).trans e4
    by_cases hc : c i = true
    · rw [if_pos hc]
      refine cmd_yes (d := d) p (Nat.lt_of_le_of_lt (sel_len i) (by omega)) e24 (evd_var (hn _ w) (hd2.up (w_past (Evl.fresh_back (e0.trans e1) p1) (((e0.trans e1).trans p2).trans e24)))) ?_
      rw [sel_step, if_pos hc, hd1]
      rfl
    · rw [if_neg hc]
      refine cmd_no p e24 ?_
      rw [sel_step, if_neg hc, List.append_nil]
  have fin : ∀ Dl H2, Cmd K L H1 (sel c ds) Dl xs.length H2 → Q (.ref Dl) H2 := fun Dl H2 p => by
    obtain ⟨p1, p2, p3⟩ := p
    refine q Dl H2 (Evl.fresh_back e1 p1) (e1.trans p2) ?_
    rw [hlen] at p3
    exact p3
  have hL1 : Hid L H1 := hid_ex (e0.trans e1) hL
  refine ⟨a, xs, rfl, ?_⟩
  rcases hx with x1 | x1
  · refine .inl ⟨Evl.ex_l (e0.trans e1) x1, fun Dl hD => ?_⟩
    exact lc_it (walk_enum (xs := xs)) (Cmd K L H1 (sel c ds) Dl) (cmd_0 hL1 hD rfl) (fun i H2 _ p => Evl.ex_l ((e0.trans e1).trans p.2.1) x1) (fun i x H2 H3 hi p y => turn Dl i x H2 H3 hi p y) (fun H2 p => fin Dl H2 p)
  · refine .inr ⟨Evl.ex_t (e0.trans e1) x1, fun Dl hD => ?_⟩
    exact lc_it (walk_enumT (xs := xs)) (Cmd K L H1 (sel c ds) Dl) (cmd_0 hL1 hD rfl) (fun i H2 _ p => Evl.ex_t ((e0.trans e1).trans p.2.1) x1) (fun i x H2 H3 hi p y => turn Dl i x H2 H3 hi p y) (fun H2 p => fin Dl H2 p)
/-- tuple(a new list of data) -/
theorem evd_tupG (h : EvG K L te σ H ds) (hL : Hid L H) : EvD K L (tCB (fun xs H Q => ∃ p ys, xs = [.ref p] ∧ ((SqL K H p ys ∧ ∀ l, H l = none → Q (.ref l) (upd H l (.tup ys))) ∨ (SqT K H p ys ∧ Q (.ref p) H))) (tCons te tNil)) σ H (.tuple ds) := fun H1 e Q q =>
  h H1 e _ fun p H2 hp e2 g => by
    obtain ⟨n, ys, g1, g2⟩ := g
    refine ⟨p, ys, rfl, .inl ⟨SqL.of g1, fun r hr => ?_⟩⟩
    exact q (.ref r) _ (e2.trans (Ex.new hr)) (.tup (SqT.of (w_new (hid_ex (e.trans e2) hL) hr)) ((g2.up w_cons).up (w_ex (Ex.new hr))))
/-- tuple(x) of data that are a list or a tuple -/
theorem evd_tupD {x : V} (h : Evl.Ev te σ H x) (hd : Dp K (W L H) x (.list ds) ∨ Dp K (W L H) x (.tuple ds)) (hL : Hid L H) : EvD K L (tCB (fun xs H Q => ∃ p ys, xs = [.ref p] ∧ ((SqL K H p ys ∧ ∀ l, H l = none → Q (.ref l) (upd H l (.tup ys))) ∨ (SqT K H p ys ∧ Q (.ref p) H))) (tCons te tNil)) σ H (.tuple ds) := fun H1 e Q q =>
  h H1 e _ fun H2 e2 => by
    rcases hd with hd | hd
    · cases hd with
      | @lst p ys _ hs ha =>
        refine ⟨p, ys, rfl, .inl ⟨Evl.ex_l (w_sub.trans (e.trans e2)) hs, fun r hr => ?_⟩⟩
        exact q (.ref r) _ (e2.trans (Ex.new hr)) (.tup (SqT.of (w_new (hid_ex (e.trans e2) hL) hr)) (ha.up (w_ex ((e.trans e2).trans (Ex.new hr)))))
    · have hd' := hd
      cases hd with
      | @tup p ys _ hs ha =>
        exact ⟨p, ys, rfl, .inr ⟨Evl.ex_t (w_sub.trans (e.trans e2)) hs, q (.ref p) H2 e2 (hd'.up (w_ex (e.trans e2)))⟩⟩
/-- list(x) of data that are a list or a tuple -/
theorem eg_list {x : V} (h : Evl.Ev te σ H x) (hd : Dp K (W L H) x (.list ds) ∨ Dp K (W L H) x (.tuple ds)) (hL : Hid L H) : EvG K L (tCB (fun xs H Q => ∃ p ys, xs = [.ref p] ∧ (SqL K H p ys ∨ SqT K H p ys) ∧ ∀ l, H l = none → Q (.ref l) (upd H l (.lst ys))) (tCons te tNil)) σ H ds := fun H1 e Q q =>
  h H1 e _ fun H2 e2 => by
    rcases hd with hd | hd
    · cases hd with
      | @lst p ys _ hs ha =>
        refine ⟨p, ys, rfl, .inl (Evl.ex_l (w_sub.trans (e.trans e2)) hs), fun r hr => ?_⟩
        exact q r _ (Evl.fresh_back e2 hr) (e2.trans (Ex.new hr)) (gr_new (hid_ex (e.trans e2) hL) hr (ha.up (w_ex (e.trans e2))))
    · cases hd with
      | @tup p ys _ hs ha =>
        refine ⟨p, ys, rfl, .inr (Evl.ex_t (w_sub.trans (e.trans e2)) hs), fun r hr => ?_⟩
        exact q r _ (Evl.fresh_back e2 hr) (e2.trans (Ex.new hr)) (gr_new (hid_ex (e.trans e2) hL) hr (ha.up (w_ex (e.trans e2))))
end
end U

set_option Elab.async false
set_option linter.all false
set_option maxRecDepth 100000
set_option maxHeartbeats 4000000
namespace U
open PySem PySem.Spec PyProof.Rows L2
open Evl (Ex)
/-! ### own +, raise X(), a class of two at once -/
/-- one + other of two instances of the class at C, by what its own method promises: a reference -/
def tOwn (C : Addr) (sp : Sp) (E : L2.St → XK) (ta tb : TE) : TE := fun σ H Q => ta σ H fun x H1 => tb σ H1 fun y H2 => ∃ a b dx dy fs gs, x = .ref a ∧ y = .ref b ∧ H2 a = some (.ins C dx fs) ∧ H2 b = some (.ins C dy gs) ∧
  sp [.ref a, .ref b] H2 (fun v H' => ∃ r, v = .ref r ∧ Q (.ref r) H') (E σ)
section
variable {X : Cx} {CX : CXT} {n : Nat} {f C : Addr} {fd : FuncData} {ps : List Str} {sp : Sp} {E : L2.St → XK} {a b : Expr} {ta tb : TE} {pos : Pos} {op : Operator}
theorem pe_own (F : FnOk X.prog X.w X.K X.mg X.base CX n f fd ps sp) (hr : Room n X.A) (hs : PySem.W.findIn X.K (.ref C) (PySem.dunder op.info.2) = some (some (.ref f))) (hf : PySem.W.isFn X.K (.ref f) = true) (hc : PySem.W.selfFirst X.K C = true)
    (hb : Binds X.K fd ps []) (hx : ∀ σ, PassesAt CX X σ (E σ)) (ha : PE X a ta) (hb2 : PE X b tb) : PE X (.BinOp a op b pos) (tOwn C sp E ta tb) := by
  refine ⟨fun pins s σ H Q I h => wpAny_BinOp (binT (R := fun x y H2 => ∃ a b dx dy fs gs, x = .ref a ∧ y = .ref b ∧ H2 a = some (.ins C dx fs) ∧ H2 b = some (.ins C dy gs) ∧ sp [.ref a, .ref b] H2 (fun v H' => ∃ r, v = .ref r ∧ Q (.ref r) H') (E σ)) ha hb2 I h fun v u s2 x y H2 I2 rx ry q => ?_)⟩
  obtain ⟨p, r, dx, dy, fs, gs, rfl, rfl, hp, hr2, hsp⟩ := q
  cases rx
  cases ry
  obtain ⟨mA, J, _⟩ := ins_get I2.hok hp
  obtain ⟨mB, J', _⟩ := ins_get I2.hok hr2
  obtain ⟨od, J, _⟩ := J.look
  obtain ⟨od', J', _⟩ := J'.look
  obtain ⟨m, hF⟩ := I2.fr
  refine PySem.W.binop_K (C := C) hF I2.ok.mod.kin J J'.type hc hs hf ?_
  have r2 : Vals [V.ref p, V.ref r] [Value.ref p, Value.ref r] := .cons rfl (.cons rfl .nil)
  refine wpAny_mono (run_fnS F hr hb (hx σ) I2 r2 hsp) (fun r s' z => ?_) fun _ _ x => x
  obtain ⟨v, H', I', rv, t, rfl, q⟩ := z
  cases rv
  exact ⟨V.ref t, H', I', rfl, q⟩
/-- X() of an own class of errors without __init__ -/
theorem pmk_own0 {bmB : List Value} {B newId initId : String} {x : Str} {p : Pos} (F : ExcBaseFacts B newId initId bmB) (q : PySem.W.excIn X.K C bmB newId = true) (gC : X.mg x = some (.ref C)) (kC : PySem.W.keepIn X.K (.ref C) = true) (r : Raises X (.ref C)) (hg : Gl X x)
    (hdb : (x == ("__debug__" : Str)) = false := by decide) : PMk X (.Call (.Name x p) [] [] pos) (fun _ H Q => Q (.ref C) none H) := by
  intro pins s σ H Q I h
  refine wpAny_Call_Name_kw (ld_glob I hg gC ?_ hdb)
  refine PySem.W.callWith_K0 I.kIn kC ?_
  show wpAny _ _ (call (.ref C) []) _ _ _
  obtain ⟨bm, N, nm, qn, bs, hdct, sn, sub, ab, col, dd, k0, k1, k2, k3, k5, mN, hC, hN, hni, T⟩ := exc_obj I.kIn q
  refine wpAny_call_exc_subT F T hC hN hni (fun h' e hm => ?_) (by show 0 ≤ sizeLine; exact Nat.zero_le _)
  exact mk_of I hm r h (I.hok.gone hm.new)
/-- x[i] of a list or a tuple -/
def rIxA (K : PySem.W.Frag) : R2 := fun x y H Q => rIxL K x y H Q ∨ rIxT K x y H Q
theorem ix_seq : IxR X (rIxA X.K) := IxR.or ix_list ix_tup
end
section
variable {K : PySem.W.Frag} {σ : L2.St} {H : Hp} {te ta tb tc : TE} {x y z : V} {r r' : R2} {a : Addr} {xs : List V} {v : V} {i : Int}
theorem ev_ixA (h : Evl.Ev te σ H (.ref a)) (hx : SqL K H a xs ∨ SqT K H a xs) (hv : atI xs i = some v) : Evl.Ev (tOp (rIxA K) te (tC (.int i))) σ H v := fun H1 e Q q =>
  h H1 e _ fun H2 e2 => by
    show rIxA K (.ref a) (.int i) H2 Q
    rcases hx with hx | hx
    · exact .inl ⟨a, xs, i, v, rfl, rfl, Evl.ex_l (e.trans e2) hx, hv, q H2 e2⟩
    · exact .inr ⟨a, xs, i, v, rfl, rfl, Evl.ex_t (e.trans e2) hx, hv, q H2 e2⟩
/-- a op b op c -/
theorem ev_chain {k l : Bool} (ha : Evl.Ev ta σ H x) (hb : Evl.Ev tb σ H y) (hr : Evl.RV r x y H (.bl k)) (hc : k = true → Evl.Ev tc σ H z) (hr2 : k = true → Evl.RV r' y z H (.bl l)) (hl : k = false → l = false) : Evl.Ev (tChain r r' ta tb tc) σ H (.bl l) := fun H1 e1 Q q =>
  ha H1 e1 _ fun H2 e2 => hb H2 (e1.trans e2) _ fun H3 e3 => hr H3 ((e1.trans e2).trans e3) _ fun H4 e4 => ⟨k, rfl, by
    cases k with
    | true =>
      rw [if_pos rfl]
      exact hc rfl H4 (((e1.trans e2).trans e3).trans e4) _ fun H5 e5 => hr2 rfl H5 ((((e1.trans e2).trans e3).trans e4).trans e5) Q fun H6 e6 => q H6 (((e2.trans e3).trans e4).trans (e5.trans e6))
    | false =>
      rw [if_neg (by simp)]
      rw [hl rfl] at q
      exact q H4 ((e2.trans e3).trans e4)⟩
/-- [True or False for x in a list or a tuple of data] -/
theorem el_seqB {tl : TE} {ds : List PyData} {f : PyData → Bool} {j : Nat} {vs : List Nat} (h : Evl.Ev tl σ H (.ref a)) (hx : SqL K H a xs ∨ SqT K H a xs) (hd : DpAll K H xs ds) (hz : ds.length ≤ 40000) (hw : ∀ x, wipe ((wipe σ vs).set j (some x)) vs = wipe σ vs)
    (he : ∀ (x : V) d H1, d ∈ ds → Ex H H1 → Dp K H1 x d → Evl.Ev te ((wipe σ vs).set j (some x)) H1 (.bl (f d))) : Evl.EvL (tLc (iSeq K tl) (gName j) tYes te vs) σ H ((ds.map f).map V.bl) := fun H0 e0 Q q => h H0 e0 _ fun H1 e1 => by
  have hlen := dpa_len hd
  let w : Nat → V := fun i => .bl (f (ds.getD i .none))
  have turn : ∀ (Dl : Addr) (i : Nat) (x : V) (H2 H3 : Hp), i < xs.length → Cm H1 w Dl i H2 → YAt xs i H2 x H3 → gName j x (wipe σ vs) H3 fun σ2 H2 => wipe σ2 vs = wipe σ vs ∧ tYes σ2 H2 fun b H3 =>
      if b = true then te σ2 H3 fun y H4 => ∃ acc, H4 Dl = some (.lst acc) ∧ acc.length < sizeLine ∧ Cm H1 w Dl (i + 1) (upd H4 Dl (.lst (acc ++ [y]))) else Cm H1 w Dl (i + 1) H3 := by
    intro Dl i x H2 H3 hi p yp
    obtain ⟨rfl, hu⟩ := yp
    obtain ⟨d, hd1, hd2⟩ := dpa_get hd hu
    refine ⟨hw x, ?_⟩
    refine yes_lc (A := fun H3 => te ((wipe σ vs).set j (some x)) H3 fun y H4 => ∃ acc, H4 Dl = some (.lst acc) ∧ acc.length < sizeLine ∧ Cm H1 w Dl (i + 1) (upd H4 Dl (.lst (acc ++ [y])))) (B := fun H3 => Cm H1 w Dl (i + 1) H3) ?_
    have ew : w i = .bl (f d) := by
      show V.bl (f (ds.getD i .none)) = _
      rw [List.getD_eq_getElem?_getD, hd1]
      rfl
    refine cm_turn p (by omega) _ (Ex.refl _) ?_
    rw [ew]
    exact he x d _ (List.mem_of_getElem? hd1) (e0.trans e1) (hd2.up (e0.trans e1))
  have fin : ∀ Dl H2, Cm H1 w Dl xs.length H2 → Q (.ref Dl) H2 := fun Dl H2 p => by
    refine q Dl H2 (Evl.fresh_back e1 p.1) (e1.trans p.2.1) ?_
    rw [p.2.2, hlen]
    congr 2
    apply List.ext_getElem
    · simp
    · intro i h1 h2
      have h3 : i < ds.length := by simpa using h1
      simp [w, h3]
  refine ⟨a, rfl, ?_⟩
  rcases hx with x1 | x1
  · refine .inl ⟨⟨xs, Evl.ex_l (e0.trans e1) x1⟩, fun Dl hD => ?_⟩
    exact lc_it (walk_list (xs := xs)) (Cm H1 w Dl) (cm_0 hD) (fun i H2 _ p => Evl.ex_l ((e0.trans e1).trans p.2.1) x1) (fun i x H2 H3 hi p y => turn Dl i x H2 H3 hi p y) (fun H2 p => fin Dl H2 p)
  · refine .inr ⟨⟨xs, Evl.ex_t (e0.trans e1) x1⟩, fun Dl hD => ?_⟩
    exact lc_it (walk_tup (xs := xs)) (Cm H1 w Dl) (cm_0 hD) (fun i H2 _ p => Evl.ex_t ((e0.trans e1).trans p.2.1) x1) (fun i x H2 H3 hi p y => turn Dl i x H2 H3 hi p y) (fun H2 p => fin Dl H2 p)
theorem el_seqBq {tl : TE} {ds : List PyData} {f : PyData → Bool} {j : Nat} {vs : List Nat} (h : Evl.Ev tl σ H (.ref a)) (hx : SqL K H a xs ∨ SqT K H a xs) (hd : DqAll K H xs ds) (hz : ds.length ≤ 40000) (hw : ∀ x, wipe ((wipe σ vs).set j (some x)) vs = wipe σ vs)
    (he : ∀ (x : V) d H1, d ∈ ds → Ex H H1 → Dq K H1 x d → Evl.Ev te ((wipe σ vs).set j (some x)) H1 (.bl (f d))) : Evl.EvL (tLc (iSeq K tl) (gName j) tYes te vs) σ H ((ds.map f).map V.bl) := fun H0 e0 Q q => h H0 e0 _ fun H1 e1 => by
  have hlen := dqa_len hd
  let w : Nat → V := fun i => .bl (f (ds.getD i .none))
  have turn : ∀ (Dl : Addr) (i : Nat) (x : V) (H2 H3 : Hp), i < xs.length → Cm H1 w Dl i H2 → YAt xs i H2 x H3 → gName j x (wipe σ vs) H3 fun σ2 H2 => wipe σ2 vs = wipe σ vs ∧ tYes σ2 H2 fun b H3 =>
      if b = true then te σ2 H3 fun y H4 => ∃ acc, H4 Dl = some (.lst acc) ∧ acc.length < sizeLine ∧ Cm H1 w Dl (i + 1) (upd H4 Dl (.lst (acc ++ [y]))) else Cm H1 w Dl (i + 1) H3 := by
    intro Dl i x H2 H3 hi p yp
    obtain ⟨rfl, hu⟩ := yp
    obtain ⟨d, hd1, hd2⟩ := dqa_get hd hu
    refine ⟨hw x, ?_⟩
    refine yes_lc (A := fun H3 => te ((wipe σ vs).set j (some x)) H3 fun y H4 => ∃ acc, H4 Dl = some (.lst acc) ∧ acc.length < sizeLine ∧ Cm H1 w Dl (i + 1) (upd H4 Dl (.lst (acc ++ [y])))) (B := fun H3 => Cm H1 w Dl (i + 1) H3) ?_
    have ew : w i = .bl (f d) := by
      show V.bl (f (ds.getD i .none)) = _
      rw [List.getD_eq_getElem?_getD, hd1]
      rfl
    refine cm_turn p (by omega) _ (Ex.refl _) ?_
    rw [ew]
    exact he x d _ (List.mem_of_getElem? hd1) (e0.trans e1) (hd2.up (e0.trans e1))
  have fin : ∀ Dl H2, Cm H1 w Dl xs.length H2 → Q (.ref Dl) H2 := fun Dl H2 p => by
    refine q Dl H2 (Evl.fresh_back e1 p.1) (e1.trans p.2.1) ?_
    rw [p.2.2, hlen]
    congr 2
    apply List.ext_getElem
    · simp
    · intro i h1 h2
      have h3 : i < ds.length := by simpa using h1
      simp [w, h3]
  refine ⟨a, rfl, ?_⟩
  rcases hx with x1 | x1
  · refine .inl ⟨⟨xs, Evl.ex_l (e0.trans e1) x1⟩, fun Dl hD => ?_⟩
    exact lc_it (walk_list (xs := xs)) (Cm H1 w Dl) (cm_0 hD) (fun i H2 _ p => Evl.ex_l ((e0.trans e1).trans p.2.1) x1) (fun i x H2 H3 hi p y => turn Dl i x H2 H3 hi p y) (fun H2 p => fin Dl H2 p)
  · refine .inr ⟨⟨xs, Evl.ex_t (e0.trans e1) x1⟩, fun Dl hD => ?_⟩
    exact lc_it (walk_tup (xs := xs)) (Cm H1 w Dl) (cm_0 hD) (fun i H2 _ p => Evl.ex_t ((e0.trans e1).trans p.2.1) x1) (fun i x H2 H3 hi p y => turn Dl i x H2 H3 hi p y) (fun H2 p => fin Dl H2 p)
theorem fits_len {ds : List PyData} (h : (∃ n, fits n (.list ds)) ∨ ∃ n, fits n (.tuple ds)) : ds.length ≤ 40000 := by
  rcases h with ⟨n, h⟩ | ⟨n, h⟩ <;>
  · cases n with
    | zero => exact h.elim
    | succ n => exact h.1
theorem fits_in {ds : List PyData} {d : PyData} (h : (∃ n, fits n (.list ds)) ∨ ∃ n, fits n (.tuple ds)) (hd : d ∈ ds) : ∃ n, fits n d := by
  rcases h with ⟨n, h⟩ | ⟨n, h⟩ <;>
  · cases n with
    | zero => exact h.elim
    | succ n => exact ⟨n, h.2 d hd⟩
/-- a field of an instance -/
theorem ev_fld {C dx : Addr} {fs : List (Str × V)} {f : Str} (h : Evl.Ev te σ H (.ref a)) (ha : H a = some (.ins C dx fs)) (c : Cls K C) (n : NoAttr K C f) (hv : fs.lookup f = some v) : Evl.Ev (tFld K te f) σ H v := fun H1 e Q q =>
  h H1 e _ fun H2 e2 => ⟨a, C, dx, fs, v, rfl, (e.trans e2) a _ ha, c, n, hv, q H2 e2⟩
end
end U

set_option Elab.async false
set_option linter.all false
set_option maxRecDepth 100000
set_option maxHeartbeats 4000000
namespace U
open PySem L2
open Evl (Ex)
def top (i : Nat) : Stmt := PySem.Challenge.pw_toldenough_k07_rules_had.main.body.getD i (.Pass ⟨0, 0, 0, 0⟩)
abbrev s_source : Stmt := top 29
abbrev sc_source_N : List Str := ["_law_script", "_law_at", "_law_cell"]
theorem sc_source : FnScope sc_source_N ["_law_script", "_law_at"] (defScope s_source) := ⟨rfl, rfl, rfl, by decide +kernel, rfl, by decide +kernel, by decide +kernel⟩
abbrev s_draw : Stmt := top 30
abbrev sc_draw_N : List Str := ["_law_draws", "_law_many", "_law_digit", "_law_seed"]
theorem sc_draw : FnScope sc_draw_N ["_law_draws", "_law_many"] (defScope s_draw) := ⟨rfl, rfl, rfl, by decide +kernel, rfl, by decide +kernel, by decide +kernel⟩
abbrev s_pick : Stmt := top 31
abbrev sc_pick_N : List Str := ["_law_draws", "_law_things"]
theorem sc_pick : FnScope sc_pick_N ["_law_draws", "_law_things"] (defScope s_pick) := ⟨rfl, rfl, rfl, by decide +kernel, rfl, by decide +kernel, by decide +kernel⟩
abbrev s_same : Stmt := top 32
abbrev sc_same_N : List Str := ["_law_found", "_law_due", "_law_left", "_law_right"]
theorem sc_same : FnScope sc_same_N ["_law_found", "_law_due"] (defScope s_same) := ⟨rfl, rfl, rfl, by decide +kernel, rfl, by decide +kernel, by decide +kernel⟩
structure TxB (mg : Str → Option Value) : Prop where
  m_len : mg "len" = none
  m_int : mg "int" = none
  m_isinstance : mg "isinstance" = none
  m_list : mg "list" = none
  m_tuple : mg "tuple" = none
  m_bool : mg "bool" = none
  m_all : mg "all" = none
  m_zip : mg "zip" = none
section
variable {P : Program} {w : World} {K : PySem.W.Frag} {mg : Str → Option Value} {base : Heap}
theorem ok_source {f : Addr} {fd : FuncData} (F : Fun K "_law_source" "_law_source" s_source f fd) (T : TxB mg) : FnOk P w K mg base CX0 1 f fd ["_law_script", "_law_at"] (spSource K) := by
  refine F.ok sc_source (fun vs H Q E h => ?_) (fun cdv A outer s H vs Q E hr h => ?_)
  · obtain ⟨_, _, _, rfl, _⟩ := h
    rfl
  · obtain ⟨sa, ns, i, rfl, hS, hl, hi, k⟩ := h
    refine ⟨_, (pss_cons (ps_set (i := 2) sc_source.nd rfl (by first | exact Or.inl rfl | exact Or.inr rfl) (pe_ifExp (pt_cmpR op_lt (pv 1) (pe_callB call_len_seq (by rfl) T.m_len (by decide +kernel) (pa_cons (pv 0) pa_nil)) (nomark _)) (pe_ix ix_list (pv 0) (pv 1) (fun _ _ => rfl)) (pe_op op_add (pe_op op_mul pe_int (pv 1)) pe_int)))
    (pss_one (ps_ret (pe_lst (pa_cons (pe_ifExp (pt_cmpR op_ge (pv 2) (pe_op op_pow pe_int pe_int) (nomark _)) (pv 2) pe_int) (pa_cons (pe_op op_add (pe_op op_mod (pe_callTy call_int1 (by rfl) T.m_int (by decide +kernel) (pa_cons (pv 2) pa_nil)) pe_int) (pe_op op_mul pe_int (pv 1))) (pa_cons pe_int pa_nil))))))), ?_⟩
    have hlen : (ns.map V.int).length = ns.length := List.length_map ..
    have fin : ∀ (c : Int), ∀ l : Addr, H l = none → Q (.ref l) (upd H l (.lst [.int (if c ≥ 10 ^ 18 then c else 0), .int (c % 2147483647 + 131 * (i : Int)), .int 0])) := fun c l hn => by
      refine k l _ hn ⟨_, _, _, upd_same, ?_, ?_, ?_, by decide, by decide⟩
      · by_cases hc : c ≥ 10 ^ 18
        · rw [if_pos hc]
          omega
        · rw [if_neg hc]
          decide
      · omega
      · omega
    refine ⟨_, rfl, _, rfl, sa, _, rfl, .inl hS, _, _, rfl, rfl, _, rfl, ?_⟩
    refine ite2 (fun hc => ?_) (fun hc => ?_)
    · have hc' : i < ns.length := by
        have q := of_decide_eq_true hc
        rw [hlen] at q
        omega
      refine ⟨_, rfl, _, rfl, sa, _, _, .int ns[i], rfl, rfl, hS, atI_nat (by rw [List.getElem?_map, List.getElem?_eq_getElem hc']; rfl), ?_⟩
      have g := fin (ns[i])
      generalize ns[i] = c at g ⊢
      refine ⟨_, rfl, _, _, rfl, rfl, ⟨by decide, by decide, by decide⟩, _, _, rfl, rfl, _, rfl, ?_⟩
      refine ite2 (fun hc => ?_) (fun hc => ?_)
      · have hc' : c ≥ 10 ^ 18 := of_decide_eq_true hc
        rw [if_pos hc'] at g
        refine ⟨_, rfl, _, rfl, .inl ⟨_, rfl, _, _, rfl, rfl, (by show (0 : Int) < _; decide), _, rfl, _, _, rfl, rfl, .inl ⟨by decide, by decide⟩, _, _, rfl, rfl, by show 3 ≤ sizeLine; decide, fun l hn => ?_⟩⟩
        exact g l hn
      · have hc' : ¬ c ≥ 10 ^ 18 := fun q => hc (decide_eq_true q)
        rw [if_neg hc'] at g
        refine ⟨_, rfl, .inl ⟨_, rfl, _, _, rfl, rfl, (by show (0 : Int) < _; decide), _, rfl, _, _, rfl, rfl, .inl ⟨by decide, by decide⟩, _, _, rfl, rfl, by show 3 ≤ sizeLine; decide, fun l hn => ?_⟩⟩
        exact g l hn
    · have g := fin (11 * (i : Int) + 3)
      refine ⟨_, rfl, _, _, rfl, rfl, .inl ⟨by decide, by decide⟩, _, _, rfl, rfl, ?_⟩
      refine ⟨_, rfl, _, _, rfl, rfl, ⟨by decide, by decide, by decide⟩, _, _, rfl, rfl, _, rfl, ?_⟩
      refine ite2 (fun hc => ?_) (fun hc => ?_)
      · have hc' : 11 * (i : Int) + 3 ≥ 10 ^ 18 := of_decide_eq_true hc
        rw [if_pos hc'] at g
        refine ⟨_, rfl, _, rfl, .inl ⟨_, rfl, _, _, rfl, rfl, (by show (0 : Int) < _; decide), _, rfl, _, _, rfl, rfl, .inl ⟨by decide, by decide⟩, _, _, rfl, rfl, by show 3 ≤ sizeLine; decide, fun l hn => ?_⟩⟩
        exact g l hn
      · have hc' : ¬ 11 * (i : Int) + 3 ≥ 10 ^ 18 := fun q => hc (decide_eq_true q)
        rw [if_neg hc'] at g
        refine ⟨_, rfl, .inl ⟨_, rfl, _, _, rfl, rfl, (by show (0 : Int) < _; decide), _, rfl, _, _, rfl, rfl, .inl ⟨by decide, by decide⟩, _, _, rfl, rfl, by show 3 ≤ sizeLine; decide, fun l hn => ?_⟩⟩
        exact g l hn
theorem ok_draw {f : Addr} {fd : FuncData} (F : Fun K "_law_draw" "_law_draw" s_draw f fd) (T : TxB mg) : FnOk P w K mg base CX0 1 f fd ["_law_draws", "_law_many"] spDraw := by
  refine F.ok sc_draw (fun vs H Q E h => ?_) (fun cdv A outer s H vs Q E hr h => ?_)
  · obtain ⟨_, _, _, rfl, _⟩ := h
    rfl
  · obtain ⟨l, many, n, rfl, ⟨x, y, z, hl, x0, y0, y1, z0, z1⟩, hn, m0, m1, k⟩ := h
    refine ⟨_, (pss_cons (ps_if (pt_cmpR op_gt (pe_ix ix_list (pv 0) pe_int (fun _ _ => rfl)) pe_int (nomark _)) (pss_cons (ps_set (i := 2) sc_draw.nd rfl (by first | exact Or.inl rfl | exact Or.inr rfl) (pe_op op_mod (pe_callTy call_int1 (by rfl) T.m_int (by decide +kernel) (pa_cons (pe_ix ix_list (pv 0) pe_int (fun _ _ => rfl)) pa_nil)) (pv 1)))
      (pss_cons (ps_asg (pe_op op_fdivN (pe_ix ix_list (pv 0) pe_int (fun _ _ => rfl)) (pv 1)) (pg_sub (pv 0) pe_int set_list))
      (pss_one (ps_ret (pv 2))))) pss_nil)
    (pss_cons (ps_asg (pe_op op_add (pe_ix ix_list (pv 0) pe_int (fun _ _ => rfl)) pe_int) (pg_sub (pv 0) pe_int set_list))
    (pss_cons (ps_set (i := 3) sc_draw.nd rfl (by first | exact Or.inl rfl | exact Or.inr rfl) (pe_op op_mod (pe_op op_pow (pe_callTy call_int1 (by rfl) T.m_int (by decide +kernel) (pa_cons (pe_op op_add (pe_op op_add (pe_ix ix_list (pv 0) pe_int (fun _ _ => rfl)) (pe_op op_mul pe_int (pe_ix ix_list (pv 0) pe_int (fun _ _ => rfl)))) pe_int) pa_nil)) pe_int) pe_int))
    (pss_one (ps_ret (pe_op op_mod (pe_op op_mod (pe_op op_pow (pe_callTy call_int1 (by rfl) T.m_int (by decide +kernel) (pa_cons (pe_op op_add (pe_op op_mul (pv 3) pe_int) (pe_op op_mul pe_int (pe_ix ix_list (pv 0) pe_int (fun _ _ => rfl)))) pa_nil)) pe_int) pe_int) (pv 1))))))), ?_⟩
    have i0 : atI [V.int x, V.int y, V.int z] 0 = some (.int x) := rfl
    have i1 : atI [V.int x, V.int y, V.int z] 1 = some (.int y) := rfl
    have i2 : atI [V.int x, V.int y, V.int z] 2 = some (.int z) := rfl
    refine ⟨_, rfl, l, _, _, _, rfl, rfl, SqL.of hl, i0, _, _, rfl, rfl, _, rfl, ?_⟩
    refine ite2 (fun hc => ?_) (fun hc => ?_)
    · refine ⟨_, rfl, l, _, _, _, rfl, rfl, SqL.of hl, i0, .inl ⟨_, rfl, _, rfl, _, _, rfl, rfl, m0, ?_⟩⟩
      refine ⟨_, rfl, l, _, _, _, rfl, rfl, SqL.of hl, i0, _, rfl, _, _, rfl, rfl, ⟨by omega, by omega⟩, _, rfl, l, _, _, 0, rfl, rfl, hl, rfl, ?_⟩
      refine ⟨_, rfl, ?_⟩
      exact k (x % many) _ (Int.emod_nonneg _ (by omega)) (Int.emod_lt_of_pos _ m0) ⟨_, _, _, upd_same, Int.fdiv_nonneg x0 (by omega), y0, y1, z0, by omega⟩
    · have hl2 : (upd H l (.lst [V.int x, V.int y, V.int (z + 1)])) l = some (.lst [V.int x, V.int y, V.int (z + 1)]) := upd_same
      have j1 : atI [V.int x, V.int y, V.int (z + 1)] 1 = some (.int y) := rfl
      have j2 : atI [V.int x, V.int y, V.int (z + 1)] 2 = some (.int (z + 1)) := rfl
      refine ⟨_, rfl, l, _, _, _, rfl, rfl, SqL.of hl, i2, _, _, rfl, rfl, _, rfl, l, _, _, 2, rfl, rfl, hl, rfl, ?_⟩
      refine ⟨_, rfl, l, _, _, _, rfl, rfl, SqL.of hl2, j1, _, rfl, l, _, _, _, rfl, rfl, SqL.of hl2, j2, _, _, rfl, rfl, .inl ⟨by decide, by decide⟩, _, _, rfl, rfl, _, _, rfl, rfl, .inl ⟨_, rfl, _, _, rfl, rfl, ⟨by decide, by decide, ?_⟩, _, _, rfl, rfl, (by show (0 : Int) < _; decide), ?_⟩⟩
      · show (y + 7919 * (z + 1) + 104729).natAbs < 18446744073709551616
        omega
      have e1 : 0 ≤ (y + 7919 * (z + 1) + 104729) ^ (5 : Int).toNat % 2147483629 := Int.emod_nonneg _ (by decide)
      have e2 : (y + 7919 * (z + 1) + 104729) ^ (5 : Int).toNat % 2147483629 < 2147483629 := Int.emod_lt_of_pos _ (by decide)
      have hb : ∀ c : Int, 0 ≤ c → c < 2147483629 → (c * 48271 + 40503 * (z + 1)).natAbs < 18446744073709551616 := fun c _ _ => by omega
      refine ⟨_, rfl, _, _, rfl, rfl, .inr ⟨by decide, by decide⟩, _, rfl, l, _, _, _, rfl, rfl, SqL.of hl2, j2, _, _, rfl, rfl, .inl ⟨by decide, by decide⟩, _, _, rfl, rfl, .inl ⟨_, rfl, _, _, rfl, rfl, ⟨by decide, by decide, ?_⟩, _, _, rfl, rfl, (by show (0 : Int) < _; decide), _, rfl, _, _, rfl, rfl, m0, ?_⟩⟩
      · exact hb _ e1 e2
      exact k _ _ (Int.emod_nonneg _ (by omega)) (Int.emod_lt_of_pos _ m0) ⟨_, _, _, upd_same, x0, y0, y1, by omega, by omega⟩
theorem ok_pick {f : Addr} {fd : FuncData} (F : Fun K "_law_pick" "_law_pick" s_pick f fd) (T : TxB mg) (D_draw : DefAt P w K mg base "_law_draw" 1 ["_law_draws", "_law_many"] spDraw) : FnOk P w K mg base CX0 2 f fd ["_law_draws", "_law_things"] (spPick K) := by
  refine F.ok sc_pick (fun vs H Q E h => ?_) (fun cdv A outer s H vs Q E hr h => ?_)
  · obtain ⟨_, _, _, _, _, rfl, _⟩ := h
    rfl
  · obtain ⟨l, t, ds, n, L, rfl, hd, hn, hL, hp, h0, h1, k⟩ := h
    refine ⟨_, (pss_one (ps_ret (pe_ix ix_list (pv 1) (pe_callD D_draw (by first | exact hr | exact hr.mono (by decide) | exact hr.mono (by omega)) (by rfl) (pa_cons (pv 0) (pa_cons (pe_callB call_len_seq (by rfl) T.m_len (by decide +kernel) (pa_cons (pv 1) pa_nil)) pa_nil))) (fun _ _ => rfl)))), ?_⟩
    cases hp with
    | @lst _ xs _ hs ha =>
      have hlen := dpa_len ha
      refine ⟨_, rfl, _, rfl, _, rfl, t, xs, rfl, .inl (Evl.ex_l w_sub hs), ?_⟩
      refine ⟨l, _, n, rfl, hd, hn, by omega, by omega, fun r o r0 r1 hd' => ?_⟩
      have hr' : r.toNat < xs.length := by omega
      obtain ⟨d, hd1, hd2⟩ := dpa_get ha (List.getElem?_eq_getElem hr')
      have er : ((r.toNat : Nat) : Int) = r := by omega
      refine ⟨t, xs, r, xs[r.toNat], rfl, rfl, Evl.ex_l (w_sub (L := L)) (by rw [w_upd_in hL]; exact hs), ?_, ?_⟩
      · have q := atI_nat (List.getElem?_eq_getElem hr')
        rw [er] at q
        exact q
      · exact k _ d o (List.mem_of_getElem? hd1) (by rw [w_upd_in hL]; exact hd2) hd'
def spPrev (K : PySem.W.Frag) : Nat → Sp
  | 0 => fun _ _ _ _ => False
  | n + 1 => spSame K n
theorem same_body {f : Addr} {fd : FuncData} (F : Fun K "_law_same" "_law_same" s_same f fd) (T : TxB mg) (n : Nat) (D_same : DefAt P w K mg base "_law_same" n ["_law_found", "_law_due"] (spPrev K n)) : FnOk P w K mg base CX0 (n + 1) f fd ["_law_found", "_law_due"] (spSame K n) := by
  refine F.ok sc_same (fun vs H Q E h => ?_) (fun cdv A outer s H vs Q E hr h => ?_)
  · obtain ⟨_, _, _, rfl, _⟩ := h
    rfl
  · obtain ⟨x, y, d, rfl, hx, hy, hf, k⟩ := h
    refine ⟨_, (pss_cons (ps_if (pt_val (pe_callB call_isiT (by rfl) T.m_isinstance (by decide +kernel) (pa_cons (pv 1) (pa_cons (pe_tup (pa_cons (pe_bltn (v := .ty "list") (by rfl) T.m_list (by decide +kernel) rfl) (pa_cons (pe_bltn (v := .ty "tuple") (by rfl) T.m_tuple (by decide +kernel) rfl) pa_nil))) pa_nil)))) (pss_cons (ps_if (PW.pt (pw_or (pt_cmpR op_ne (pe_callB call_isi (by rfl) T.m_isinstance (by decide +kernel) (pa_cons (pv 0) (pa_cons (pe_bltn (v := .ty "list") (by rfl) T.m_list (by decide +kernel) rfl) pa_nil))) (pe_callB call_isi (by rfl) T.m_isinstance (by decide +kernel) (pa_cons (pv 1) (pa_cons (pe_bltn (v := .ty "list") (by rfl) T.m_list (by decide +kernel) rfl) pa_nil))) (nomark _)) (pw_or1 (pt_cmpR op_ne (pe_callB call_isi (by rfl) T.m_isinstance (by decide +kernel) (pa_cons (pv 0) (pa_cons (pe_bltn (v := .ty "tuple") (by rfl) T.m_tuple (by decide +kernel) rfl) pa_nil))) (pe_callB call_isi (by rfl) T.m_isinstance (by decide +kernel) (pa_cons (pv 1) (pa_cons (pe_bltn (v := .ty "tuple") (by rfl) T.m_tuple (by decide +kernel) rfl) pa_nil))) (nomark _))))) (pss_one (ps_ret pe_bl)) pss_nil)
      (pss_one (ps_ret (pe_and (pe_cmpR op_eq (pe_callB call_len_seq (by rfl) T.m_len (by decide +kernel) (pa_cons (pv 0) pa_nil)) (pe_callB call_len_seq (by rfl) T.m_len (by decide +kernel) (pa_cons (pv 1) pa_nil)) (nomark _)) (pe_one (pe_callB (cr_all rfl) (by rfl) T.m_all (by decide +kernel) (pa_cons (pe_lc (own := [("_law_left", 2), ("_law_right", 3)]) (g := gTup K 2 (gCons (gName 2) (gCons (gName 3) (gNil)))) (tt := tYes) (by rfl) sc_same.nd (RZ.pi_zipA (by rfl) T.m_zip (pa_cons (pv 0) (pa_cons (pv 1) pa_nil))) (blkOk_by (N := sc_same_N) (sc := defScope s_same) (by decide +kernel)) (fun _ _ _ _ _ => (pg_tup (by rfl) (pgs_cons (pg_name (i := 2) sc_same.nd rfl (by first | exact Or.inl rfl | exact Or.inr rfl)) (pgs_cons (pg_name (i := 3) sc_same.nd rfl (by first | exact Or.inl rfl | exact Or.inr rfl)) pgs_nil)))) (fun _ _ _ _ _ => pts_nil) (fun _ _ _ _ _ => (pe_callD D_same (by first | exact hr | exact hr.mono (by decide) | exact hr.mono (by omega)) (by rfl) (pa_cons (pv 2) (pa_cons (pv 3) pa_nil))))) pa_nil))))))) pss_nil)
    (pss_cons (ps_if (pt_val (pe_callB call_isiT (by rfl) T.m_isinstance (by decide +kernel) (pa_cons (pv 1) (pa_cons (pe_tup (pa_cons (pe_bltn (v := .ty "bool") (by rfl) T.m_bool (by decide +kernel) rfl) (pa_cons (pe_bltn (v := .ty "int") (by rfl) T.m_int (by decide +kernel) rfl) pa_nil))) pa_nil)))) (pss_one (ps_ret (pe_and (pe_callB call_isi (by rfl) T.m_isinstance (by decide +kernel) (pa_cons (pv 0) (pa_cons (pe_bltn (v := .ty "int") (by rfl) T.m_int (by decide +kernel) rfl) pa_nil))) (pe_and (pe_cmpR op_eq (pe_callB call_isi (by rfl) T.m_isinstance (by decide +kernel) (pa_cons (pv 0) (pa_cons (pe_bltn (v := .ty "bool") (by rfl) T.m_bool (by decide +kernel) rfl) pa_nil))) (pe_callB call_isi (by rfl) T.m_isinstance (by decide +kernel) (pa_cons (pv 1) (pa_cons (pe_bltn (v := .ty "bool") (by rfl) T.m_bool (by decide +kernel) rfl) pa_nil))) (nomark _)) (pe_one (pe_cmpR op_eq (pv 0) (pv 1) (nomark _))))))) pss_nil)
    (pss_one (ps_ret (pe_and (pe_not (pe_callB call_isiT (by rfl) T.m_isinstance (by decide +kernel) (pa_cons (pv 0) (pa_cons (pe_tup (pa_cons (pe_bltn (v := .ty "bool") (by rfl) T.m_bool (by decide +kernel) rfl) (pa_cons (pe_bltn (v := .ty "int") (by rfl) T.m_int (by decide +kernel) rfl) (pa_cons (pe_bltn (v := .ty "list") (by rfl) T.m_list (by decide +kernel) rfl) (pa_cons (pe_bltn (v := .ty "tuple") (by rfl) T.m_tuple (by decide +kernel) rfl) pa_nil))))) pa_nil)))) (pe_one (pe_cmpR op_eq (pv 0) (pv 1) (nomark _)))))))), ?_⟩
    have v0 : Evl.Ev (tVar 0) (start sc_same_N [x, y]) H x := Evl.ev_var rfl
    have v1 : Evl.Ev (tVar 1) (start sc_same_N [x, y]) H y := Evl.ev_var rfl
    -- two lists, two tuples
    have seqs : ∀ (a b : Addr) (xs ys : List V) (ds : List PyData) (m : Nat), n = m + 1 → x = .ref a → y = .ref b → (SqL K H a xs ∧ SqL K H b ys) ∨ (SqT K H a xs ∧ SqT K H b ys) → DpAll K H xs ds → DpAll K H ys ds → (∀ d ∈ ds, fits m d) → xs.length ≤ 40000 →
        ∀ H1, Ex H H1 → Evl.Ev (tAndV (tOp rEq (tCB (fun xs H Q => ∃ p ys, xs = [V.ref p] ∧ (SqL K H p ys ∨ SqT K H p ys) ∧ Q (.int ys.length) H) (tCons (tVar 0) tNil)) (tCB (fun xs H Q => ∃ p ys, xs = [V.ref p] ∧ (SqL K H p ys ∨ SqT K H p ys) ∧ Q (.int ys.length) H) (tCons (tVar 1) tNil)))
          (tCB (rAll K) (tCons (tLc (RZ.iZipA K (tCons (tVar 0) (tCons (tVar 1) tNil))) (gTup K 2 (gCons (gName 2) (gCons (gName 3) gNil))) tYes (tCallD (spPrev K n) (tCons (tVar 2) (tCons (tVar 3) tNil))) [2, 3]) tNil))) (start sc_same_N [x, y]) H1 (.bl true) := by
      rintro a b xs ys ds m rfl rfl rfl hs h1 h2 hd hz H1 e1
      have hl : xs.length = ys.length := (dpa_len h1).trans (dpa_len h2).symm
      have hs1 : SqL K H1 a xs ∨ SqT K H1 a xs := hs.imp (fun q => Evl.ex_l e1 q.1) (fun q => Evl.ex_t e1 q.1)
      have hs2 : SqL K H1 b ys ∨ SqT K H1 b ys := hs.imp (fun q => Evl.ex_l e1 q.2) (fun q => Evl.ex_t e1 q.2)
      refine Evl.ev_is (Evl.ev_andV (a := true) (b := true) (Evl.ev_is (Evl.ev_op (ev_lenS (v0.mono e1) hs1) (ev_lenS (v1.mono e1) hs2) (Evl.rv_eq rfl)) ?_) fun _ => ?_) rfl
      · rw [hl]
        exact congrArg V.bl (decide_eq_true rfl)
      · have z := el_zip (K := K) (v := fun _ => V.bl true) (te := tCallD (spPrev K (m + 1)) (tCons (tVar 2) (tCons (tVar 3) tNil))) (i1 := 2) (i2 := 3) (vs := [2, 3]) (σ := start sc_same_N [V.ref a, V.ref b]) (H := H1) (ta := tCons (tVar 0) (tCons (tVar 1) tNil)) (a := a) (b := b) (xs := xs) (ys := ys)
          (Evl.ea_cons (v0.mono e1) (Evl.ea_cons (v1.mono e1) Evl.ea_nil)) (hs.imp (fun q => ⟨Evl.ex_l e1 q.1, Evl.ex_l e1 q.2⟩) (fun q => ⟨Evl.ex_t e1 q.1, Evl.ex_t e1 q.2⟩)) hl hz (fun _ _ => rfl) (fun i u v H2 e2 hu hv => ?_)
        · have em : (List.range xs.length).map (fun _ => V.bl true) = ((List.range xs.length).map fun _ => true).map V.bl := by
            rw [List.map_map]
            rfl
          rw [em] at z
          exact Evl.ev_is (ev_all z) (congrArg V.bl (by simp))
        · obtain ⟨d, hd1, hd2⟩ := dpa_get h1 hu
          obtain ⟨d', hd3, hd4⟩ := dpa_get h2 hv
          rw [hd1] at hd3
          cases hd3
          exact ev_callD (Evl.ea_cons (Evl.ev_var rfl) (Evl.ea_cons (Evl.ev_var rfl) Evl.ea_nil)) fun H3 e3 Q q => ⟨u, v, d, rfl, hd2.up ((e1.trans e2).trans e3), hd4.up ((e1.trans e2).trans e3), hd d (List.mem_of_getElem? hd1), q⟩
    cases d with
    | none =>
      have exy : x = y := by
        cases hx
        cases hy
        rfl
      refine Evl.q_when (b := false) (Evl.et_B (ev_isi2 v1 hy isi_NoneType_list_tuple)) (fun z => by cases z) (fun _ H1 e1 => ?_)
      refine Evl.q_when (b := false) (Evl.et_B (ev_isi2 (v1.mono e1) (hy.up e1) isi_NoneType_bool_int)) (fun z => by cases z) (fun _ H2 e2 => ?_)
      refine Evl.s_ret (v := .bl true) (Evl.ev_is (Evl.ev_andV (Evl.ev_notV (ev_isi4 (v0.mono (e1.trans e2)) (hx.up (e1.trans e2)) (b := false) isi_NoneType_bool_int_list_tuple)) (fun _ => Evl.ev_is (Evl.ev_op (v0.mono (e1.trans e2)) (v1.mono (e1.trans e2)) (Evl.rv_eq (by cases hx; cases hy; rfl))) (w := .bl true) (by rw [exy]; exact congrArg V.bl (decide_eq_true rfl)))) rfl) (fun H3 e3 => k H3 ((e1.trans e2).trans e3))
    | str z =>
      have exy : x = y := by
        cases hx
        cases hy
        rfl
      refine Evl.q_when (b := false) (Evl.et_B (ev_isi2 v1 hy isi_str_list_tuple)) (fun z => by cases z) (fun _ H1 e1 => ?_)
      refine Evl.q_when (b := false) (Evl.et_B (ev_isi2 (v1.mono e1) (hy.up e1) isi_str_bool_int)) (fun z => by cases z) (fun _ H2 e2 => ?_)
      refine Evl.s_ret (v := .bl true) (Evl.ev_is (Evl.ev_andV (Evl.ev_notV (ev_isi4 (v0.mono (e1.trans e2)) (hx.up (e1.trans e2)) (b := false) isi_str_bool_int_list_tuple)) (fun _ => Evl.ev_is (Evl.ev_op (v0.mono (e1.trans e2)) (v1.mono (e1.trans e2)) (Evl.rv_eq (by cases hx; cases hy; rfl))) (w := .bl true) (by rw [exy]; exact congrArg V.bl (decide_eq_true rfl)))) rfl) (fun H3 e3 => k H3 ((e1.trans e2).trans e3))
    | bool z =>
      have exy : x = y := by
        cases hx
        cases hy
        rfl
      refine Evl.q_when (b := false) (Evl.et_B (ev_isi2 v1 hy isi_bool_list_tuple)) (fun z => by cases z) (fun _ H1 e1 => ?_)
      refine Evl.q_when (b := true) (Evl.et_B (ev_isi2 (v1.mono e1) (hy.up e1) isi_bool_bool_int)) (fun _ H2 e2 => ?_) (fun z => by cases z)
      refine Evl.s_ret (v := .bl true) (Evl.ev_is (Evl.ev_andV (ev_isi (v0.mono (e1.trans e2)) (hx.up (e1.trans e2)) (b := true) isi_bool_int) (fun _ => Evl.ev_andV (a := true) (Evl.ev_is (ev_eqB (ev_isi (v0.mono (e1.trans e2)) (hx.up (e1.trans e2)) (b := true) isi_bool_bool) (ev_isi (v1.mono (e1.trans e2)) (hy.up (e1.trans e2)) (b := true) isi_bool_bool)) (by decide))
        fun _ => Evl.ev_is (Evl.ev_op (v0.mono (e1.trans e2)) (v1.mono (e1.trans e2)) (Evl.rv_eq (by cases hx; cases hy; rfl))) (w := .bl true) (by rw [exy]; exact congrArg V.bl (decide_eq_true rfl)))) rfl) (fun H3 e3 => k H3 ((e1.trans e2).trans e3))
    | int z =>
      have exy : x = y := by
        cases hx
        cases hy
        rfl
      refine Evl.q_when (b := false) (Evl.et_B (ev_isi2 v1 hy isi_int_list_tuple)) (fun z => by cases z) (fun _ H1 e1 => ?_)
      refine Evl.q_when (b := true) (Evl.et_B (ev_isi2 (v1.mono e1) (hy.up e1) isi_int_bool_int)) (fun _ H2 e2 => ?_) (fun z => by cases z)
      refine Evl.s_ret (v := .bl true) (Evl.ev_is (Evl.ev_andV (ev_isi (v0.mono (e1.trans e2)) (hx.up (e1.trans e2)) (b := true) isi_int_int) (fun _ => Evl.ev_andV (a := true) (Evl.ev_is (ev_eqB (ev_isi (v0.mono (e1.trans e2)) (hx.up (e1.trans e2)) (b := false) isi_int_bool) (ev_isi (v1.mono (e1.trans e2)) (hy.up (e1.trans e2)) (b := false) isi_int_bool)) (by decide))
        fun _ => Evl.ev_is (Evl.ev_op (v0.mono (e1.trans e2)) (v1.mono (e1.trans e2)) (Evl.rv_eq (by cases hx; cases hy; rfl))) (w := .bl true) (by rw [exy]; exact congrArg V.bl (decide_eq_true rfl)))) rfl) (fun H3 e3 => k H3 ((e1.trans e2).trans e3))
    | list ds =>
      cases n with
      | zero => exact hf.elim
      | succ m =>
        have hx' := hx
        have hy' := hy
        cases hx with
        | @lst a xs _ hs ha =>
          cases hy with
          | @lst b ys _ hs2 ha2 =>
            refine Evl.q_when (b := true) (Evl.et_B (ev_isi2 v1 hy' isi_list_list_tuple)) (fun _ H1 e1 => ?_) (fun z => by cases z)
            refine Evl.q_when (b := false) (Evl.et_is (Evl.et_or (Evl.et_test (ev_neB (ev_isi (v0.mono e1) (hx'.up e1) (b := true) isi_list_list) (ev_isi (v1.mono e1) (hy'.up e1) (b := true) isi_list_list))) fun _ => Evl.et_test (ev_neB (ev_isi (v0.mono e1) (hx'.up e1) (b := false) isi_list_tuple) (ev_isi (v1.mono e1) (hy'.up e1) (b := false) isi_list_tuple))) (by decide)) (fun z => by cases z) (fun _ H2 e2 => ?_)
            exact Evl.s_ret (v := .bl true) (seqs a b xs ys ds m rfl rfl rfl (.inl ⟨hs, hs2⟩) ha ha2 hf.2 (by rw [dpa_len ha]; exact hf.1) _ (e1.trans e2)) (fun H3 e3 => k H3 ((e1.trans e2).trans e3))
    | tuple ds =>
      cases n with
      | zero => exact hf.elim
      | succ m =>
        have hx' := hx
        have hy' := hy
        cases hx with
        | @tup a xs _ hs ha =>
          cases hy with
          | @tup b ys _ hs2 ha2 =>
            refine Evl.q_when (b := true) (Evl.et_B (ev_isi2 v1 hy' isi_tuple_list_tuple)) (fun _ H1 e1 => ?_) (fun z => by cases z)
            refine Evl.q_when (b := false) (Evl.et_is (Evl.et_or (Evl.et_test (ev_neB (ev_isi (v0.mono e1) (hx'.up e1) (b := false) isi_tuple_list) (ev_isi (v1.mono e1) (hy'.up e1) (b := false) isi_tuple_list))) fun _ => Evl.et_test (ev_neB (ev_isi (v0.mono e1) (hx'.up e1) (b := true) isi_tuple_tuple) (ev_isi (v1.mono e1) (hy'.up e1) (b := true) isi_tuple_tuple))) (by decide)) (fun z => by cases z) (fun _ H2 e2 => ?_)
            exact Evl.s_ret (v := .bl true) (seqs a b xs ys ds m rfl rfl rfl (.inr ⟨hs, hs2⟩) ha ha2 hf.2 (by rw [dpa_len ha]; exact hf.1) _ (e1.trans e2)) (fun H3 e3 => k H3 ((e1.trans e2).trans e3))
    | dict _ => cases hx
end
end U

set_option Elab.async false
set_option linter.all false
set_option maxRecDepth 100000
set_option maxHeartbeats 4000000
namespace U
open PySem L2
open Evl (Ex)
abbrev s_is_integer : Stmt := top 9
abbrev sc_is_integer_N : List Str := ["thing"]
theorem sc_is_integer : FnScope sc_is_integer_N ["thing"] (defScope s_is_integer) := ⟨rfl, rfl, rfl, by decide +kernel, rfl, by decide +kernel, by decide +kernel⟩
abbrev s_is_label : Stmt := top 11
abbrev sc_is_label_N : List Str := ["thing"]
theorem sc_is_label : FnScope sc_is_label_N ["thing"] (defScope s_is_label) := ⟨rfl, rfl, rfl, by decide +kernel, rfl, by decide +kernel, by decide +kernel⟩
abbrev s_is_row : Stmt := top 12
abbrev sc_is_row_N : List Str := ["thing"]
theorem sc_is_row : FnScope sc_is_row_N ["thing"] (defScope s_is_row) := ⟨rfl, rfl, rfl, by decide +kernel, rfl, by decide +kernel, by decide +kernel⟩
abbrev s_is_row_of : Stmt := top 13
abbrev sc_is_row_of_N : List Str := ["thing", "many"]
theorem sc_is_row_of : FnScope sc_is_row_of_N ["thing", "many"] (defScope s_is_row_of) := ⟨rfl, rfl, rfl, by decide +kernel, rfl, by decide +kernel, by decide +kernel⟩
abbrev s_is_number_of_places : Stmt := top 15
abbrev sc_is_number_of_places_N : List Str := ["thing"]
theorem sc_is_number_of_places : FnScope sc_is_number_of_places_N ["thing"] (defScope s_is_number_of_places) := ⟨rfl, rfl, rfl, by decide +kernel, rfl, by decide +kernel, by decide +kernel⟩
abbrev s_is_point : Stmt := top 16
abbrev sc_is_point_N : List Str := ["thing", "places", "entry"]
theorem sc_is_point : FnScope sc_is_point_N ["thing", "places"] (defScope s_is_point) := ⟨rfl, rfl, rfl, by decide +kernel, rfl, by decide +kernel, by decide +kernel⟩
def isI : PyData → Bool
  | .int _ => true
  | _ => false
def isL : PyData → Bool
  | .bool _ => true
  | _ => false
def isR : PyData → Bool
  | .list _ => true
  | .tuple _ => true
  | _ => false
def isN : PyData → Bool
  | .int i => decide (1 ≤ i) && decide (i ≤ 3)
  | _ => false
def isP (p : Int) : PyData → Bool
  | .list ds => decide ((ds.length : Int) = p) && ds.all isI
  | .tuple ds => decide ((ds.length : Int) = p) && ds.all isI
  | _ => false
def isO (p : Int) : PyData → Bool
  | .list ds => decide ((ds.length : Int) = p)
  | .tuple ds => decide ((ds.length : Int) = p)
  | _ => false
def isX (p : Int) : PyData → Bool
  | .list [a, b] => isP p a && isL b
  | .tuple [a, b] => isP p a && isL b
  | _ => false
def tupOf : PyData → PyData
  | .list ds => .tuple ds
  | d => d
def cpy : PyData → PyData
  | .list [a, b] => .tuple [tupOf a, b]
  | .tuple [a, b] => .tuple [tupOf a, b]
  | d => d
/-- True or False of data, by f | of data and a number of places -/
def spB (K : PySem.W.Frag) (f : PyData → Bool) : Sp := fun vs H Q _ => ∃ v d, vs = [v] ∧ Dq K H v d ∧ ∀ H', Ex H H' → Q (.bl (f d)) H'
def spBp (K : PySem.W.Frag) (f : Int → PyData → Bool) : Sp := fun vs H Q _ => ∃ v d p, vs = [v, .int p] ∧ Dq K H v d ∧ (∃ n, fits n d) ∧ ∀ H', Ex H H' → Q (.bl (f p d)) H'
structure TxF (mg : Str → Option Value) : Prop extends TxB mg where
  m_range : mg "range" = none
  m_enumerate : mg "enumerate" = none
  c_LEAST_PLACES : ∃ t, mg "LEAST_PLACES" = some (.int 1 t)
  c_MOST_PLACES : ∃ t, mg "MOST_PLACES" = some (.int 3 t)
section
variable {P : Program} {w : World} {K : PySem.W.Frag} {mg : Str → Option Value} {base : Heap}
theorem isP_two {p : Int} {d : PyData} : (isO p d && isP p d) = isP p d := by
  have q : ∀ a b : Bool, (a && (a && b)) = (a && b) := by decide
  cases d with
  | list ds => exact q _ _
  | tuple ds => exact q _ _
  | _ => rfl
theorem isX_two {p : Int} {d : PyData} {ds : List PyData} (h : d = .list ds ∨ d = .tuple ds) : (isO 2 d && isX p d) = isX p d := by
  rcases h with rfl | rfl <;> (match ds with
    | [] => rfl
    | [_] => rfl
    | [_, _] => rfl
    | _ :: _ :: _ :: r =>
      show (_ && false) = false
      rw [Bool.and_false])
theorem ev_spB {σ : L2.St} {H : Hp} {te : TE} {v : V} {d : PyData} {f : PyData → Bool} (h : Evl.Ev te σ H v) (hd : Dp K H v d) : Evl.Ev (tCallD (spB K f) (tCons te tNil)) σ H (.bl (f d)) :=
  ev_callD (Evl.ea_cons h Evl.ea_nil) fun H1 e1 Q q => ⟨v, d, rfl, (hd.up e1).q, q⟩
theorem ev_spBp {σ : L2.St} {H : Hp} {te tp : TE} {v : V} {d : PyData} {f : Int → PyData → Bool} {p : Int} (h : Evl.Ev te σ H v) (hp : Evl.Ev tp σ H (.int p)) (hd : Dp K H v d) (hw : ∃ n, fits n d) : Evl.Ev (tCallD (spBp K f) (tCons te (tCons tp tNil))) σ H (.bl (f p d)) :=
  ev_callD (Evl.ea_cons h (Evl.ea_cons hp Evl.ea_nil)) fun H1 e1 Q q => ⟨v, d, p, rfl, (hd.up e1).q, hw, q⟩
theorem ev_spBq {σ : L2.St} {H : Hp} {te : TE} {v : V} {d : PyData} {f : PyData → Bool} (h : Evl.Ev te σ H v) (hd : Dq K H v d) : Evl.Ev (tCallD (spB K f) (tCons te tNil)) σ H (.bl (f d)) :=
  ev_callD (Evl.ea_cons h Evl.ea_nil) fun H1 e1 Q q => ⟨v, d, rfl, hd.up e1, q⟩
theorem ev_spBpq {σ : L2.St} {H : Hp} {te tp : TE} {v : V} {d : PyData} {f : Int → PyData → Bool} {p : Int} (h : Evl.Ev te σ H v) (hp : Evl.Ev tp σ H (.int p)) (hd : Dq K H v d) (hw : ∃ n, fits n d) : Evl.Ev (tCallD (spBp K f) (tCons te (tCons tp tNil))) σ H (.bl (f p d)) :=
  ev_callD (Evl.ea_cons h (Evl.ea_cons hp Evl.ea_nil)) fun H1 e1 Q q => ⟨v, d, p, rfl, hd.up e1, hw, q⟩
theorem ok_is_integer {f : Addr} {fd : FuncData} (F : Fun K "is_integer" "is_integer" s_is_integer f fd) (T : TxF mg) : FnOk P w K mg base CX0 1 f fd ["thing"] (spB K isI) := by
  refine F.ok sc_is_integer (fun vs H Q E h => ?_) (fun cdv A outer s H vs Q E hr h => ?_)
  · obtain ⟨_, _, rfl, _⟩ := h
    rfl
  · obtain ⟨v, d, rfl, hd, k⟩ := h
    refine ⟨_, (pss_one (ps_ret (pe_and (pe_callB call_isi (by rfl) T.m_isinstance (by decide +kernel) (pa_cons (pv 0) (pa_cons (pe_bltn (v := .ty "int") (by rfl) T.m_int (by decide +kernel) rfl) pa_nil))) (pe_one (pe_not (pe_callB call_isi (by rfl) T.m_isinstance (by decide +kernel) (pa_cons (pv 0) (pa_cons (pe_bltn (v := .ty "bool") (by rfl) T.m_bool (by decide +kernel) rfl) pa_nil)))))))), ?_⟩
    have v0 : Evl.Ev (tVar 0) (start sc_is_integer_N [v]) H v := Evl.ev_var rfl
    cases d with
    | none => exact Evl.s_ret (v := .bl false) (Evl.ev_andV (a := false) (b := false) (evq_isi v0 hd isi_NoneType_int) fun z => nomatch z) k
    | bool z => exact Evl.s_ret (v := .bl false) (Evl.ev_andV (a := true) (b := false) (evq_isi v0 hd isi_bool_int) fun _ => Evl.ev_notV (a := true) (evq_isi v0 hd isi_bool_bool)) k
    | int z => exact Evl.s_ret (v := .bl true) (Evl.ev_andV (a := true) (b := true) (evq_isi v0 hd isi_int_int) fun _ => Evl.ev_notV (a := false) (evq_isi v0 hd isi_int_bool)) k
    | str z' => exact Evl.s_ret (v := .bl false) (Evl.ev_andV (a := false) (b := false) (evq_isi v0 hd isi_str_int) fun z => nomatch z) k
    | list ds => exact Evl.s_ret (v := .bl false) (Evl.ev_andV (a := false) (b := false) (evq_isi v0 hd isi_list_int) fun z => nomatch z) k
    | tuple ds => exact Evl.s_ret (v := .bl false) (Evl.ev_andV (a := false) (b := false) (evq_isi v0 hd isi_tuple_int) fun z => nomatch z) k
    | dict z' => exact Evl.s_ret (v := .bl false) (Evl.ev_andV (a := false) (b := false) (evq_isi v0 hd isi_dict_int) fun z => nomatch z) k
theorem ok_is_label {f : Addr} {fd : FuncData} (F : Fun K "is_label" "is_label" s_is_label f fd) (T : TxF mg) : FnOk P w K mg base CX0 1 f fd ["thing"] (spB K isL) := by
  refine F.ok sc_is_label (fun vs H Q E h => ?_) (fun cdv A outer s H vs Q E hr h => ?_)
  · obtain ⟨_, _, rfl, _⟩ := h
    rfl
  · obtain ⟨v, d, rfl, hd, k⟩ := h
    refine ⟨_, (pss_one (ps_ret (pe_callB call_isi (by rfl) T.m_isinstance (by decide +kernel) (pa_cons (pv 0) (pa_cons (pe_bltn (v := .ty "bool") (by rfl) T.m_bool (by decide +kernel) rfl) pa_nil))))), ?_⟩
    have v0 : Evl.Ev (tVar 0) (start sc_is_label_N [v]) H v := Evl.ev_var rfl
    cases d with
    | none => exact Evl.s_ret (evq_isi v0 hd isi_NoneType_bool) k
    | bool z => exact Evl.s_ret (evq_isi v0 hd isi_bool_bool) k
    | int z => exact Evl.s_ret (evq_isi v0 hd isi_int_bool) k
    | str z => exact Evl.s_ret (evq_isi v0 hd isi_str_bool) k
    | list ds => exact Evl.s_ret (evq_isi v0 hd isi_list_bool) k
    | tuple ds => exact Evl.s_ret (evq_isi v0 hd isi_tuple_bool) k
    | dict z => exact Evl.s_ret (evq_isi v0 hd isi_dict_bool) k
theorem ok_is_row {f : Addr} {fd : FuncData} (F : Fun K "is_row" "is_row" s_is_row f fd) (T : TxF mg) : FnOk P w K mg base CX0 1 f fd ["thing"] (spB K isR) := by
  refine F.ok sc_is_row (fun vs H Q E h => ?_) (fun cdv A outer s H vs Q E hr h => ?_)
  · obtain ⟨_, _, rfl, _⟩ := h
    rfl
  · obtain ⟨v, d, rfl, hd, k⟩ := h
    refine ⟨_, (pss_one (ps_ret (pe_callB call_isiT (by rfl) T.m_isinstance (by decide +kernel) (pa_cons (pv 0) (pa_cons (pe_tup (pa_cons (pe_bltn (v := .ty "list") (by rfl) T.m_list (by decide +kernel) rfl) (pa_cons (pe_bltn (v := .ty "tuple") (by rfl) T.m_tuple (by decide +kernel) rfl) pa_nil))) pa_nil))))), ?_⟩
    have v0 : Evl.Ev (tVar 0) (start sc_is_row_N [v]) H v := Evl.ev_var rfl
    cases d with
    | none => exact Evl.s_ret (evq_isi2 v0 hd isi_NoneType_list_tuple) k
    | bool z => exact Evl.s_ret (evq_isi2 v0 hd isi_bool_list_tuple) k
    | int z => exact Evl.s_ret (evq_isi2 v0 hd isi_int_list_tuple) k
    | str z => exact Evl.s_ret (evq_isi2 v0 hd isi_str_list_tuple) k
    | list ds => exact Evl.s_ret (evq_isi2 v0 hd isi_list_list_tuple) k
    | tuple ds => exact Evl.s_ret (evq_isi2 v0 hd isi_tuple_list_tuple) k
    | dict z => exact Evl.s_ret (evq_isi2 v0 hd isi_dict_list_tuple) k
theorem ok_is_number_of_places {f : Addr} {fd : FuncData} (F : Fun K "is_number_of_places" "is_number_of_places" s_is_number_of_places f fd) (T : TxF mg) (D_is_integer : DefAt P w K mg base "is_integer" 1 ["thing"] (spB K isI)) : FnOk P w K mg base CX0 2 f fd ["thing"] (spB K isN) := by
  refine F.ok sc_is_number_of_places (fun vs H Q E h => ?_) (fun cdv A outer s H vs Q E hr h => ?_)
  · obtain ⟨_, _, rfl, _⟩ := h
    rfl
  · obtain ⟨v, d, rfl, hd, k⟩ := h
    refine ⟨_, (pss_one (ps_ret (pe_and (pe_callD D_is_integer (by first | exact hr | exact hr.mono (by decide) | exact hr.mono (by omega)) (by rfl) (pa_cons (pv 0) pa_nil)) (pe_one (pe_chain op_le op_le (pe_glob (v := .int 1) (by rfl) T.c_LEAST_PLACES.choose_spec (by exact ⟨_, rfl⟩)) (pv 0) (pe_glob (v := .int 3) (by rfl) T.c_MOST_PLACES.choose_spec (by exact ⟨_, rfl⟩))))))), ?_⟩
    have v0 : Evl.Ev (tVar 0) (start sc_is_number_of_places_N [v]) H v := Evl.ev_var rfl
    have e : isI d = true → ∃ i, d = .int i := fun z => by
      cases d <;> first | exact ⟨_, rfl⟩ | cases z
    have q : (isI d && isN d) = isN d := by
      cases d <;> rfl
    refine Evl.s_ret (v := .bl (isN d)) (Evl.ev_is (Evl.ev_andV (a := isI d) (b := isN d) (ev_spBq v0 hd) fun z => ?_) (congrArg V.bl q)) k
    obtain ⟨i, rfl⟩ := e z
    cases hd
    refine ev_chain (k := decide (1 ≤ i)) Evl.ev_c v0 (Evl.rv_I0 (g := fun a b => .bl (decide (a ≤ b)))) (fun _ => Evl.ev_c) (fun _ => ?_) (fun z => ?_)
    · have e : (isN (.int i)) = decide (i ≤ 3) := by
        show (decide (1 ≤ i) && decide (i ≤ 3)) = _
        rw [‹decide (1 ≤ i) = true›]
        rfl
      rw [e]
      exact Evl.rv_I0 (g := fun a b => .bl (decide (a ≤ b)))
    · show (decide (1 ≤ i) && decide (i ≤ 3)) = false
      rw [z]
      rfl
theorem ok_is_row_of {f : Addr} {fd : FuncData} (F : Fun K "is_row_of" "is_row_of" s_is_row_of f fd) (T : TxF mg) (D_is_row : DefAt P w K mg base "is_row" 1 ["thing"] (spB K isR)) : FnOk P w K mg base CX0 2 f fd ["thing", "many"] (spBp K isO) := by
  refine F.ok sc_is_row_of (fun vs H Q E h => ?_) (fun cdv A outer s H vs Q E hr h => ?_)
  · obtain ⟨_, _, _, rfl, _⟩ := h
    rfl
  · obtain ⟨v, d, p, rfl, hd, hw, k⟩ := h
    refine ⟨_, (pss_one (ps_ret (pe_and (pe_callD D_is_row (by first | exact hr | exact hr.mono (by decide) | exact hr.mono (by omega)) (by rfl) (pa_cons (pv 0) pa_nil)) (pe_one (pe_cmpR op_eq (pe_callB call_len_seq (by rfl) T.m_len (by decide +kernel) (pa_cons (pv 0) pa_nil)) (pv 1) (nomark _)))))), ?_⟩
    have v0 : Evl.Ev (tVar 0) (start sc_is_row_of_N [v, .int p]) H v := Evl.ev_var rfl
    have v1 : Evl.Ev (tVar 1) (start sc_is_row_of_N [v, .int p]) H (.int p) := Evl.ev_var rfl
    have q : (isR d && isO p d) = isO p d := by
      cases d <;> rfl
    refine Evl.s_ret (v := .bl (isO p d)) (Evl.ev_is (Evl.ev_andV (a := isR d) (b := isO p d) (ev_spBq v0 hd) fun z => ?_) (congrArg V.bl q)) k
    have main : ∀ (a : Addr) (xs : List V) (ds : List PyData), v = .ref a → (SqL K H a xs ∨ SqT K H a xs) → DqAll K H xs ds → Evl.Ev (tOp rEq (tCB (fun xs H Q => ∃ p ys, xs = [V.ref p] ∧ (SqL K H p ys ∨ SqT K H p ys) ∧ Q (.int ys.length) H) (tCons (tVar 0) tNil)) (tVar 1)) (start sc_is_row_of_N [v, .int p]) H (.bl (decide ((ds.length : Int) = p))) := by
      rintro a xs ds rfl hx ha
      have hlen := dqa_len ha
      refine Evl.ev_is (Evl.ev_op (ev_lenS v0 hx) v1 (Evl.rv_eq rfl)) ?_
      rw [hlen]
      exact congrArg V.bl (by simp)
    cases d with
    | list ds =>
      cases hd with
      | lst hs ha => exact main _ _ ds rfl (.inl hs) ha
    | tuple ds =>
      cases hd with
      | tup hs ha => exact main _ _ ds rfl (.inr hs) ha
    | _ => cases z
theorem ok_is_point {f : Addr} {fd : FuncData} (F : Fun K "is_point" "is_point" s_is_point f fd) (T : TxF mg) (D_is_integer : DefAt P w K mg base "is_integer" 1 ["thing"] (spB K isI)) (D_is_row_of : DefAt P w K mg base "is_row_of" 2 ["thing", "many"] (spBp K isO)) : FnOk P w K mg base CX0 3 f fd ["thing", "places"] (spBp K isP) := by
  refine F.ok sc_is_point (fun vs H Q E h => ?_) (fun cdv A outer s H vs Q E hr h => ?_)
  · obtain ⟨_, _, _, rfl, _⟩ := h
    rfl
  · obtain ⟨v, d, p, rfl, hd, hw, k⟩ := h
    refine ⟨_, (pss_one (ps_ret (pe_and (pe_callD D_is_row_of (by first | exact hr | exact hr.mono (by decide) | exact hr.mono (by omega)) (by rfl) (pa_cons (pv 0) (pa_cons (pv 1) pa_nil))) (pe_one (pe_callB (cr_all rfl) (by rfl) T.m_all (by decide +kernel) (pa_cons (pe_lc (own := [("entry", 2)]) (g := gName 2) (tt := tYes) (by rfl) sc_is_point.nd (pi_seq (pv 0)) (blkOk_by (N := sc_is_point_N) (sc := defScope s_is_point) (by decide +kernel)) (fun _ _ _ _ _ => (pg_name (i := 2) sc_is_point.nd rfl (by first | exact Or.inl rfl | exact Or.inr rfl))) (fun _ _ _ _ _ => pts_nil) (fun _ _ _ _ _ => (pe_callD D_is_integer (by first | exact hr | exact hr.mono (by decide) | exact hr.mono (by omega)) (by rfl) (pa_cons (pv 2) pa_nil)))) pa_nil)))))), ?_⟩
    have v0 : Evl.Ev (tVar 0) (start sc_is_point_N [v, .int p]) H v := Evl.ev_var rfl
    have v1 : Evl.Ev (tVar 1) (start sc_is_point_N [v, .int p]) H (.int p) := Evl.ev_var rfl
    have q : (isO p d && isP p d) = isP p d := by
      exact isP_two
    refine Evl.s_ret (v := .bl (isP p d)) (Evl.ev_is (Evl.ev_andV (a := isO p d) (b := isP p d) (ev_spBpq v0 v1 hd hw) fun z => ?_) (congrArg V.bl q)) k
    have main : ∀ (a : Addr) (xs : List V) (ds : List PyData), v = .ref a → (SqL K H a xs ∨ SqT K H a xs) → DqAll K H xs ds → ds.length ≤ 40000 → (ds.length : Int) = p → Evl.Ev (tCB (rAll K) (tCons (tLc (iSeq K (tVar 0)) (gName 2) tYes (tCallD (spB K isI) (tCons (tVar 2) tNil)) [2]) tNil)) (start sc_is_point_N [v, .int p]) H (.bl (decide ((ds.length : Int) = p) && ds.all isI)) := by
      rintro a xs ds rfl hx ha hz he
      refine Evl.ev_is (ev_all (bs := ds.map isI) ?_) (congrArg V.bl (by simp [he]))
      exact el_seqBq v0 hx ha hz (fun _ => rfl) (fun x d H1 _ e1 hd' => ev_spBq (Evl.ev_var rfl) hd')
    cases d with
    | list ds =>
      cases hd with
      | lst hs ha => exact main _ _ ds rfl (.inl hs) ha (fits_len (.inl hw)) (of_decide_eq_true z)
    | tuple ds =>
      cases hd with
      | tup hs ha => exact main _ _ ds rfl (.inr hs) ha (fits_len (.inr hw)) (of_decide_eq_true z)
    | _ => cases z
end
end U

set_option Elab.async false
set_option linter.all false
set_option maxRecDepth 100000
set_option maxHeartbeats 2000000
namespace U
open PySem L2
/-- kinds of rules -/
inductive Kd where
  | halves (p : Int)
  | boxes (p : Int)
  | rising (p : Int)
  | flats (p : Int)
  | turns (m : Int)
  | no (k : Kd)
  | both (k m : Kd)
  | either (k m : Kd)
  | any (k m : Kd)
def kdD : Kd → PyData
  | .halves p => .tuple [.str "halves", .int p]
  | .boxes p => .tuple [.str "boxes", .int p]
  | .rising p => .tuple [.str "rising", .int p]
  | .flats p => .tuple [.str "flats", .int p]
  | .turns m => .tuple [.str "turns", .int m]
  | .no k => .tuple [.str "not", kdD k]
  | .both k m => .tuple [.str "both", kdD k, kdD m]
  | .either k m => .tuple [.str "either", kdD k, kdD m]
  | .any k m => .tuple [.str "any", kdD k, kdD m]
def okK (p : Int) : Kd → Prop
  | .halves q => q = p
  | .boxes q => q = p
  | .rising q => q = p
  | .flats q => q = p
  | .turns m => p = 1 ∧ 0 ≤ m ∧ m ≤ 3
  | .no k => okK p k
  | .both k m => okK p k ∧ okK p m
  | .either k m => okK p k ∧ okK p m
  | .any k m => okK p k ∧ okK p m
def depK : Kd → Nat
  | .no k => depK k + 1
  | .both k m => max (depK k) (depK m) + 1
  | .either k m => max (depK k) (depK m) + 1
  | .any k m => max (depK k) (depK m) + 1
  | _ => 0
end U

set_option Elab.async false
set_option linter.all false
set_option maxRecDepth 100000
set_option maxHeartbeats 4000000
/-! operators of two own classes, ~ of an own one, one rule of several -/
namespace UO
open PySem PySem.W PySem.Calls PyProof.Rows
section
variable {prog : Program} {w : World} {A : Around} {E : Value → Shared → Prop} {s : Shared} {K : Frag} {x C1 C2 L f g : Addr} {h₀ : Heap} {m : Str → Option Value} {ox : Obj} {od : Option Obj} {op : Operator} {b : Value} {Q : Value → Shared → Prop}
theorem binop2 (F : Fr h₀ L s.heap m) (X₀ : K.In h₀) (I : InstAt s.heap x ox C1 od) (hb : Looks (model prog w) s.heap (typeOf b) (.ref C2)) (ne : C1 ≠ C2) (c1 : selfFirst K C1 = true) (c2 : selfFirst K C2 = true)
    (s1 : findIn K (.ref C1) (PySem.dunder op.info.2) = some (some (.ref f))) (f1 : isFn K (.ref f) = true) (s2 : findIn K (.ref C2) (PySem.dunder op.info.2) = some (some (.ref g))) (r1 : findIn K (.ref C1) (dunderR op.info.2) = some none) (r2 : findIn K (.ref C2) (dunderR op.info.2) = some none)
    (hsub : subIn K (.ref C2) (.ref C1) = some false) (h : wpAny (model prog w) A (call (.ref f) [.ref x, b]) (PySem.W.CmpBack Q) E s) : wpAny (model prog w) A (binaryOp op (.ref x) b) Q E s := by
  have X := X₀.keeps F.keep
  obtain ⟨d1, t1, e1, m1⟩ := ksp_first c1
  obtain ⟨d2, t2, e2, m2⟩ := ksp_first c2
  rcases hi : op.info with ⟨sym, nm⟩
  rw [hi] at s1 s2 r1 r2
  dsimp only at s1 s2 r1 r2
  have one := ksp_try X I s1 f1 h
  obtain ⟨hh, g1, d, tt, os⟩ := s
  have T1 : Looks (model prog w) hh (typeOf (.ref x)) (.ref C1) := I.type
  have T2 : Looks (model prog w) hh (typeOf b) (.ref C2) := hb
  have N1 : Looks (model prog w) hh (fillsNumberSlot (.ref C1) nm) true := fills_K X e1 m1 s1
  have N2 : Looks (model prog w) hh (fillsNumberSlot (.ref C2) nm) true := fills_K X e2 m2 s2
  have S1 : Looks (model prog w) hh (isSubtype (.ref C2) (.ref C1)) false := looks_subIn X hsub
  have P1 : Looks (model prog w) hh (numberSlotInPython (.ref C1) nm) true := ksp_inPy X s1 r1 (.inl rfl)
  have P2 : Looks (model prog w) hh (numberSlotInPython (.ref C2) nm) true := ksp_inPy X s2 r2 (.inl rfl)
  have hne : (Value.ref C1 == Value.ref C2) = false := Bool.eq_false_iff.mpr fun q => ne (by cases beq_iff_eq.mp q; rfl)
  simp only [binaryOp, hi]
  refine wpAny_holding (wpAny_bind ?_)
  unfold binaryOp1
  refine wpAny_bind (T1.at (wpAny_bind (T2.at (wpAny_bind (N1.at ?_)))))
  simp only [hne, Bool.false_eq_true, if_false]
  ksp_lk
  refine wpAny_mono one (fun r s' hr' => ?_) fun _ _ e => e
  obtain ⟨v, rfl, hq⟩ := hr'
  ksp_lk
  exact hq
end
end UO
namespace U
open PySem PySem.Spec PyProof.Rows L2
open Evl (Ex)
section
variable {X : Cx} {e a b : Expr} {ta tb : TE} {n : Nat} {pos : Pos} {op : Operator} {sp : Sp} {C C1 C2 f g : Addr} {fd : FuncData} {ps : List Str}
/-- one of several readings -/
def tAny {ι : Type} (P : ι → Prop) (t : ι → TE) : TE := fun σ H Q => ∃ i, P i ∧ t i σ H Q
theorem pe_any {ι : Type} {P : ι → Prop} {t : ι → TE} (h : ∀ i, P i → PE X e (t i)) : PE X e (tAny P t) := ⟨fun pins s σ H Q I ⟨i, hi, q⟩ => (h i hi).run pins s σ H Q I q⟩
/-- one op other of instances of two classes -/
def tOwn2 (C1 C2 : Addr) (sp : Sp) (ta tb : TE) : TE := fun σ H Q => ta σ H fun x H1 => tb σ H1 fun y H2 => ∃ a b dx dy fs gs, x = .ref a ∧ y = .ref b ∧ H2 a = some (.ins C1 dx fs) ∧ H2 b = some (.ins C2 dy gs) ∧
  sp [.ref a, .ref b] H2 (fun v H' => ∃ r, v = .ref r ∧ Q (.ref r) H') E0
structure OpC (K : PySem.W.Frag) (C : Addr) (nm : Str) (nr : Str) (f : Addr) : Prop where
  sf : PySem.W.selfFirst K C = true
  hs : PySem.W.findIn K (.ref C) nm = some (some (.ref f))
  hf : PySem.W.isFn K (.ref f) = true
  hr : PySem.W.findIn K (.ref C) nr = some none
theorem pe_own2 (F : FnOk X.prog X.w X.K X.mg X.base CX0 n f fd ps sp) (hr : Room n X.A) (o1 : OpC X.K C1 (PySem.dunder op.info.2) (dunderR op.info.2) f) (o2 : OpC X.K C2 (PySem.dunder op.info.2) (dunderR op.info.2) g) (hsub : C1 = C2 ∨ PySem.W.subIn X.K (.ref C2) (.ref C1) = some false)
    (hb : Binds X.K fd ps []) (ha : PE X a ta) (hb2 : PE X b tb) : PE X (.BinOp a op b pos) (tOwn2 C1 C2 sp ta tb) := by
  refine ⟨fun pins s σ H Q I h => wpAny_BinOp (binT (R := fun x y H2 => ∃ a b dx dy fs gs, x = .ref a ∧ y = .ref b ∧ H2 a = some (.ins C1 dx fs) ∧ H2 b = some (.ins C2 dy gs) ∧ sp [.ref a, .ref b] H2 (fun v H' => ∃ r, v = .ref r ∧ Q (.ref r) H') E0) ha hb2 I h fun v u s2 x y H2 I2 rx ry q => ?_)⟩
  obtain ⟨p, r, dx, dy, fs, gs, rfl, rfl, hp, hr2, hsp⟩ := q
  cases rx
  cases ry
  obtain ⟨mA, J, _⟩ := ins_get I2.hok hp
  obtain ⟨mB, J', _⟩ := ins_get I2.hok hr2
  obtain ⟨od, J, _⟩ := J.look
  obtain ⟨od', J', _⟩ := J'.look
  obtain ⟨m, hF⟩ := I2.fr
  have r2 : Vals [V.ref p, V.ref r] [Value.ref p, Value.ref r] := .cons rfl (.cons rfl .nil)
  have run : wpAny (model X.prog X.w) X.A (call (.ref f) [Value.ref p, .ref r]) (PySem.W.CmpBack (EP X pins σ Q)) X.xe s2 := by
    refine wpAny_mono (run_fn F hr hb .nil pass0 I2 r2 hsp) (fun r s' z => ?_) fun _ _ x => x
    obtain ⟨v, H', I', rv, t, rfl, q⟩ := z
    cases rv
    exact ⟨V.ref t, H', I', rfl, q⟩
  by_cases e : C1 = C2
  · subst e
    exact PySem.W.binop_K (C := C1) hF I2.ok.mod.kin J J'.type o1.sf o1.hs o1.hf run
  · exact UO.binop2 hF I2.ok.mod.kin J J'.type e o1.sf o2.sf o1.hs o1.hf o2.hs o1.hr o2.hr (hsub.resolve_left e) run
/-- ~x of an instance -/
def tInv (C : Addr) (sp : Sp) (ta : TE) : TE := fun σ H Q => ta σ H fun x H1 => ∃ a dx fs, x = .ref a ∧ H1 a = some (.ins C dx fs) ∧ sp [.ref a] H1 Q E0
theorem pe_inv (F : FnOk X.prog X.w X.K X.mg X.base CX0 n f fd ps sp) (hr : Room n X.A) (hs : PySem.W.findIn X.K (.ref C) "__invert__" = some (some (.ref f))) (hf : PySem.W.isFn X.K (.ref f) = true) (hb : Binds X.K fd ps []) (ha : PE X a ta) : PE X (.UnaryOp .Invert a pos) (tInv C sp ta) := by
  refine ⟨fun pins s σ H Q I h => ?_⟩
  refine wpAny_UnaryOp (thn (ha.run pins s σ H _ I h) fun v s1 ⟨x, H1, I1, r1, q1⟩ => ?_)
  obtain ⟨p, dx, fs, rfl, hp, hsp⟩ := q1
  cases r1
  obtain ⟨mA, J, _⟩ := ins_get I1.hok hp
  obtain ⟨od, J, _⟩ := J.look
  obtain ⟨m, hF⟩ := I1.fr
  refine PySem.W.ksp_inv hF I1.ok.mod.kin J hs hf ?_
  exact run_fn F hr hb .nil pass0 I1 (show Vals [V.ref p] [Value.ref p] from .cons rfl .nil) hsp
end
end U

set_option Elab.async false
set_option linter.all false
set_option maxRecDepth 100000
set_option maxHeartbeats 4000000
/-! kinds as instances -/
namespace U
open PySem PySem.Spec PyProof.Rows L2
open Evl (Ex)
open C8 (Met Mak pe_mt pe_mt0 pe_mk)
abbrev s_check_number_of_places : Stmt := top 26
abbrev sc_check_number_of_places_N : List Str := ["places"]
theorem sc_check_number_of_places : FnScope sc_check_number_of_places_N ["places"] (defScope s_check_number_of_places) := ⟨rfl, rfl, rfl, by decide +kernel, rfl, by decide +kernel, by decide +kernel⟩
abbrev s_Halves_init : Stmt := inClass (top 19) 0
abbrev sc_Halves_init_N : List Str := ["self", "places"]
theorem sc_Halves_init : FnScope sc_Halves_init_N ["self", "places"] (defScope s_Halves_init) := ⟨rfl, rfl, rfl, by decide +kernel, rfl, by decide +kernel, by decide +kernel⟩
abbrev s_Halves_invert : Stmt := inClass (top 19) 7
abbrev sc_Halves_invert_N : List Str := ["self"]
theorem sc_Halves_invert : FnScope sc_Halves_invert_N ["self"] (defScope s_Halves_invert) := ⟨rfl, rfl, rfl, by decide +kernel, rfl, by decide +kernel, by decide +kernel⟩
abbrev s_Halves_and : Stmt := inClass (top 19) 8
abbrev sc_Halves_and_N : List Str := ["self", "other"]
theorem sc_Halves_and : FnScope sc_Halves_and_N ["self", "other"] (defScope s_Halves_and) := ⟨rfl, rfl, rfl, by decide +kernel, rfl, by decide +kernel, by decide +kernel⟩
abbrev s_Halves_or : Stmt := inClass (top 19) 9
abbrev sc_Halves_or_N : List Str := ["self", "other"]
theorem sc_Halves_or : FnScope sc_Halves_or_N ["self", "other"] (defScope s_Halves_or) := ⟨rfl, rfl, rfl, by decide +kernel, rfl, by decide +kernel, by decide +kernel⟩
abbrev s_Halves_add : Stmt := inClass (top 19) 10
abbrev sc_Halves_add_N : List Str := ["self", "other"]
theorem sc_Halves_add : FnScope sc_Halves_add_N ["self", "other"] (defScope s_Halves_add) := ⟨rfl, rfl, rfl, by decide +kernel, rfl, by decide +kernel, by decide +kernel⟩
abbrev s_Boxes_init : Stmt := inClass (top 20) 0
abbrev sc_Boxes_init_N : List Str := ["self", "places"]
theorem sc_Boxes_init : FnScope sc_Boxes_init_N ["self", "places"] (defScope s_Boxes_init) := ⟨rfl, rfl, rfl, by decide +kernel, rfl, by decide +kernel, by decide +kernel⟩
abbrev s_Boxes_invert : Stmt := inClass (top 20) 7
abbrev sc_Boxes_invert_N : List Str := ["self"]
theorem sc_Boxes_invert : FnScope sc_Boxes_invert_N ["self"] (defScope s_Boxes_invert) := ⟨rfl, rfl, rfl, by decide +kernel, rfl, by decide +kernel, by decide +kernel⟩
abbrev s_Boxes_and : Stmt := inClass (top 20) 8
abbrev sc_Boxes_and_N : List Str := ["self", "other"]
theorem sc_Boxes_and : FnScope sc_Boxes_and_N ["self", "other"] (defScope s_Boxes_and) := ⟨rfl, rfl, rfl, by decide +kernel, rfl, by decide +kernel, by decide +kernel⟩
abbrev s_Boxes_or : Stmt := inClass (top 20) 9
abbrev sc_Boxes_or_N : List Str := ["self", "other"]
theorem sc_Boxes_or : FnScope sc_Boxes_or_N ["self", "other"] (defScope s_Boxes_or) := ⟨rfl, rfl, rfl, by decide +kernel, rfl, by decide +kernel, by decide +kernel⟩
abbrev s_Boxes_add : Stmt := inClass (top 20) 10
abbrev sc_Boxes_add_N : List Str := ["self", "other"]
theorem sc_Boxes_add : FnScope sc_Boxes_add_N ["self", "other"] (defScope s_Boxes_add) := ⟨rfl, rfl, rfl, by decide +kernel, rfl, by decide +kernel, by decide +kernel⟩
abbrev s_Rising_init : Stmt := inClass (top 21) 0
abbrev sc_Rising_init_N : List Str := ["self", "places"]
theorem sc_Rising_init : FnScope sc_Rising_init_N ["self", "places"] (defScope s_Rising_init) := ⟨rfl, rfl, rfl, by decide +kernel, rfl, by decide +kernel, by decide +kernel⟩
abbrev s_Rising_invert : Stmt := inClass (top 21) 7
abbrev sc_Rising_invert_N : List Str := ["self"]
theorem sc_Rising_invert : FnScope sc_Rising_invert_N ["self"] (defScope s_Rising_invert) := ⟨rfl, rfl, rfl, by decide +kernel, rfl, by decide +kernel, by decide +kernel⟩
abbrev s_Rising_and : Stmt := inClass (top 21) 8
abbrev sc_Rising_and_N : List Str := ["self", "other"]
theorem sc_Rising_and : FnScope sc_Rising_and_N ["self", "other"] (defScope s_Rising_and) := ⟨rfl, rfl, rfl, by decide +kernel, rfl, by decide +kernel, by decide +kernel⟩
abbrev s_Rising_or : Stmt := inClass (top 21) 9
abbrev sc_Rising_or_N : List Str := ["self", "other"]
theorem sc_Rising_or : FnScope sc_Rising_or_N ["self", "other"] (defScope s_Rising_or) := ⟨rfl, rfl, rfl, by decide +kernel, rfl, by decide +kernel, by decide +kernel⟩
abbrev s_Rising_add : Stmt := inClass (top 21) 10
abbrev sc_Rising_add_N : List Str := ["self", "other"]
theorem sc_Rising_add : FnScope sc_Rising_add_N ["self", "other"] (defScope s_Rising_add) := ⟨rfl, rfl, rfl, by decide +kernel, rfl, by decide +kernel, by decide +kernel⟩
abbrev s_Flats_init : Stmt := inClass (top 22) 0
abbrev sc_Flats_init_N : List Str := ["self", "places"]
theorem sc_Flats_init : FnScope sc_Flats_init_N ["self", "places"] (defScope s_Flats_init) := ⟨rfl, rfl, rfl, by decide +kernel, rfl, by decide +kernel, by decide +kernel⟩
abbrev s_Flats_invert : Stmt := inClass (top 22) 7
abbrev sc_Flats_invert_N : List Str := ["self"]
theorem sc_Flats_invert : FnScope sc_Flats_invert_N ["self"] (defScope s_Flats_invert) := ⟨rfl, rfl, rfl, by decide +kernel, rfl, by decide +kernel, by decide +kernel⟩
abbrev s_Flats_and : Stmt := inClass (top 22) 8
abbrev sc_Flats_and_N : List Str := ["self", "other"]
theorem sc_Flats_and : FnScope sc_Flats_and_N ["self", "other"] (defScope s_Flats_and) := ⟨rfl, rfl, rfl, by decide +kernel, rfl, by decide +kernel, by decide +kernel⟩
abbrev s_Flats_or : Stmt := inClass (top 22) 9
abbrev sc_Flats_or_N : List Str := ["self", "other"]
theorem sc_Flats_or : FnScope sc_Flats_or_N ["self", "other"] (defScope s_Flats_or) := ⟨rfl, rfl, rfl, by decide +kernel, rfl, by decide +kernel, by decide +kernel⟩
abbrev s_Flats_add : Stmt := inClass (top 22) 10
abbrev sc_Flats_add_N : List Str := ["self", "other"]
theorem sc_Flats_add : FnScope sc_Flats_add_N ["self", "other"] (defScope s_Flats_add) := ⟨rfl, rfl, rfl, by decide +kernel, rfl, by decide +kernel, by decide +kernel⟩
abbrev s_Turns_init : Stmt := inClass (top 23) 0
abbrev sc_Turns_init_N : List Str := ["self", "most"]
theorem sc_Turns_init : FnScope sc_Turns_init_N ["self", "most"] (defScope s_Turns_init) := ⟨rfl, rfl, rfl, by decide +kernel, rfl, by decide +kernel, by decide +kernel⟩
abbrev s_Turns_invert : Stmt := inClass (top 23) 7
abbrev sc_Turns_invert_N : List Str := ["self"]
theorem sc_Turns_invert : FnScope sc_Turns_invert_N ["self"] (defScope s_Turns_invert) := ⟨rfl, rfl, rfl, by decide +kernel, rfl, by decide +kernel, by decide +kernel⟩
abbrev s_Turns_and : Stmt := inClass (top 23) 8
abbrev sc_Turns_and_N : List Str := ["self", "other"]
theorem sc_Turns_and : FnScope sc_Turns_and_N ["self", "other"] (defScope s_Turns_and) := ⟨rfl, rfl, rfl, by decide +kernel, rfl, by decide +kernel, by decide +kernel⟩
abbrev s_Turns_or : Stmt := inClass (top 23) 9
abbrev sc_Turns_or_N : List Str := ["self", "other"]
theorem sc_Turns_or : FnScope sc_Turns_or_N ["self", "other"] (defScope s_Turns_or) := ⟨rfl, rfl, rfl, by decide +kernel, rfl, by decide +kernel, by decide +kernel⟩
abbrev s_Turns_add : Stmt := inClass (top 23) 10
abbrev sc_Turns_add_N : List Str := ["self", "other"]
theorem sc_Turns_add : FnScope sc_Turns_add_N ["self", "other"] (defScope s_Turns_add) := ⟨rfl, rfl, rfl, by decide +kernel, rfl, by decide +kernel, by decide +kernel⟩
abbrev s_Contrary_init : Stmt := inClass (top 24) 0
abbrev sc_Contrary_init_N : List Str := ["self", "kind"]
theorem sc_Contrary_init : FnScope sc_Contrary_init_N ["self", "kind"] (defScope s_Contrary_init) := ⟨rfl, rfl, rfl, by decide +kernel, rfl, by decide +kernel, by decide +kernel⟩
abbrev s_Contrary_invert : Stmt := inClass (top 24) 4
abbrev sc_Contrary_invert_N : List Str := ["self"]
theorem sc_Contrary_invert : FnScope sc_Contrary_invert_N ["self"] (defScope s_Contrary_invert) := ⟨rfl, rfl, rfl, by decide +kernel, rfl, by decide +kernel, by decide +kernel⟩
abbrev s_Contrary_and : Stmt := inClass (top 24) 5
abbrev sc_Contrary_and_N : List Str := ["self", "other"]
theorem sc_Contrary_and : FnScope sc_Contrary_and_N ["self", "other"] (defScope s_Contrary_and) := ⟨rfl, rfl, rfl, by decide +kernel, rfl, by decide +kernel, by decide +kernel⟩
abbrev s_Contrary_or : Stmt := inClass (top 24) 6
abbrev sc_Contrary_or_N : List Str := ["self", "other"]
theorem sc_Contrary_or : FnScope sc_Contrary_or_N ["self", "other"] (defScope s_Contrary_or) := ⟨rfl, rfl, rfl, by decide +kernel, rfl, by decide +kernel, by decide +kernel⟩
abbrev s_Contrary_add : Stmt := inClass (top 24) 7
abbrev sc_Contrary_add_N : List Str := ["self", "other"]
theorem sc_Contrary_add : FnScope sc_Contrary_add_N ["self", "other"] (defScope s_Contrary_add) := ⟨rfl, rfl, rfl, by decide +kernel, rfl, by decide +kernel, by decide +kernel⟩
abbrev s_Pair_init : Stmt := inClass (top 25) 0
abbrev sc_Pair_init_N : List Str := ["self", "word", "one", "other"]
theorem sc_Pair_init : FnScope sc_Pair_init_N ["self", "word", "one", "other"] (defScope s_Pair_init) := ⟨rfl, rfl, rfl, by decide +kernel, rfl, by decide +kernel, by decide +kernel⟩
abbrev s_Pair_invert : Stmt := inClass (top 25) 4
abbrev sc_Pair_invert_N : List Str := ["self"]
theorem sc_Pair_invert : FnScope sc_Pair_invert_N ["self"] (defScope s_Pair_invert) := ⟨rfl, rfl, rfl, by decide +kernel, rfl, by decide +kernel, by decide +kernel⟩
abbrev s_Pair_and : Stmt := inClass (top 25) 5
abbrev sc_Pair_and_N : List Str := ["self", "other"]
theorem sc_Pair_and : FnScope sc_Pair_and_N ["self", "other"] (defScope s_Pair_and) := ⟨rfl, rfl, rfl, by decide +kernel, rfl, by decide +kernel, by decide +kernel⟩
abbrev s_Pair_or : Stmt := inClass (top 25) 6
abbrev sc_Pair_or_N : List Str := ["self", "other"]
theorem sc_Pair_or : FnScope sc_Pair_or_N ["self", "other"] (defScope s_Pair_or) := ⟨rfl, rfl, rfl, by decide +kernel, rfl, by decide +kernel, by decide +kernel⟩
abbrev s_Pair_add : Stmt := inClass (top 25) 7
abbrev sc_Pair_add_N : List Str := ["self", "other"]
theorem sc_Pair_add : FnScope sc_Pair_add_N ["self", "other"] (defScope s_Pair_add) := ⟨rfl, rfl, rfl, by decide +kernel, rfl, by decide +kernel, by decide +kernel⟩
inductive KI where
  | ha | bo | ri | fl | tu | co | pa
abbrev KC := KI → Addr
def placesK : Kd → Int
  | .halves p => p
  | .boxes p => p
  | .rising p => p
  | .flats p => p
  | .turns _ => 1
  | .no k => placesK k
  | .both k _ => placesK k
  | .either k _ => placesK k
  | .any k _ => placesK k
def kiOf : Kd → KI
  | .halves _ => .ha
  | .boxes _ => .bo
  | .rising _ => .ri
  | .flats _ => .fl
  | .turns _ => .tu
  | .no _ => .co
  | .both _ _ => .pa
  | .either _ _ => .pa
  | .any _ _ => .pa
/-- at x an instance that stands for the kind -/
def Kin (c : KC) (H : Hp) : Kd → Addr → Prop
  | .halves p, x => ∃ dx, H x = some (.ins (c .ha) dx [("places", .int p)])
  | .boxes p, x => ∃ dx, H x = some (.ins (c .bo) dx [("places", .int p)])
  | .rising p, x => ∃ dx, H x = some (.ins (c .ri) dx [("places", .int p)])
  | .flats p, x => ∃ dx, H x = some (.ins (c .fl) dx [("places", .int p)])
  | .turns m, x => ∃ dx, H x = some (.ins (c .tu) dx [("places", .int 1), ("most", .int m)])
  | .no k, x => ∃ dx y, H x = some (.ins (c .co) dx [("places", .int (placesK k)), ("kind", .ref y)]) ∧ Kin c H k y
  | .both k m, x => ∃ dx y z, H x = some (.ins (c .pa) dx [("places", .int (placesK k)), ("word", .str "both"), ("one", .ref y), ("other", .ref z)]) ∧ Kin c H k y ∧ Kin c H m z
  | .either k m, x => ∃ dx y z, H x = some (.ins (c .pa) dx [("places", .int (placesK k)), ("word", .str "either"), ("one", .ref y), ("other", .ref z)]) ∧ Kin c H k y ∧ Kin c H m z
  | .any k m, x => ∃ dx y z, H x = some (.ins (c .pa) dx [("places", .int (placesK k)), ("word", .str "any"), ("one", .ref y), ("other", .ref z)]) ∧ Kin c H k y ∧ Kin c H m z
theorem Kin.up {c : KC} {H H' : Hp} (e : Ex H H') : ∀ {k : Kd} {x : Addr}, Kin c H k x → Kin c H' k x
  | .halves _, _, ⟨dx, h⟩ => ⟨dx, e _ _ h⟩
  | .boxes _, _, ⟨dx, h⟩ => ⟨dx, e _ _ h⟩
  | .rising _, _, ⟨dx, h⟩ => ⟨dx, e _ _ h⟩
  | .flats _, _, ⟨dx, h⟩ => ⟨dx, e _ _ h⟩
  | .turns _, _, ⟨dx, h⟩ => ⟨dx, e _ _ h⟩
  | .no _, _, ⟨dx, y, h, q⟩ => ⟨dx, y, e _ _ h, Kin.up e q⟩
  | .both _ _, _, ⟨dx, y, z, h, q, r⟩ => ⟨dx, y, z, e _ _ h, Kin.up e q, Kin.up e r⟩
  | .either _ _, _, ⟨dx, y, z, h, q, r⟩ => ⟨dx, y, z, e _ _ h, Kin.up e q, Kin.up e r⟩
  | .any _ _, _, ⟨dx, y, z, h, q, r⟩ => ⟨dx, y, z, e _ _ h, Kin.up e q, Kin.up e r⟩
theorem Kin.ins {c : KC} {H : Hp} : ∀ {k : Kd} {x : Addr}, Kin c H k x → ∃ dx fs, H x = some (.ins (c (kiOf k)) dx fs) ∧ fs.lookup ("places" : Str) = some (V.int (placesK k))
  | .halves _, _, ⟨dx, h⟩ => ⟨dx, _, h, rfl⟩
  | .boxes _, _, ⟨dx, h⟩ => ⟨dx, _, h, rfl⟩
  | .rising _, _, ⟨dx, h⟩ => ⟨dx, _, h, rfl⟩
  | .flats _, _, ⟨dx, h⟩ => ⟨dx, _, h, rfl⟩
  | .turns _, _, ⟨dx, h⟩ => ⟨dx, _, h, rfl⟩
  | .no _, _, ⟨dx, y, h, q⟩ => ⟨dx, _, h, rfl⟩
  | .both _ _, _, ⟨dx, y, z, h, q, r⟩ => ⟨dx, _, h, rfl⟩
  | .either _ _, _, ⟨dx, y, z, h, q, r⟩ => ⟨dx, _, h, rfl⟩
  | .any _ _, _, ⟨dx, y, z, h, q, r⟩ => ⟨dx, _, h, rfl⟩
structure KCl (K : PySem.W.Frag) (c : KC) : Prop where
  cl : ∀ i, Cls K (c i)
  na : ∀ i f, f ∈ (["places", "most", "kind", "word", "one", "other"] : List Str) → NoAttr K (c i) f
structure TxK (mg : Str → Option Value) : Prop extends TxF mg where
  c_GREATEST_MOST : ∃ t, mg "GREATEST_MOST" = some (.int 6 t)
/-- all but x stays -/
def Off (x : Addr) (H H' : Hp) : Prop := ∀ a o, a ≠ x → H a = some o → H' a = some o
def spCheckP : Sp := fun vs H Q _ => ∃ p : Int, vs = [.int p] ∧ 1 ≤ p ∧ p ≤ 3 ∧ ∀ H', Ex H H' → Q .non H'
def spI1 (C : Addr) : Sp := fun vs H Q _ => ∃ x dx p, vs = [.ref x, .int p] ∧ H x = some (.ins C dx []) ∧ 1 ≤ p ∧ p ≤ 3 ∧ ∀ H', Off x H H' → H' x = some (.ins C dx [("places", .int p)]) → Q .non H'
def spIT (C : Addr) : Sp := fun vs H Q _ => ∃ x dx m, vs = [.ref x, .int m] ∧ H x = some (.ins C dx []) ∧ 0 ≤ m ∧ m ≤ 6 ∧ ∀ H', Off x H H' → H' x = some (.ins C dx [("places", .int 1), ("most", .int m)]) → Q .non H'
def spIC (c : KC) : Sp := fun vs H Q _ => ∃ x dx y i dy fs p, vs = [.ref x, .ref y] ∧ H x = some (.ins (c .co) dx []) ∧ H y = some (.ins (c i) dy fs) ∧ fs.lookup ("places" : Str) = some (V.int p) ∧ ∀ H', Off x H H' → H' x = some (.ins (c .co) dx [("places", .int p), ("kind", .ref y)]) → Q .non H'
def spIP (c : KC) : Sp := fun vs H Q _ => ∃ x dx z y1 i1 d1 f1 y2 i2 d2 f2 p, vs = [.ref x, .str z, .ref y1, .ref y2] ∧ H x = some (.ins (c .pa) dx []) ∧ y1 ≠ x ∧ H y1 = some (.ins (c i1) d1 f1) ∧ f1.lookup ("places" : Str) = some (V.int p) ∧ H y2 = some (.ins (c i2) d2 f2) ∧ f2.lookup ("places" : Str) = some (V.int p) ∧
  ∀ H', Off x H H' → H' x = some (.ins (c .pa) dx [("places", .int p), ("word", .str z), ("one", .ref y1), ("other", .ref y2)]) → Q .non H'
def spInv (K : PySem.W.Frag) (c : KC) : Sp := fun vs H Q _ => ∃ x k L, vs = [.ref x] ∧ Hid L H ∧ Kin c (W L H) k x ∧ ∀ y H', H y = none → Ex H H' → Kin c (W L H') (.no k) y → Q (.ref y) H'
def spPr (c : KC) (f : Kd → Kd → Kd) : Sp := fun vs H Q _ => ∃ x y k m L, vs = [.ref x, .ref y] ∧ Hid L H ∧ Kin c (W L H) k x ∧ Kin c (W L H) m y ∧ placesK k = placesK m ∧ ∀ z H', H z = none → Ex H H' → Kin c (W L H') (f k m) z → Q (.ref z) H'
section
variable {P : Program} {w : World} {K : PySem.W.Frag} {mg : Str → Option Value} {base : Heap} {c : KC}
theorem off_upd {x : Addr} {H : Hp} {o : HO} : Off x H (upd H x o) := fun a u n h => by
  rw [upd_ne n]
  exact h
theorem Off.of {x : Addr} {H H' : Hp} (e : Ex H H') : Off x H H' := fun a o _ h => e a o h
theorem Off.trans {x : Addr} {H H1 H2 : Hp} (a : Off x H H1) (b : Off x H1 H2) : Off x H H2 := fun d o n h => b d o n (a d o n h)
theorem ok_checkP {f : Addr} {fd : FuncData} (F : Fun K "_check_number_of_places" "_check_number_of_places" s_check_number_of_places f fd) (T : TxK mg) (D_is_number_of_places : DefAt P w K mg base "is_number_of_places" 2 ["thing"] (spB K isN)) : FnOk P w K mg base CX0 3 f fd ["places"] spCheckP := by
  refine F.ok sc_check_number_of_places (fun vs H Q E h => ?_) (fun cdv A outer s H vs Q E hr h => ?_)
  · obtain ⟨_, rfl, _⟩ := h
    rfl
  · obtain ⟨p, rfl, p1, p3, k⟩ := h
    refine ⟨_, (pss_one (ps_if (pt_not (pt_val (pe_callD D_is_number_of_places (by first | exact hr | exact hr.mono (by decide) | exact hr.mono (by omega)) (by rfl) (pa_cons (pv 0) pa_nil)))) (pss_one ps_never) pss_nil)), ?_⟩
    have hN : isN (.int p) = true := by
      show (decide (1 ≤ p) && decide (p ≤ 3)) = true
      simp [p1, p3]
    exact Evl.s_when (D := { nx := fun _ H' => Q .non H', rt := Q }) (b := false) (Evl.et_is (Evl.et_not (Evl.et_B (ev_spB (K := K) (d := .int p) (Evl.ev_var (v := .int p) rfl) (.int p)))) (by rw [hN]; rfl)) (fun z => nomatch z) (fun _ H1 e1 => k H1 e1)
theorem ok_Halves_init {f : Addr} {fd : FuncData} (F : Fun K "__init__" "Halves.__init__" s_Halves_init f fd) (T : TxK mg) (S : KCl K c) (D_check_number_of_places : DefAt P w K mg base "_check_number_of_places" 3 ["places"] spCheckP) : FnOk P w K mg base CX0 4 f fd ["self", "places"] (spI1 (c .ha)) := by
  refine F.ok sc_Halves_init (fun vs H Q E h => ?_) (fun cdv A outer s H vs Q E hr h => ?_)
  · obtain ⟨_, _, _, rfl, _⟩ := h
    rfl
  · obtain ⟨x, dx, p, rfl, hx, p1, p3, k⟩ := h
    refine ⟨_, (pss_cons (ps_expr (pe_callD D_check_number_of_places (by first | exact hr | exact hr.mono (by decide) | exact hr.mono (by omega)) (by rfl) (pa_cons (pv 1) pa_nil)))
    (pss_one (ps_fld (pv 0) (pv 1) rfl))), ?_⟩
    refine ⟨_, rfl, p, rfl, p1, p3, fun H1 e1 => ?_⟩
    refine ⟨_, rfl, _, rfl, x, c .ha, dx, [], rfl, e1 x _ hx, S.cl _, S.na _ _ (by decide), by decide, ?_⟩
    exact k _ ((Off.of e1).trans off_upd) upd_same
theorem ok_Boxes_init {f : Addr} {fd : FuncData} (F : Fun K "__init__" "Boxes.__init__" s_Boxes_init f fd) (T : TxK mg) (S : KCl K c) (D_check_number_of_places : DefAt P w K mg base "_check_number_of_places" 3 ["places"] spCheckP) : FnOk P w K mg base CX0 4 f fd ["self", "places"] (spI1 (c .bo)) := by
  refine F.ok sc_Boxes_init (fun vs H Q E h => ?_) (fun cdv A outer s H vs Q E hr h => ?_)
  · obtain ⟨_, _, _, rfl, _⟩ := h
    rfl
  · obtain ⟨x, dx, p, rfl, hx, p1, p3, k⟩ := h
    refine ⟨_, (pss_cons (ps_expr (pe_callD D_check_number_of_places (by first | exact hr | exact hr.mono (by decide) | exact hr.mono (by omega)) (by rfl) (pa_cons (pv 1) pa_nil)))
    (pss_one (ps_fld (pv 0) (pv 1) rfl))), ?_⟩
    refine ⟨_, rfl, p, rfl, p1, p3, fun H1 e1 => ?_⟩
    refine ⟨_, rfl, _, rfl, x, c .bo, dx, [], rfl, e1 x _ hx, S.cl _, S.na _ _ (by decide), by decide, ?_⟩
    exact k _ ((Off.of e1).trans off_upd) upd_same
theorem ok_Rising_init {f : Addr} {fd : FuncData} (F : Fun K "__init__" "Rising.__init__" s_Rising_init f fd) (T : TxK mg) (S : KCl K c) (D_check_number_of_places : DefAt P w K mg base "_check_number_of_places" 3 ["places"] spCheckP) : FnOk P w K mg base CX0 4 f fd ["self", "places"] (spI1 (c .ri)) := by
  refine F.ok sc_Rising_init (fun vs H Q E h => ?_) (fun cdv A outer s H vs Q E hr h => ?_)
  · obtain ⟨_, _, _, rfl, _⟩ := h
    rfl
  · obtain ⟨x, dx, p, rfl, hx, p1, p3, k⟩ := h
    refine ⟨_, (pss_cons (ps_expr (pe_callD D_check_number_of_places (by first | exact hr | exact hr.mono (by decide) | exact hr.mono (by omega)) (by rfl) (pa_cons (pv 1) pa_nil)))
    (pss_one (ps_fld (pv 0) (pv 1) rfl))), ?_⟩
    refine ⟨_, rfl, p, rfl, p1, p3, fun H1 e1 => ?_⟩
    refine ⟨_, rfl, _, rfl, x, c .ri, dx, [], rfl, e1 x _ hx, S.cl _, S.na _ _ (by decide), by decide, ?_⟩
    exact k _ ((Off.of e1).trans off_upd) upd_same
theorem ok_Flats_init {f : Addr} {fd : FuncData} (F : Fun K "__init__" "Flats.__init__" s_Flats_init f fd) (T : TxK mg) (S : KCl K c) (D_check_number_of_places : DefAt P w K mg base "_check_number_of_places" 3 ["places"] spCheckP) : FnOk P w K mg base CX0 4 f fd ["self", "places"] (spI1 (c .fl)) := by
  refine F.ok sc_Flats_init (fun vs H Q E h => ?_) (fun cdv A outer s H vs Q E hr h => ?_)
  · obtain ⟨_, _, _, rfl, _⟩ := h
    rfl
  · obtain ⟨x, dx, p, rfl, hx, p1, p3, k⟩ := h
    refine ⟨_, (pss_cons (ps_expr (pe_callD D_check_number_of_places (by first | exact hr | exact hr.mono (by decide) | exact hr.mono (by omega)) (by rfl) (pa_cons (pv 1) pa_nil)))
    (pss_one (ps_fld (pv 0) (pv 1) rfl))), ?_⟩
    refine ⟨_, rfl, p, rfl, p1, p3, fun H1 e1 => ?_⟩
    refine ⟨_, rfl, _, rfl, x, c .fl, dx, [], rfl, e1 x _ hx, S.cl _, S.na _ _ (by decide), by decide, ?_⟩
    exact k _ ((Off.of e1).trans off_upd) upd_same
theorem ok_Turns_init {f : Addr} {fd : FuncData} (F : Fun K "__init__" "Turns.__init__" s_Turns_init f fd) (T : TxK mg) (S : KCl K c) (D_is_integer : DefAt P w K mg base "is_integer" 1 ["thing"] (spB K isI)) : FnOk P w K mg base CX0 2 f fd ["self", "most"] (spIT (c .tu)) := by
  refine F.ok sc_Turns_init (fun vs H Q E h => ?_) (fun cdv A outer s H vs Q E hr h => ?_)
  · obtain ⟨_, _, _, rfl, _⟩ := h
    rfl
  · obtain ⟨x, dx, m, rfl, hx, m0, m6, k⟩ := h
    refine ⟨_, (pss_cons (ps_if (PW.pt (pw_or (pt_not (pt_val (pe_callD D_is_integer (by first | exact hr | exact hr.mono (by decide) | exact hr.mono (by omega)) (by rfl) (pa_cons (pv 1) pa_nil)))) (pw_or1 (pt_not (pt_chain op_le op_le pe_int (pv 1) (pe_glob (v := .int 6) (by rfl) T.c_GREATEST_MOST.choose_spec (by exact ⟨_, rfl⟩))))))) (pss_one ps_never) pss_nil)
    (pss_cons (ps_fld (pv 0) pe_int rfl)
    (pss_one (ps_fld (pv 0) (pv 1) rfl)))), ?_⟩
    have v1 : Evl.Ev (tVar 1) (start sc_Turns_init_N [.ref x, .int m]) H (.int m) := Evl.ev_var rfl
    refine Evl.q_when (b := false) (Evl.et_is (Evl.et_or (a := false) (b := false) (Evl.et_is (Evl.et_not (Evl.et_B (ev_spB (K := K) (d := .int m) v1 (.int m)))) rfl) fun _ => Evl.et_is (Evl.et_not (Evl.et_is (b := true) (Evl.et_test (ev_chain (k := decide (0 ≤ m)) (l := decide (m ≤ 6)) Evl.ev_c v1 (Evl.rv_I0 (g := fun a b => .bl (decide (a ≤ b)))) (fun _ => Evl.ev_c) (fun _ => Evl.rv_I0 (g := fun a b => .bl (decide (a ≤ b)))) (fun z => absurd m0 (of_decide_eq_false z)))) (decide_eq_true m6))) rfl) rfl) (fun z => nomatch z) (fun _ H1 e1 => ?_)
    refine ⟨_, rfl, x, c .tu, dx, [], rfl, e1 x _ hx, S.cl _, S.na _ _ (by decide), by decide, ?_⟩
    refine ⟨_, rfl, _, rfl, x, c .tu, dx, _, rfl, upd_same, S.cl _, S.na _ _ (by decide), by show 1 < 1000; omega, ?_⟩
    exact k _ (((Off.of e1).trans off_upd).trans off_upd) upd_same
theorem ok_Contrary_init {f : Addr} {fd : FuncData} (F : Fun K "__init__" "Contrary.__init__" s_Contrary_init f fd) (S : KCl K c) : FnOk P w K mg base CX0 1 f fd ["self", "kind"] (spIC c) := by
  refine F.ok sc_Contrary_init (fun vs H Q E h => ?_) (fun cdv A outer s H vs Q E hr h => ?_)
  · obtain ⟨_, _, _, _, _, _, _, rfl, _⟩ := h
    rfl
  · obtain ⟨x, dx, y, i, dy, fs, p, rfl, hx, hy, hp, k⟩ := h
    refine ⟨_, (pss_cons (ps_fld (pv 0) (pe_fld (pv 1) rfl) rfl)
    (pss_one (ps_fld (pv 0) (pv 1) rfl))), ?_⟩
    refine ⟨_, rfl, y, c i, dy, fs, .int p, rfl, hy, S.cl _, S.na _ _ (by decide), hp, _, rfl, x, c .co, dx, [], rfl, hx, S.cl _, S.na _ _ (by decide), by decide, ?_⟩
    refine ⟨_, rfl, _, rfl, x, c .co, dx, _, rfl, upd_same, S.cl _, S.na _ _ (by decide), by show 1 < 1000; omega, ?_⟩
    exact k _ (off_upd.trans off_upd) upd_same
theorem ok_Pair_init {f : Addr} {fd : FuncData} (F : Fun K "__init__" "Pair.__init__" s_Pair_init f fd) (S : KCl K c) : FnOk P w K mg base CX0 1 f fd ["self", "word", "one", "other"] (spIP c) := by
  refine F.ok sc_Pair_init (fun vs H Q E h => ?_) (fun cdv A outer s H vs Q E hr h => ?_)
  · obtain ⟨_, _, _, _, _, _, _, _, _, _, _, _, rfl, _⟩ := h
    rfl
  · obtain ⟨x, dx, z, y1, i1, d1, f1, y2, i2, d2, f2, p, rfl, hx, ne, h1, hp1, h2, hp2, k⟩ := h
    refine ⟨_, (pss_cons (ps_if (pt_cmpR op_ne (pe_fld (pv 2) rfl) (pe_fld (pv 3) rfl) (nomark _)) (pss_one ps_never) pss_nil)
    (pss_cons (ps_fld (pv 0) (pe_fld (pv 2) rfl) rfl)
    (pss_cons (ps_fld (pv 0) (pv 1) rfl)
    (pss_cons (ps_fld (pv 0) (pv 2) rfl)
    (pss_one (ps_fld (pv 0) (pv 3) rfl)))))), ?_⟩
    have a1 : Evl.Ev (tFld K (tVar 2) "places") (start sc_Pair_init_N [.ref x, .str z, .ref y1, .ref y2]) H (.int p) := ev_fld (Evl.ev_var (v := .ref y1) rfl) h1 (S.cl _) (S.na _ _ (by decide)) hp1
    have a2 : Evl.Ev (tFld K (tVar 3) "places") (start sc_Pair_init_N [.ref x, .str z, .ref y1, .ref y2]) H (.int p) := ev_fld (Evl.ev_var (v := .ref y2) rfl) h2 (S.cl _) (S.na _ _ (by decide)) hp2
    refine Evl.q_when (b := false) (Evl.et_is (Evl.et_test (Evl.ev_op a1 a2 (Evl.rv_ne rfl))) (by simp)) (fun z => nomatch z) (fun _ H1 e1 => ?_)
    refine ⟨_, rfl, y1, c i1, d1, f1, .int p, rfl, e1 _ _ h1, S.cl _, S.na _ _ (by decide), hp1, _, rfl, x, c .pa, dx, [], rfl, e1 _ _ hx, S.cl _, S.na _ _ (by decide), by decide, ?_⟩
    refine ⟨_, rfl, _, rfl, x, c .pa, dx, _, rfl, upd_same, S.cl _, S.na _ _ (by decide), by show 1 < 1000; omega, ?_⟩
    refine ⟨_, rfl, _, rfl, x, c .pa, dx, _, rfl, upd_same, S.cl _, S.na _ _ (by decide), by show 2 < 1000; omega, ?_⟩
    refine ⟨_, rfl, _, rfl, x, c .pa, dx, _, rfl, upd_same, S.cl _, S.na _ _ (by decide), by show 3 < 1000; omega, ?_⟩
    exact k _ (((((Off.of e1).trans off_upd).trans off_upd).trans off_upd).trans off_upd) upd_same
/-- evaluates to a new instance for the kind -/
def EvK (c : KC) (L : List Addr) (te : TE) (σ : L2.St) (H : Hp) (k : Kd) : Prop := ∀ H1, Ex H H1 → ∀ Q : VK, (∀ x H2, H1 x = none → Ex H1 H2 → Kin c (W L H2) k x → Q (.ref x) H2) → te σ H1 Q
section
variable {σ : L2.St} {H : Hp} {L : List Addr} {te ta tb : TE} {C : Addr} {p m : Int} {k k2 : Kd} {x y : Addr}
theorem new_ex {H3 H' : Hp} {x dx : Addr} {o : HO} (hx : H3 x = none) (hdx : H3 dx = none) (ne : dx ≠ x) (b : Off x (upd (upd H3 dx (.own x)) x o) H') : Ex H3 H' := fun a u h => by
  have n1 : a ≠ x := ne_of_none h hx
  have n2 : a ≠ dx := ne_of_none h hdx
  exact b a u n1 (by rw [upd_ne n1, upd_ne n2]; exact h)
theorem mk_1 {i : KI} (h : Evl.Ev te σ H (.int p)) (hL : Hid L H) (p1 : 1 ≤ p) (p3 : p ≤ 3) (hk : ∀ H' x dx, H' x = some (.ins (c i) dx [("places", .int p)]) → Kin c H' k x) : EvK c L (tMake (c i) (spI1 (c i)) [] E0 (tCons te tNil)) σ H k := fun H1 e Q q =>
  h H1 e _ fun H2 e2 x dx hx hdx ne => ⟨x, dx, p, rfl, upd_same, p1, p3, fun H' b hf => ⟨rfl, q x H' (Evl.fresh_back e2 hx) (e2.trans (new_ex hx hdx ne b)) (hk _ x dx (w_of (hid_not (hid_ex (e.trans e2) hL) hx) hf))⟩⟩
theorem mk_T (h : Evl.Ev te σ H (.int m)) (hL : Hid L H) (m0 : 0 ≤ m) (m6 : m ≤ 6) : EvK c L (tMake (c .tu) (spIT (c .tu)) [] E0 (tCons te tNil)) σ H (.turns m) := fun H1 e Q q =>
  h H1 e _ fun H2 e2 x dx hx hdx ne => ⟨x, dx, m, rfl, upd_same, m0, m6, fun H' b hf => ⟨rfl, q x H' (Evl.fresh_back e2 hx) (e2.trans (new_ex hx hdx ne b)) ⟨dx, w_of (hid_not (hid_ex (e.trans e2) hL) hx) hf⟩⟩⟩
theorem mk_C (h : Evl.Ev te σ H (.ref y)) (hL : Hid L H) (hk : Kin c (W L H) k y) : EvK c L (tMake (c .co) (spIC c) [] E0 (tCons te tNil)) σ H (.no k) := fun H1 e Q q =>
  h H1 e _ fun H2 e2 x dx hx hdx ne => by
    have hk2 := hk.up (w_ex (e.trans e2))
    obtain ⟨dy, fs, hy, hp⟩ := hk2.ins
    have hy2 := (w_in hy).1
    have eN : Ex H2 (upd (upd H2 dx (.own x)) x (.ins (c .co) dx [])) := new_ex hx hdx ne (fun _ _ _ h => h)
    refine ⟨x, dx, y, kiOf k, dy, fs, placesK k, rfl, upd_same, eN _ _ hy2, hp, fun H' b hf => ⟨rfl, q x H' (Evl.fresh_back e2 hx) (e2.trans (new_ex hx hdx ne b)) ⟨dx, y, w_of (hid_not (hid_ex (e.trans e2) hL) hx) hf, hk2.up (w_ex (new_ex hx hdx ne b))⟩⟩⟩
theorem mk_P {z : Str} {f : Kd} (hz : Evl.Ev te σ H (.str z)) (h1 : Evl.Ev ta σ H (.ref x)) (h2 : Evl.Ev tb σ H (.ref y)) (hL : Hid L H) (hk : Kin c (W L H) k x) (hk2 : Kin c (W L H) k2 y) (hp : placesK k = placesK k2)
    (hf : ∀ H' u dx, H' u = some (.ins (c .pa) dx [("places", .int (placesK k)), ("word", .str z), ("one", .ref x), ("other", .ref y)]) → Kin c H' k x → Kin c H' k2 y → Kin c H' f u) : EvK c L (tMake (c .pa) (spIP c) [] E0 (tCons te (tCons ta (tCons tb tNil)))) σ H f := fun H1 e Q q =>
  hz H1 e _ fun H2 e2 => h1 H2 (e.trans e2) _ fun H3 e3 => h2 H3 ((e.trans e2).trans e3) _ fun H4 e4 u dx hu hdx ne => by
    have eA := ((e.trans e2).trans e3).trans e4
    have a1 := hk.up (w_ex eA)
    have a2 := hk2.up (w_ex eA)
    obtain ⟨d1, f1, y1, q1⟩ := a1.ins
    obtain ⟨d2, f2, y2, q2⟩ := a2.ins
    have z1 := (w_in y1).1
    have z2 := (w_in y2).1
    have eN : Ex H4 (upd (upd H4 dx (.own u)) u (.ins (c .pa) dx [])) := new_ex hu hdx ne (fun _ _ _ h => h)
    rw [← hp] at q2
    refine ⟨u, dx, z, x, kiOf k, d1, f1, y, kiOf k2, d2, f2, placesK k, rfl, upd_same, ne_of_none z1 hu, eN _ _ z1, q1, eN _ _ z2, q2, fun H' b hx => ⟨rfl, q u H' (Evl.fresh_back ((e2.trans e3).trans e4) hu) (((e2.trans e3).trans e4).trans (new_ex hu hdx ne b)) ?_⟩⟩
    exact hf _ u dx (w_of (hid_not (hid_ex eA hL) hu) hx) (a1.up (w_ex (new_ex hu hdx ne b))) (a2.up (w_ex (new_ex hu hdx ne b)))
end
theorem ok_Halves_invert {f : Addr} {fd : FuncData} (F : Fun K "__invert__" "Halves.__invert__" s_Halves_invert f fd) (N_Contrary : Mak P w K mg base 1 "Contrary" (c .co) (spIC c) []) : FnOk P w K mg base CX0 3 f fd ["self"] (spInv K c) := by
  refine F.ok sc_Halves_invert (fun vs H Q E h => ?_) (fun cdv A outer s H vs Q E hr h => ?_)
  · obtain ⟨_, _, _, rfl, _⟩ := h
    rfl
  · obtain ⟨x, k, L, rfl, hL, hk, kk⟩ := h
    refine ⟨_, (pss_one (ps_ret (pe_mk N_Contrary hr (by decide) (by rfl) (pa_cons (pv 0) pa_nil)))), ?_⟩
    exact mk_C (Evl.ev_var (v := .ref x) rfl) hL hk H (Ex.refl H) _ kk
theorem ok_Halves_and {f : Addr} {fd : FuncData} (F : Fun K "__and__" "Halves.__and__" s_Halves_and f fd) (N_Pair : Mak P w K mg base 1 "Pair" (c .pa) (spIP c) []) : FnOk P w K mg base CX0 3 f fd ["self", "other"] (spPr c .both) := by
  refine F.ok sc_Halves_and (fun vs H Q E h => ?_) (fun cdv A outer s H vs Q E hr h => ?_)
  · obtain ⟨_, _, _, _, _, rfl, _⟩ := h
    rfl
  · obtain ⟨x, y, k, m, L, rfl, hL, hk, hm, hp, kk⟩ := h
    refine ⟨_, (pss_one (ps_ret (pe_mk N_Pair hr (by decide) (by rfl) (pa_cons pe_str (pa_cons (pv 0) (pa_cons (pv 1) pa_nil)))))), ?_⟩
    exact mk_P (z := "both") (f := .both k m) Evl.ev_c (Evl.ev_var (v := .ref x) rfl) (Evl.ev_var (v := .ref y) rfl) hL hk hm hp (fun H' u dx h a b => ⟨dx, x, y, h, a, b⟩) H (Ex.refl H) _ kk
theorem ok_Halves_or {f : Addr} {fd : FuncData} (F : Fun K "__or__" "Halves.__or__" s_Halves_or f fd) (N_Pair : Mak P w K mg base 1 "Pair" (c .pa) (spIP c) []) : FnOk P w K mg base CX0 3 f fd ["self", "other"] (spPr c .either) := by
  refine F.ok sc_Halves_or (fun vs H Q E h => ?_) (fun cdv A outer s H vs Q E hr h => ?_)
  · obtain ⟨_, _, _, _, _, rfl, _⟩ := h
    rfl
  · obtain ⟨x, y, k, m, L, rfl, hL, hk, hm, hp, kk⟩ := h
    refine ⟨_, (pss_one (ps_ret (pe_mk N_Pair hr (by decide) (by rfl) (pa_cons pe_str (pa_cons (pv 0) (pa_cons (pv 1) pa_nil)))))), ?_⟩
    exact mk_P (z := "either") (f := .either k m) Evl.ev_c (Evl.ev_var (v := .ref x) rfl) (Evl.ev_var (v := .ref y) rfl) hL hk hm hp (fun H' u dx h a b => ⟨dx, x, y, h, a, b⟩) H (Ex.refl H) _ kk
theorem ok_Halves_add {f : Addr} {fd : FuncData} (F : Fun K "__add__" "Halves.__add__" s_Halves_add f fd) (N_Pair : Mak P w K mg base 1 "Pair" (c .pa) (spIP c) []) : FnOk P w K mg base CX0 3 f fd ["self", "other"] (spPr c .any) := by
  refine F.ok sc_Halves_add (fun vs H Q E h => ?_) (fun cdv A outer s H vs Q E hr h => ?_)
  · obtain ⟨_, _, _, _, _, rfl, _⟩ := h
    rfl
  · obtain ⟨x, y, k, m, L, rfl, hL, hk, hm, hp, kk⟩ := h
    refine ⟨_, (pss_one (ps_ret (pe_mk N_Pair hr (by decide) (by rfl) (pa_cons pe_str (pa_cons (pv 0) (pa_cons (pv 1) pa_nil)))))), ?_⟩
    exact mk_P (z := "any") (f := .any k m) Evl.ev_c (Evl.ev_var (v := .ref x) rfl) (Evl.ev_var (v := .ref y) rfl) hL hk hm hp (fun H' u dx h a b => ⟨dx, x, y, h, a, b⟩) H (Ex.refl H) _ kk
theorem ok_Boxes_invert {f : Addr} {fd : FuncData} (F : Fun K "__invert__" "Boxes.__invert__" s_Boxes_invert f fd) (N_Contrary : Mak P w K mg base 1 "Contrary" (c .co) (spIC c) []) : FnOk P w K mg base CX0 3 f fd ["self"] (spInv K c) := by
  refine F.ok sc_Boxes_invert (fun vs H Q E h => ?_) (fun cdv A outer s H vs Q E hr h => ?_)
  · obtain ⟨_, _, _, rfl, _⟩ := h
    rfl
  · obtain ⟨x, k, L, rfl, hL, hk, kk⟩ := h
    refine ⟨_, (pss_one (ps_ret (pe_mk N_Contrary hr (by decide) (by rfl) (pa_cons (pv 0) pa_nil)))), ?_⟩
    exact mk_C (Evl.ev_var (v := .ref x) rfl) hL hk H (Ex.refl H) _ kk
theorem ok_Boxes_and {f : Addr} {fd : FuncData} (F : Fun K "__and__" "Boxes.__and__" s_Boxes_and f fd) (N_Pair : Mak P w K mg base 1 "Pair" (c .pa) (spIP c) []) : FnOk P w K mg base CX0 3 f fd ["self", "other"] (spPr c .both) := by
  refine F.ok sc_Boxes_and (fun vs H Q E h => ?_) (fun cdv A outer s H vs Q E hr h => ?_)
  · obtain ⟨_, _, _, _, _, rfl, _⟩ := h
    rfl
  · obtain ⟨x, y, k, m, L, rfl, hL, hk, hm, hp, kk⟩ := h
    refine ⟨_, (pss_one (ps_ret (pe_mk N_Pair hr (by decide) (by rfl) (pa_cons pe_str (pa_cons (pv 0) (pa_cons (pv 1) pa_nil)))))), ?_⟩
    exact mk_P (z := "both") (f := .both k m) Evl.ev_c (Evl.ev_var (v := .ref x) rfl) (Evl.ev_var (v := .ref y) rfl) hL hk hm hp (fun H' u dx h a b => ⟨dx, x, y, h, a, b⟩) H (Ex.refl H) _ kk
theorem ok_Boxes_or {f : Addr} {fd : FuncData} (F : Fun K "__or__" "Boxes.__or__" s_Boxes_or f fd) (N_Pair : Mak P w K mg base 1 "Pair" (c .pa) (spIP c) []) : FnOk P w K mg base CX0 3 f fd ["self", "other"] (spPr c .either) := by
  refine F.ok sc_Boxes_or (fun vs H Q E h => ?_) (fun cdv A outer s H vs Q E hr h => ?_)
  · obtain ⟨_, _, _, _, _, rfl, _⟩ := h
    rfl
  · obtain ⟨x, y, k, m, L, rfl, hL, hk, hm, hp, kk⟩ := h
    refine ⟨_, (pss_one (ps_ret (pe_mk N_Pair hr (by decide) (by rfl) (pa_cons pe_str (pa_cons (pv 0) (pa_cons (pv 1) pa_nil)))))), ?_⟩
    exact mk_P (z := "either") (f := .either k m) Evl.ev_c (Evl.ev_var (v := .ref x) rfl) (Evl.ev_var (v := .ref y) rfl) hL hk hm hp (fun H' u dx h a b => ⟨dx, x, y, h, a, b⟩) H (Ex.refl H) _ kk
theorem ok_Boxes_add {f : Addr} {fd : FuncData} (F : Fun K "__add__" "Boxes.__add__" s_Boxes_add f fd) (N_Pair : Mak P w K mg base 1 "Pair" (c .pa) (spIP c) []) : FnOk P w K mg base CX0 3 f fd ["self", "other"] (spPr c .any) := by
  refine F.ok sc_Boxes_add (fun vs H Q E h => ?_) (fun cdv A outer s H vs Q E hr h => ?_)
  · obtain ⟨_, _, _, _, _, rfl, _⟩ := h
    rfl
  · obtain ⟨x, y, k, m, L, rfl, hL, hk, hm, hp, kk⟩ := h
    refine ⟨_, (pss_one (ps_ret (pe_mk N_Pair hr (by decide) (by rfl) (pa_cons pe_str (pa_cons (pv 0) (pa_cons (pv 1) pa_nil)))))), ?_⟩
    exact mk_P (z := "any") (f := .any k m) Evl.ev_c (Evl.ev_var (v := .ref x) rfl) (Evl.ev_var (v := .ref y) rfl) hL hk hm hp (fun H' u dx h a b => ⟨dx, x, y, h, a, b⟩) H (Ex.refl H) _ kk
theorem ok_Rising_invert {f : Addr} {fd : FuncData} (F : Fun K "__invert__" "Rising.__invert__" s_Rising_invert f fd) (N_Contrary : Mak P w K mg base 1 "Contrary" (c .co) (spIC c) []) : FnOk P w K mg base CX0 3 f fd ["self"] (spInv K c) := by
  refine F.ok sc_Rising_invert (fun vs H Q E h => ?_) (fun cdv A outer s H vs Q E hr h => ?_)
  · obtain ⟨_, _, _, rfl, _⟩ := h
    rfl
  · obtain ⟨x, k, L, rfl, hL, hk, kk⟩ := h
    refine ⟨_, (pss_one (ps_ret (pe_mk N_Contrary hr (by decide) (by rfl) (pa_cons (pv 0) pa_nil)))), ?_⟩
    exact mk_C (Evl.ev_var (v := .ref x) rfl) hL hk H (Ex.refl H) _ kk
theorem ok_Rising_and {f : Addr} {fd : FuncData} (F : Fun K "__and__" "Rising.__and__" s_Rising_and f fd) (N_Pair : Mak P w K mg base 1 "Pair" (c .pa) (spIP c) []) : FnOk P w K mg base CX0 3 f fd ["self", "other"] (spPr c .both) := by
  refine F.ok sc_Rising_and (fun vs H Q E h => ?_) (fun cdv A outer s H vs Q E hr h => ?_)
  · obtain ⟨_, _, _, _, _, rfl, _⟩ := h
    rfl
  · obtain ⟨x, y, k, m, L, rfl, hL, hk, hm, hp, kk⟩ := h
    refine ⟨_, (pss_one (ps_ret (pe_mk N_Pair hr (by decide) (by rfl) (pa_cons pe_str (pa_cons (pv 0) (pa_cons (pv 1) pa_nil)))))), ?_⟩
    exact mk_P (z := "both") (f := .both k m) Evl.ev_c (Evl.ev_var (v := .ref x) rfl) (Evl.ev_var (v := .ref y) rfl) hL hk hm hp (fun H' u dx h a b => ⟨dx, x, y, h, a, b⟩) H (Ex.refl H) _ kk
theorem ok_Rising_or {f : Addr} {fd : FuncData} (F : Fun K "__or__" "Rising.__or__" s_Rising_or f fd) (N_Pair : Mak P w K mg base 1 "Pair" (c .pa) (spIP c) []) : FnOk P w K mg base CX0 3 f fd ["self", "other"] (spPr c .either) := by
  refine F.ok sc_Rising_or (fun vs H Q E h => ?_) (fun cdv A outer s H vs Q E hr h => ?_)
  · obtain ⟨_, _, _, _, _, rfl, _⟩ := h
    rfl
  · obtain ⟨x, y, k, m, L, rfl, hL, hk, hm, hp, kk⟩ := h
    refine ⟨_, (pss_one (ps_ret (pe_mk N_Pair hr (by decide) (by rfl) (pa_cons pe_str (pa_cons (pv 0) (pa_cons (pv 1) pa_nil)))))), ?_⟩
    exact mk_P (z := "either") (f := .either k m) Evl.ev_c (Evl.ev_var (v := .ref x) rfl) (Evl.ev_var (v := .ref y) rfl) hL hk hm hp (fun H' u dx h a b => ⟨dx, x, y, h, a, b⟩) H (Ex.refl H) _ kk
theorem ok_Rising_add {f : Addr} {fd : FuncData} (F : Fun K "__add__" "Rising.__add__" s_Rising_add f fd) (N_Pair : Mak P w K mg base 1 "Pair" (c .pa) (spIP c) []) : FnOk P w K mg base CX0 3 f fd ["self", "other"] (spPr c .any) := by
  refine F.ok sc_Rising_add (fun vs H Q E h => ?_) (fun cdv A outer s H vs Q E hr h => ?_)
  · obtain ⟨_, _, _, _, _, rfl, _⟩ := h
    rfl
  · obtain ⟨x, y, k, m, L, rfl, hL, hk, hm, hp, kk⟩ := h
    refine ⟨_, (pss_one (ps_ret (pe_mk N_Pair hr (by decide) (by rfl) (pa_cons pe_str (pa_cons (pv 0) (pa_cons (pv 1) pa_nil)))))), ?_⟩
    exact mk_P (z := "any") (f := .any k m) Evl.ev_c (Evl.ev_var (v := .ref x) rfl) (Evl.ev_var (v := .ref y) rfl) hL hk hm hp (fun H' u dx h a b => ⟨dx, x, y, h, a, b⟩) H (Ex.refl H) _ kk
theorem ok_Flats_invert {f : Addr} {fd : FuncData} (F : Fun K "__invert__" "Flats.__invert__" s_Flats_invert f fd) (N_Contrary : Mak P w K mg base 1 "Contrary" (c .co) (spIC c) []) : FnOk P w K mg base CX0 3 f fd ["self"] (spInv K c) := by
  refine F.ok sc_Flats_invert (fun vs H Q E h => ?_) (fun cdv A outer s H vs Q E hr h => ?_)
  · obtain ⟨_, _, _, rfl, _⟩ := h
    rfl
  · obtain ⟨x, k, L, rfl, hL, hk, kk⟩ := h
    refine ⟨_, (pss_one (ps_ret (pe_mk N_Contrary hr (by decide) (by rfl) (pa_cons (pv 0) pa_nil)))), ?_⟩
    exact mk_C (Evl.ev_var (v := .ref x) rfl) hL hk H (Ex.refl H) _ kk
theorem ok_Flats_and {f : Addr} {fd : FuncData} (F : Fun K "__and__" "Flats.__and__" s_Flats_and f fd) (N_Pair : Mak P w K mg base 1 "Pair" (c .pa) (spIP c) []) : FnOk P w K mg base CX0 3 f fd ["self", "other"] (spPr c .both) := by
  refine F.ok sc_Flats_and (fun vs H Q E h => ?_) (fun cdv A outer s H vs Q E hr h => ?_)
  · obtain ⟨_, _, _, _, _, rfl, _⟩ := h
    rfl
  · obtain ⟨x, y, k, m, L, rfl, hL, hk, hm, hp, kk⟩ := h
    refine ⟨_, (pss_one (ps_ret (pe_mk N_Pair hr (by decide) (by rfl) (pa_cons pe_str (pa_cons (pv 0) (pa_cons (pv 1) pa_nil)))))), ?_⟩
    exact mk_P (z := "both") (f := .both k m) Evl.ev_c (Evl.ev_var (v := .ref x) rfl) (Evl.ev_var (v := .ref y) rfl) hL hk hm hp (fun H' u dx h a b => ⟨dx, x, y, h, a, b⟩) H (Ex.refl H) _ kk
theorem ok_Flats_or {f : Addr} {fd : FuncData} (F : Fun K "__or__" "Flats.__or__" s_Flats_or f fd) (N_Pair : Mak P w K mg base 1 "Pair" (c .pa) (spIP c) []) : FnOk P w K mg base CX0 3 f fd ["self", "other"] (spPr c .either) := by
  refine F.ok sc_Flats_or (fun vs H Q E h => ?_) (fun cdv A outer s H vs Q E hr h => ?_)
  · obtain ⟨_, _, _, _, _, rfl, _⟩ := h
    rfl
  · obtain ⟨x, y, k, m, L, rfl, hL, hk, hm, hp, kk⟩ := h
    refine ⟨_, (pss_one (ps_ret (pe_mk N_Pair hr (by decide) (by rfl) (pa_cons pe_str (pa_cons (pv 0) (pa_cons (pv 1) pa_nil)))))), ?_⟩
    exact mk_P (z := "either") (f := .either k m) Evl.ev_c (Evl.ev_var (v := .ref x) rfl) (Evl.ev_var (v := .ref y) rfl) hL hk hm hp (fun H' u dx h a b => ⟨dx, x, y, h, a, b⟩) H (Ex.refl H) _ kk
theorem ok_Flats_add {f : Addr} {fd : FuncData} (F : Fun K "__add__" "Flats.__add__" s_Flats_add f fd) (N_Pair : Mak P w K mg base 1 "Pair" (c .pa) (spIP c) []) : FnOk P w K mg base CX0 3 f fd ["self", "other"] (spPr c .any) := by
  refine F.ok sc_Flats_add (fun vs H Q E h => ?_) (fun cdv A outer s H vs Q E hr h => ?_)
  · obtain ⟨_, _, _, _, _, rfl, _⟩ := h
    rfl
  · obtain ⟨x, y, k, m, L, rfl, hL, hk, hm, hp, kk⟩ := h
    refine ⟨_, (pss_one (ps_ret (pe_mk N_Pair hr (by decide) (by rfl) (pa_cons pe_str (pa_cons (pv 0) (pa_cons (pv 1) pa_nil)))))), ?_⟩
    exact mk_P (z := "any") (f := .any k m) Evl.ev_c (Evl.ev_var (v := .ref x) rfl) (Evl.ev_var (v := .ref y) rfl) hL hk hm hp (fun H' u dx h a b => ⟨dx, x, y, h, a, b⟩) H (Ex.refl H) _ kk
theorem ok_Turns_invert {f : Addr} {fd : FuncData} (F : Fun K "__invert__" "Turns.__invert__" s_Turns_invert f fd) (N_Contrary : Mak P w K mg base 1 "Contrary" (c .co) (spIC c) []) : FnOk P w K mg base CX0 3 f fd ["self"] (spInv K c) := by
  refine F.ok sc_Turns_invert (fun vs H Q E h => ?_) (fun cdv A outer s H vs Q E hr h => ?_)
  · obtain ⟨_, _, _, rfl, _⟩ := h
    rfl
  · obtain ⟨x, k, L, rfl, hL, hk, kk⟩ := h
    refine ⟨_, (pss_one (ps_ret (pe_mk N_Contrary hr (by decide) (by rfl) (pa_cons (pv 0) pa_nil)))), ?_⟩
    exact mk_C (Evl.ev_var (v := .ref x) rfl) hL hk H (Ex.refl H) _ kk
theorem ok_Turns_and {f : Addr} {fd : FuncData} (F : Fun K "__and__" "Turns.__and__" s_Turns_and f fd) (N_Pair : Mak P w K mg base 1 "Pair" (c .pa) (spIP c) []) : FnOk P w K mg base CX0 3 f fd ["self", "other"] (spPr c .both) := by
  refine F.ok sc_Turns_and (fun vs H Q E h => ?_) (fun cdv A outer s H vs Q E hr h => ?_)
  · obtain ⟨_, _, _, _, _, rfl, _⟩ := h
    rfl
  · obtain ⟨x, y, k, m, L, rfl, hL, hk, hm, hp, kk⟩ := h
    refine ⟨_, (pss_one (ps_ret (pe_mk N_Pair hr (by decide) (by rfl) (pa_cons pe_str (pa_cons (pv 0) (pa_cons (pv 1) pa_nil)))))), ?_⟩
    exact mk_P (z := "both") (f := .both k m) Evl.ev_c (Evl.ev_var (v := .ref x) rfl) (Evl.ev_var (v := .ref y) rfl) hL hk hm hp (fun H' u dx h a b => ⟨dx, x, y, h, a, b⟩) H (Ex.refl H) _ kk
theorem ok_Turns_or {f : Addr} {fd : FuncData} (F : Fun K "__or__" "Turns.__or__" s_Turns_or f fd) (N_Pair : Mak P w K mg base 1 "Pair" (c .pa) (spIP c) []) : FnOk P w K mg base CX0 3 f fd ["self", "other"] (spPr c .either) := by
  refine F.ok sc_Turns_or (fun vs H Q E h => ?_) (fun cdv A outer s H vs Q E hr h => ?_)
  · obtain ⟨_, _, _, _, _, rfl, _⟩ := h
    rfl
  · obtain ⟨x, y, k, m, L, rfl, hL, hk, hm, hp, kk⟩ := h
    refine ⟨_, (pss_one (ps_ret (pe_mk N_Pair hr (by decide) (by rfl) (pa_cons pe_str (pa_cons (pv 0) (pa_cons (pv 1) pa_nil)))))), ?_⟩
    exact mk_P (z := "either") (f := .either k m) Evl.ev_c (Evl.ev_var (v := .ref x) rfl) (Evl.ev_var (v := .ref y) rfl) hL hk hm hp (fun H' u dx h a b => ⟨dx, x, y, h, a, b⟩) H (Ex.refl H) _ kk
theorem ok_Turns_add {f : Addr} {fd : FuncData} (F : Fun K "__add__" "Turns.__add__" s_Turns_add f fd) (N_Pair : Mak P w K mg base 1 "Pair" (c .pa) (spIP c) []) : FnOk P w K mg base CX0 3 f fd ["self", "other"] (spPr c .any) := by
  refine F.ok sc_Turns_add (fun vs H Q E h => ?_) (fun cdv A outer s H vs Q E hr h => ?_)
  · obtain ⟨_, _, _, _, _, rfl, _⟩ := h
    rfl
  · obtain ⟨x, y, k, m, L, rfl, hL, hk, hm, hp, kk⟩ := h
    refine ⟨_, (pss_one (ps_ret (pe_mk N_Pair hr (by decide) (by rfl) (pa_cons pe_str (pa_cons (pv 0) (pa_cons (pv 1) pa_nil)))))), ?_⟩
    exact mk_P (z := "any") (f := .any k m) Evl.ev_c (Evl.ev_var (v := .ref x) rfl) (Evl.ev_var (v := .ref y) rfl) hL hk hm hp (fun H' u dx h a b => ⟨dx, x, y, h, a, b⟩) H (Ex.refl H) _ kk
theorem ok_Contrary_invert {f : Addr} {fd : FuncData} (F : Fun K "__invert__" "Contrary.__invert__" s_Contrary_invert f fd) (N_Contrary : Mak P w K mg base 1 "Contrary" (c .co) (spIC c) []) : FnOk P w K mg base CX0 3 f fd ["self"] (spInv K c) := by
  refine F.ok sc_Contrary_invert (fun vs H Q E h => ?_) (fun cdv A outer s H vs Q E hr h => ?_)
  · obtain ⟨_, _, _, rfl, _⟩ := h
    rfl
  · obtain ⟨x, k, L, rfl, hL, hk, kk⟩ := h
    refine ⟨_, (pss_one (ps_ret (pe_mk N_Contrary hr (by decide) (by rfl) (pa_cons (pv 0) pa_nil)))), ?_⟩
    exact mk_C (Evl.ev_var (v := .ref x) rfl) hL hk H (Ex.refl H) _ kk
theorem ok_Contrary_and {f : Addr} {fd : FuncData} (F : Fun K "__and__" "Contrary.__and__" s_Contrary_and f fd) (N_Pair : Mak P w K mg base 1 "Pair" (c .pa) (spIP c) []) : FnOk P w K mg base CX0 3 f fd ["self", "other"] (spPr c .both) := by
  refine F.ok sc_Contrary_and (fun vs H Q E h => ?_) (fun cdv A outer s H vs Q E hr h => ?_)
  · obtain ⟨_, _, _, _, _, rfl, _⟩ := h
    rfl
  · obtain ⟨x, y, k, m, L, rfl, hL, hk, hm, hp, kk⟩ := h
    refine ⟨_, (pss_one (ps_ret (pe_mk N_Pair hr (by decide) (by rfl) (pa_cons pe_str (pa_cons (pv 0) (pa_cons (pv 1) pa_nil)))))), ?_⟩
    exact mk_P (z := "both") (f := .both k m) Evl.ev_c (Evl.ev_var (v := .ref x) rfl) (Evl.ev_var (v := .ref y) rfl) hL hk hm hp (fun H' u dx h a b => ⟨dx, x, y, h, a, b⟩) H (Ex.refl H) _ kk
theorem ok_Contrary_or {f : Addr} {fd : FuncData} (F : Fun K "__or__" "Contrary.__or__" s_Contrary_or f fd) (N_Pair : Mak P w K mg base 1 "Pair" (c .pa) (spIP c) []) : FnOk P w K mg base CX0 3 f fd ["self", "other"] (spPr c .either) := by
  refine F.ok sc_Contrary_or (fun vs H Q E h => ?_) (fun cdv A outer s H vs Q E hr h => ?_)
  · obtain ⟨_, _, _, _, _, rfl, _⟩ := h
    rfl
  · obtain ⟨x, y, k, m, L, rfl, hL, hk, hm, hp, kk⟩ := h
    refine ⟨_, (pss_one (ps_ret (pe_mk N_Pair hr (by decide) (by rfl) (pa_cons pe_str (pa_cons (pv 0) (pa_cons (pv 1) pa_nil)))))), ?_⟩
    exact mk_P (z := "either") (f := .either k m) Evl.ev_c (Evl.ev_var (v := .ref x) rfl) (Evl.ev_var (v := .ref y) rfl) hL hk hm hp (fun H' u dx h a b => ⟨dx, x, y, h, a, b⟩) H (Ex.refl H) _ kk
theorem ok_Contrary_add {f : Addr} {fd : FuncData} (F : Fun K "__add__" "Contrary.__add__" s_Contrary_add f fd) (N_Pair : Mak P w K mg base 1 "Pair" (c .pa) (spIP c) []) : FnOk P w K mg base CX0 3 f fd ["self", "other"] (spPr c .any) := by
  refine F.ok sc_Contrary_add (fun vs H Q E h => ?_) (fun cdv A outer s H vs Q E hr h => ?_)
  · obtain ⟨_, _, _, _, _, rfl, _⟩ := h
    rfl
  · obtain ⟨x, y, k, m, L, rfl, hL, hk, hm, hp, kk⟩ := h
    refine ⟨_, (pss_one (ps_ret (pe_mk N_Pair hr (by decide) (by rfl) (pa_cons pe_str (pa_cons (pv 0) (pa_cons (pv 1) pa_nil)))))), ?_⟩
    exact mk_P (z := "any") (f := .any k m) Evl.ev_c (Evl.ev_var (v := .ref x) rfl) (Evl.ev_var (v := .ref y) rfl) hL hk hm hp (fun H' u dx h a b => ⟨dx, x, y, h, a, b⟩) H (Ex.refl H) _ kk
theorem ok_Pair_invert {f : Addr} {fd : FuncData} (F : Fun K "__invert__" "Pair.__invert__" s_Pair_invert f fd) (N_Contrary : Mak P w K mg base 1 "Contrary" (c .co) (spIC c) []) : FnOk P w K mg base CX0 3 f fd ["self"] (spInv K c) := by
  refine F.ok sc_Pair_invert (fun vs H Q E h => ?_) (fun cdv A outer s H vs Q E hr h => ?_)
  · obtain ⟨_, _, _, rfl, _⟩ := h
    rfl
  · obtain ⟨x, k, L, rfl, hL, hk, kk⟩ := h
    refine ⟨_, (pss_one (ps_ret (pe_mk N_Contrary hr (by decide) (by rfl) (pa_cons (pv 0) pa_nil)))), ?_⟩
    exact mk_C (Evl.ev_var (v := .ref x) rfl) hL hk H (Ex.refl H) _ kk
theorem ok_Pair_and {f : Addr} {fd : FuncData} (F : Fun K "__and__" "Pair.__and__" s_Pair_and f fd) (N_Pair : Mak P w K mg base 1 "Pair" (c .pa) (spIP c) []) : FnOk P w K mg base CX0 3 f fd ["self", "other"] (spPr c .both) := by
  refine F.ok sc_Pair_and (fun vs H Q E h => ?_) (fun cdv A outer s H vs Q E hr h => ?_)
  · obtain ⟨_, _, _, _, _, rfl, _⟩ := h
    rfl
  · obtain ⟨x, y, k, m, L, rfl, hL, hk, hm, hp, kk⟩ := h
    refine ⟨_, (pss_one (ps_ret (pe_mk N_Pair hr (by decide) (by rfl) (pa_cons pe_str (pa_cons (pv 0) (pa_cons (pv 1) pa_nil)))))), ?_⟩
    exact mk_P (z := "both") (f := .both k m) Evl.ev_c (Evl.ev_var (v := .ref x) rfl) (Evl.ev_var (v := .ref y) rfl) hL hk hm hp (fun H' u dx h a b => ⟨dx, x, y, h, a, b⟩) H (Ex.refl H) _ kk
theorem ok_Pair_or {f : Addr} {fd : FuncData} (F : Fun K "__or__" "Pair.__or__" s_Pair_or f fd) (N_Pair : Mak P w K mg base 1 "Pair" (c .pa) (spIP c) []) : FnOk P w K mg base CX0 3 f fd ["self", "other"] (spPr c .either) := by
  refine F.ok sc_Pair_or (fun vs H Q E h => ?_) (fun cdv A outer s H vs Q E hr h => ?_)
  · obtain ⟨_, _, _, _, _, rfl, _⟩ := h
    rfl
  · obtain ⟨x, y, k, m, L, rfl, hL, hk, hm, hp, kk⟩ := h
    refine ⟨_, (pss_one (ps_ret (pe_mk N_Pair hr (by decide) (by rfl) (pa_cons pe_str (pa_cons (pv 0) (pa_cons (pv 1) pa_nil)))))), ?_⟩
    exact mk_P (z := "either") (f := .either k m) Evl.ev_c (Evl.ev_var (v := .ref x) rfl) (Evl.ev_var (v := .ref y) rfl) hL hk hm hp (fun H' u dx h a b => ⟨dx, x, y, h, a, b⟩) H (Ex.refl H) _ kk
theorem ok_Pair_add {f : Addr} {fd : FuncData} (F : Fun K "__add__" "Pair.__add__" s_Pair_add f fd) (N_Pair : Mak P w K mg base 1 "Pair" (c .pa) (spIP c) []) : FnOk P w K mg base CX0 3 f fd ["self", "other"] (spPr c .any) := by
  refine F.ok sc_Pair_add (fun vs H Q E h => ?_) (fun cdv A outer s H vs Q E hr h => ?_)
  · obtain ⟨_, _, _, _, _, rfl, _⟩ := h
    rfl
  · obtain ⟨x, y, k, m, L, rfl, hL, hk, hm, hp, kk⟩ := h
    refine ⟨_, (pss_one (ps_ret (pe_mk N_Pair hr (by decide) (by rfl) (pa_cons pe_str (pa_cons (pv 0) (pa_cons (pv 1) pa_nil)))))), ?_⟩
    exact mk_P (z := "any") (f := .any k m) Evl.ev_c (Evl.ev_var (v := .ref x) rfl) (Evl.ev_var (v := .ref y) rfl) hL hk hm hp (fun H' u dx h a b => ⟨dx, x, y, h, a, b⟩) H (Ex.refl H) _ kk
end
end U

set_option Elab.async false
set_option linter.all false
set_option maxRecDepth 100000
set_option maxHeartbeats 4000000
/-! kinds built from what is said of them -/
namespace U
open PySem PySem.Spec PyProof.Rows L2
open Evl (Ex)
open C8 (Met Mak pe_mt pe_mt0 pe_mk)
abbrev s_built : Stmt := top 36
abbrev sc_built_N : List Str := ["_law_spec_here", "_law_word", "_law_one", "_law_other"]
theorem sc_built : FnScope sc_built_N ["_law_spec_here"] (defScope s_built) := ⟨rfl, rfl, rfl, by decide +kernel, rfl, by decide +kernel, by decide +kernel⟩
structure OpI (P : Program) (w : World) (K : PySem.W.Frag) (mg : Str → Option Value) (base : Heap) (C : Addr) (op : Operator) (sp : Sp) : Prop where
  ex : ∃ (f : Addr) (fd : FuncData), FnOk P w K mg base CX0 3 f fd ["self", "other"] sp ∧ OpC K C (PySem.dunder op.info.2) (PySem.dunderR op.info.2) f ∧ Binds K fd ["self", "other"] []
structure InvI (P : Program) (w : World) (K : PySem.W.Frag) (mg : Str → Option Value) (base : Heap) (C : Addr) (sp : Sp) : Prop where
  ex : ∃ (f : Addr) (fd : FuncData), FnOk P w K mg base CX0 3 f fd ["self"] sp ∧ PySem.W.findIn K (.ref C) "__invert__" = some (some (.ref f)) ∧ PySem.W.isFn K (.ref f) = true ∧ Binds K fd ["self"] []
/-- the operators of kinds -/
structure KOp (P : Program) (w : World) (K : PySem.W.Frag) (mg : Str → Option Value) (base : Heap) (c : KC) : Prop where
  inv : ∀ i, InvI P w K mg base (c i) (spInv K c)
  and : ∀ i, OpI P w K mg base (c i) .BitAnd (spPr c .both)
  or : ∀ i, OpI P w K mg base (c i) .BitOr (spPr c .either)
  add : ∀ i, OpI P w K mg base (c i) .Add (spPr c .any)
  sub : ∀ i j, c i = c j ∨ PySem.W.subIn K (.ref (c j)) (.ref (c i)) = some false
def tK2 (c : KC) (sp : Sp) (ta tb : TE) : TE := tAny (fun _ => True) fun ij : KI × KI => tOwn2 (c ij.1) (c ij.2) sp ta tb
def tK1 (c : KC) (sp : Sp) (ta : TE) : TE := tAny (fun _ => True) fun i : KI => tInv (c i) sp ta
section
variable {X : Cx} {c : KC} {a b : Expr} {ta tb : TE} {pos : Pos} {op : Operator} {sp : Sp} {n : Nat}
theorem pe_k2 (O : ∀ i, OpI X.prog X.w X.K X.mg X.base (c i) op sp) (S : ∀ i j, c i = c j ∨ PySem.W.subIn X.K (.ref (c j)) (.ref (c i)) = some false) (hr : Room n X.A) (hn : 3 ≤ n) (ha : PE X a ta) (hb : PE X b tb) : PE X (.BinOp a op b pos) (tK2 c sp ta tb) := pe_any fun ij _ => by
  obtain ⟨f, fd, F, o1, hB⟩ := (O ij.1).ex
  obtain ⟨g, gd, G, o2, _⟩ := (O ij.2).ex
  exact pe_own2 F (hr.mono hn) o1 o2 (S ij.1 ij.2) hB ha hb
theorem pe_k1 (O : ∀ i, InvI X.prog X.w X.K X.mg X.base (c i) sp) (hr : Room n X.A) (hn : 3 ≤ n) (ha : PE X a ta) : PE X (.UnaryOp .Invert a pos) (tK1 c sp ta) := pe_any fun i _ => by
  obtain ⟨f, fd, F, hs, hf, hB⟩ := (O i).ex
  exact pe_inv F (hr.mono hn) hs hf hB ha
end
section
variable {K : PySem.W.Frag} {c : KC} {σ : L2.St} {H : Hp} {L : List Addr} {ta tb : TE} {x y : Addr} {k m : Kd}
theorem evk_2 {f : Kd → Kd → Kd} (h1 : Evl.Ev ta σ H (.ref x)) (h2 : Evl.Ev tb σ H (.ref y)) (hL : Hid L H) (hk : Kin c (W L H) k x) (hm : Kin c (W L H) m y) (hp : placesK k = placesK m) : EvK c L (tK2 c (spPr c f) ta tb) σ H (f k m) := fun H1 e Q q => by
  refine ⟨(kiOf k, kiOf m), trivial, h1 H1 e _ fun H2 e2 => h2 H2 (e.trans e2) _ fun H3 e3 => ?_⟩
  have eA := (e.trans e2).trans e3
  have a1 := hk.up (w_ex eA)
  have a2 := hm.up (w_ex eA)
  obtain ⟨d1, f1, y1, _⟩ := a1.ins
  obtain ⟨d2, f2, y2, _⟩ := a2.ins
  exact ⟨x, y, d1, d2, f1, f2, rfl, rfl, (w_in y1).1, (w_in y2).1, x, y, k, m, L, rfl, hid_ex eA hL, a1, a2, hp, fun z H' hz e' hz2 => ⟨z, rfl, q z H' (Evl.fresh_back (e2.trans e3) hz) ((e2.trans e3).trans e') hz2⟩⟩
theorem evk_1 (h1 : Evl.Ev ta σ H (.ref x)) (hL : Hid L H) (hk : Kin c (W L H) k x) : EvK c L (tK1 c (spInv K c) ta) σ H (.no k) := fun H1 e Q q => by
  refine ⟨kiOf k, trivial, h1 H1 e _ fun H2 e2 => ?_⟩
  have eA := e.trans e2
  have a1 := hk.up (w_ex eA)
  obtain ⟨d1, f1, y1, _⟩ := a1.ins
  exact ⟨x, d1, f1, rfl, (w_in y1).1, x, k, L, rfl, hid_ex eA hL, a1, fun z H' hz e' hz2 => q z H' (Evl.fresh_back e2 hz) (e2.trans e') hz2⟩
end
/-- makers of kinds -/
structure KMk (P : Program) (w : World) (K : PySem.W.Frag) (mg : Str → Option Value) (base : Heap) (c : KC) : Prop where
  ha : Mak P w K mg base 4 "Halves" (c .ha) (spI1 (c .ha)) []
  bo : Mak P w K mg base 4 "Boxes" (c .bo) (spI1 (c .bo)) []
  ri : Mak P w K mg base 4 "Rising" (c .ri) (spI1 (c .ri)) []
  fl : Mak P w K mg base 4 "Flats" (c .fl) (spI1 (c .fl)) []
  tu : Mak P w K mg base 2 "Turns" (c .tu) (spIT (c .tu)) []
def spBuilt (K : PySem.W.Frag) (c : KC) (n : Nat) : Sp := fun vs H Q _ => ∃ v k p L, vs = [v] ∧ Hid L H ∧ Dp K (W L H) v (kdD k) ∧ okK p k ∧ 1 ≤ p ∧ p ≤ 3 ∧ depK k ≤ n ∧ ∀ x H', H x = none → Ex H H' → Kin c (W L H') k x → Q (.ref x) H'
def spBuiltP (K : PySem.W.Frag) (c : KC) : Nat → Sp
  | 0 => fun _ _ _ _ => False
  | n + 1 => spBuilt K c n
theorem okK_places : ∀ {k : Kd} {p : Int}, okK p k → placesK k = p
  | .halves _, _, h => h
  | .boxes _, _, h => h
  | .rising _, _, h => h
  | .flats _, _, h => h
  | .turns _, _, h => h.1.symm
  | .no k, _, h => okK_places (k := k) h
  | .both k _, _, h => okK_places (k := k) h.1
  | .either k _, _, h => okK_places (k := k) h.1
  | .any k _, _, h => okK_places (k := k) h.1
section
variable {P : Program} {w : World} {K : PySem.W.Frag} {mg : Str → Option Value} {base : Heap} {c : KC}
theorem k_ret {te : TE} {σ : L2.St} {H : Hp} {L : List Addr} {k : Kd} {D : Ends} (h : EvK c L te σ H k) (q : ∀ x H', H x = none → Ex H H' → Kin c (W L H') k x → D.rt (.ref x) H') : tRet te D σ H := h H (Ex.refl H) _ q
theorem q_asgK {te : TE} {σ : L2.St} {H : Hp} {L : List Addr} {k : Kd} {D : Ends} {tz : TS} {i : Nat} (h : EvK c L te σ H k) (q : ∀ x H', H x = none → Ex H H' → Kin c (W L H') k x → tz D (σ.set i (some (.ref x))) H') : tSeq (tAsg te (gName i)) tz D σ H := h H (Ex.refl H) _ q
theorem ev_built {te : TE} {σ : L2.St} {H : Hp} {L : List Addr} {k : Kd} {p : Int} {n : Nat} {v : V} (h : Evl.Ev te σ H v) (hL : Hid L H) (hv : Dp K (W L H) v (kdD k)) (hok : okK p k) (p1 : 1 ≤ p) (p3 : p ≤ 3) (hdep : depK k ≤ n) : EvK c L (tCallD (spBuiltP K c (n + 1)) (tCons te tNil)) σ H k := fun H1 e Q q =>
  h H1 e _ fun H2 e2 => ⟨v, k, p, L, rfl, hid_ex (e.trans e2) hL, hv.up (w_ex (e.trans e2)), hok, p1, p3, hdep, fun x H' hx e' hk => q x H' (Evl.fresh_back e2 hx) (e2.trans e') hk⟩
theorem evk_ift {tc : TT} {ta tb : TE} {σ : L2.St} {H : Hp} {L : List Addr} {k : Kd} (ht : Evl.EvT tc σ H true) (h : ∀ H1, Ex H H1 → EvK c L ta σ H1 k) : EvK c L (tIf tc ta tb) σ H k := fun H1 e Q q => ht H1 e _ fun H2 e2 => by
  show (if true = true then _ else _)
  simp only [if_true]
  exact h H2 (e.trans e2) H2 (Ex.refl _) Q fun x H3 hx e3 hk => q x H3 (Evl.fresh_back e2 hx) (e2.trans e3) hk
theorem evk_iff {tc : TT} {ta tb : TE} {σ : L2.St} {H : Hp} {L : List Addr} {k : Kd} (ht : Evl.EvT tc σ H false) (h : ∀ H1, Ex H H1 → EvK c L tb σ H1 k) : EvK c L (tIf tc ta tb) σ H k := fun H1 e Q q => ht H1 e _ fun H2 e2 => by
  show (if false = true then _ else _)
  simp only [Bool.false_eq_true, if_false]
  exact h H2 (e.trans e2) H2 (Ex.refl _) Q fun x H3 hx e3 hk => q x H3 (Evl.fresh_back e2 hx) (e2.trans e3) hk
theorem built_body {f : Addr} {fd : FuncData} (F : Fun K "_law_built" "_law_built" s_built f fd) (N : KMk P w K mg base c) (O : KOp P w K mg base c) (n : Nat) (D_built : DefAt P w K mg base "_law_built" (n + 6) ["_law_spec_here"] (spBuiltP K c n)) : FnOk P w K mg base CX0 (n + 7) f fd ["_law_spec_here"] (spBuilt K c n) := by
  refine F.ok sc_built (fun vs H Q E h => ?_) (fun cdv A outer s H vs Q E hr h => ?_)
  · obtain ⟨_, _, _, _, rfl, _⟩ := h
    rfl
  · obtain ⟨v, k, p, L, rfl, hL, hv, hok, p1, p3, hdep, kk⟩ := h
    refine ⟨_, (pss_cons (ps_set (i := 1) sc_built.nd rfl (by first | exact Or.inl rfl | exact Or.inr rfl) (pe_ix ix_tup (pv 0) pe_int (fun _ _ => rfl)))
    (pss_cons (ps_if (pt_cmpR op_eq (pv 1) pe_str (nomark _)) (pss_one (ps_ret (pe_mk N.ha hr (by omega) (by rfl) (pa_cons (pe_ix ix_tup (pv 0) pe_int (fun _ _ => rfl)) pa_nil)))) pss_nil)
    (pss_cons (ps_if (pt_cmpR op_eq (pv 1) pe_str (nomark _)) (pss_one (ps_ret (pe_mk N.bo hr (by omega) (by rfl) (pa_cons (pe_ix ix_tup (pv 0) pe_int (fun _ _ => rfl)) pa_nil)))) pss_nil)
    (pss_cons (ps_if (pt_cmpR op_eq (pv 1) pe_str (nomark _)) (pss_one (ps_ret (pe_mk N.ri hr (by omega) (by rfl) (pa_cons (pe_ix ix_tup (pv 0) pe_int (fun _ _ => rfl)) pa_nil)))) pss_nil)
    (pss_cons (ps_if (pt_cmpR op_eq (pv 1) pe_str (nomark _)) (pss_one (ps_ret (pe_mk N.fl hr (by omega) (by rfl) (pa_cons (pe_ix ix_tup (pv 0) pe_int (fun _ _ => rfl)) pa_nil)))) pss_nil)
    (pss_cons (ps_if (pt_cmpR op_eq (pv 1) pe_str (nomark _)) (pss_one (ps_ret (pe_mk N.tu hr (by omega) (by rfl) (pa_cons (pe_ix ix_tup (pv 0) pe_int (fun _ _ => rfl)) pa_nil)))) pss_nil)
    (pss_cons (ps_set (i := 2) sc_built.nd rfl (by first | exact Or.inl rfl | exact Or.inr rfl) (pe_callD D_built (by first | exact hr | exact hr.mono (by decide) | exact hr.mono (by omega)) (by rfl) (pa_cons (pe_ix ix_tup (pv 0) pe_int (fun _ _ => rfl)) pa_nil)))
    (pss_cons (ps_if (pt_cmpR op_eq (pv 1) pe_str (nomark _)) (pss_one (ps_ret (pe_k1 O.inv hr (by omega) (pv 2)))) pss_nil)
    (pss_cons (ps_set (i := 3) sc_built.nd rfl (by first | exact Or.inl rfl | exact Or.inr rfl) (pe_callD D_built (by first | exact hr | exact hr.mono (by decide) | exact hr.mono (by omega)) (by rfl) (pa_cons (pe_ix ix_tup (pv 0) pe_int (fun _ _ => rfl)) pa_nil)))
    (pss_cons (ps_if (pt_cmpR op_eq (pv 1) pe_str (nomark _)) (pss_one (ps_ret (pe_k2 O.and O.sub hr (by omega) (pv 2) (pv 3)))) pss_nil)
    (pss_one (ps_ret (pe_ifExp (pt_cmpR op_eq (pv 1) pe_str (nomark _)) (pe_k2 O.or O.sub hr (by omega) (pv 2) (pv 3)) (pe_k2 O.add O.sub hr (by omega) (pv 2) (pv 3))))))))))))))), ?_⟩
    cases k with
    | halves q =>
      cases hv with
      | @tup a xs _ hs ha =>
        cases ha with
        | @cons c0 _ _ _ r0 q0 =>
          cases r0
          cases q0 with
          | @cons c1 _ _ _ r1 q0 =>
            cases q0
            cases r1
            refine Evl.q_asg (v := .str "halves") (Evl.ev_op (Evl.ev_var (v := .ref a) rfl) Evl.ev_c (Evl.rv_ixT (Evl.ex_t (w_sub (L := L)) hs) rfl)) fun H1 e1 => ?_
            refine Evl.q_when (b := true) (Evl.et_is (Evl.et_test (Evl.ev_op (Evl.ev_var (v := .str "halves") rfl) Evl.ev_c (Evl.rv_eq rfl))) (by decide)) (fun _ H2 e2 => ?_) (fun z => nomatch z)
            have eA := (e1.trans e2)
            have eqp : q = p := hok
            subst eqp
            exact k_ret (L := L) (k := .halves q) (mk_1 (i := .ha) (Evl.ev_op (Evl.ev_var (v := .ref a) rfl) Evl.ev_c (Evl.rv_ixT (Evl.ex_t (w_sub (L := L)) (Evl.ex_t (w_ex (L := L) eA) hs)) rfl)) (hid_ex eA hL) p1 p3 (fun _ _ dx h => ⟨dx, h⟩)) (fun x H' hx e q => kk x H' (Evl.fresh_back eA hx) (eA.trans e) q)
    | boxes q =>
      cases hv with
      | @tup a xs _ hs ha =>
        cases ha with
        | @cons c0 _ _ _ r0 q0 =>
          cases r0
          cases q0 with
          | @cons c1 _ _ _ r1 q0 =>
            cases q0
            cases r1
            refine Evl.q_asg (v := .str "boxes") (Evl.ev_op (Evl.ev_var (v := .ref a) rfl) Evl.ev_c (Evl.rv_ixT (Evl.ex_t (w_sub (L := L)) hs) rfl)) fun H1 e1 => ?_
            refine Evl.q_when (b := false) (Evl.et_is (Evl.et_test (Evl.ev_op (Evl.ev_var (v := .str "boxes") rfl) Evl.ev_c (Evl.rv_eq rfl))) (by decide)) (fun z => nomatch z) (fun _ H2 e2 => ?_)
            refine Evl.q_when (b := true) (Evl.et_is (Evl.et_test (Evl.ev_op (Evl.ev_var (v := .str "boxes") rfl) Evl.ev_c (Evl.rv_eq rfl))) (by decide)) (fun _ H3 e3 => ?_) (fun z => nomatch z)
            have eA := ((e1.trans e2).trans e3)
            have eqp : q = p := hok
            subst eqp
            exact k_ret (L := L) (k := .boxes q) (mk_1 (i := .bo) (Evl.ev_op (Evl.ev_var (v := .ref a) rfl) Evl.ev_c (Evl.rv_ixT (Evl.ex_t (w_sub (L := L)) (Evl.ex_t (w_ex (L := L) eA) hs)) rfl)) (hid_ex eA hL) p1 p3 (fun _ _ dx h => ⟨dx, h⟩)) (fun x H' hx e q => kk x H' (Evl.fresh_back eA hx) (eA.trans e) q)
    | rising q =>
      cases hv with
      | @tup a xs _ hs ha =>
        cases ha with
        | @cons c0 _ _ _ r0 q0 =>
          cases r0
          cases q0 with
          | @cons c1 _ _ _ r1 q0 =>
            cases q0
            cases r1
            refine Evl.q_asg (v := .str "rising") (Evl.ev_op (Evl.ev_var (v := .ref a) rfl) Evl.ev_c (Evl.rv_ixT (Evl.ex_t (w_sub (L := L)) hs) rfl)) fun H1 e1 => ?_
            refine Evl.q_when (b := false) (Evl.et_is (Evl.et_test (Evl.ev_op (Evl.ev_var (v := .str "rising") rfl) Evl.ev_c (Evl.rv_eq rfl))) (by decide)) (fun z => nomatch z) (fun _ H2 e2 => ?_)
            refine Evl.q_when (b := false) (Evl.et_is (Evl.et_test (Evl.ev_op (Evl.ev_var (v := .str "rising") rfl) Evl.ev_c (Evl.rv_eq rfl))) (by decide)) (fun z => nomatch z) (fun _ H3 e3 => ?_)
            refine Evl.q_when (b := true) (Evl.et_is (Evl.et_test (Evl.ev_op (Evl.ev_var (v := .str "rising") rfl) Evl.ev_c (Evl.rv_eq rfl))) (by decide)) (fun _ H4 e4 => ?_) (fun z => nomatch z)
            have eA := (((e1.trans e2).trans e3).trans e4)
            have eqp : q = p := hok
            subst eqp
            exact k_ret (L := L) (k := .rising q) (mk_1 (i := .ri) (Evl.ev_op (Evl.ev_var (v := .ref a) rfl) Evl.ev_c (Evl.rv_ixT (Evl.ex_t (w_sub (L := L)) (Evl.ex_t (w_ex (L := L) eA) hs)) rfl)) (hid_ex eA hL) p1 p3 (fun _ _ dx h => ⟨dx, h⟩)) (fun x H' hx e q => kk x H' (Evl.fresh_back eA hx) (eA.trans e) q)
    | flats q =>
      cases hv with
      | @tup a xs _ hs ha =>
        cases ha with
        | @cons c0 _ _ _ r0 q0 =>
          cases r0
          cases q0 with
          | @cons c1 _ _ _ r1 q0 =>
            cases q0
            cases r1
            refine Evl.q_asg (v := .str "flats") (Evl.ev_op (Evl.ev_var (v := .ref a) rfl) Evl.ev_c (Evl.rv_ixT (Evl.ex_t (w_sub (L := L)) hs) rfl)) fun H1 e1 => ?_
            refine Evl.q_when (b := false) (Evl.et_is (Evl.et_test (Evl.ev_op (Evl.ev_var (v := .str "flats") rfl) Evl.ev_c (Evl.rv_eq rfl))) (by decide)) (fun z => nomatch z) (fun _ H2 e2 => ?_)
            refine Evl.q_when (b := false) (Evl.et_is (Evl.et_test (Evl.ev_op (Evl.ev_var (v := .str "flats") rfl) Evl.ev_c (Evl.rv_eq rfl))) (by decide)) (fun z => nomatch z) (fun _ H3 e3 => ?_)
            refine Evl.q_when (b := false) (Evl.et_is (Evl.et_test (Evl.ev_op (Evl.ev_var (v := .str "flats") rfl) Evl.ev_c (Evl.rv_eq rfl))) (by decide)) (fun z => nomatch z) (fun _ H4 e4 => ?_)
            refine Evl.q_when (b := true) (Evl.et_is (Evl.et_test (Evl.ev_op (Evl.ev_var (v := .str "flats") rfl) Evl.ev_c (Evl.rv_eq rfl))) (by decide)) (fun _ H5 e5 => ?_) (fun z => nomatch z)
            have eA := ((((e1.trans e2).trans e3).trans e4).trans e5)
            have eqp : q = p := hok
            subst eqp
            exact k_ret (L := L) (k := .flats q) (mk_1 (i := .fl) (Evl.ev_op (Evl.ev_var (v := .ref a) rfl) Evl.ev_c (Evl.rv_ixT (Evl.ex_t (w_sub (L := L)) (Evl.ex_t (w_ex (L := L) eA) hs)) rfl)) (hid_ex eA hL) p1 p3 (fun _ _ dx h => ⟨dx, h⟩)) (fun x H' hx e q => kk x H' (Evl.fresh_back eA hx) (eA.trans e) q)
    | turns q =>
      cases hv with
      | @tup a xs _ hs ha =>
        cases ha with
        | @cons c0 _ _ _ r0 q0 =>
          cases r0
          cases q0 with
          | @cons c1 _ _ _ r1 q0 =>
            cases q0
            cases r1
            refine Evl.q_asg (v := .str "turns") (Evl.ev_op (Evl.ev_var (v := .ref a) rfl) Evl.ev_c (Evl.rv_ixT (Evl.ex_t (w_sub (L := L)) hs) rfl)) fun H1 e1 => ?_
            refine Evl.q_when (b := false) (Evl.et_is (Evl.et_test (Evl.ev_op (Evl.ev_var (v := .str "turns") rfl) Evl.ev_c (Evl.rv_eq rfl))) (by decide)) (fun z => nomatch z) (fun _ H2 e2 => ?_)
            refine Evl.q_when (b := false) (Evl.et_is (Evl.et_test (Evl.ev_op (Evl.ev_var (v := .str "turns") rfl) Evl.ev_c (Evl.rv_eq rfl))) (by decide)) (fun z => nomatch z) (fun _ H3 e3 => ?_)
            refine Evl.q_when (b := false) (Evl.et_is (Evl.et_test (Evl.ev_op (Evl.ev_var (v := .str "turns") rfl) Evl.ev_c (Evl.rv_eq rfl))) (by decide)) (fun z => nomatch z) (fun _ H4 e4 => ?_)
            refine Evl.q_when (b := false) (Evl.et_is (Evl.et_test (Evl.ev_op (Evl.ev_var (v := .str "turns") rfl) Evl.ev_c (Evl.rv_eq rfl))) (by decide)) (fun z => nomatch z) (fun _ H5 e5 => ?_)
            refine Evl.q_when (b := true) (Evl.et_is (Evl.et_test (Evl.ev_op (Evl.ev_var (v := .str "turns") rfl) Evl.ev_c (Evl.rv_eq rfl))) (by decide)) (fun _ H6 e6 => ?_) (fun z => nomatch z)
            have eA := (((((e1.trans e2).trans e3).trans e4).trans e5).trans e6)
            exact k_ret (L := L) (k := .turns q) (mk_T (Evl.ev_op (Evl.ev_var (v := .ref a) rfl) Evl.ev_c (Evl.rv_ixT (Evl.ex_t (w_sub (L := L)) (Evl.ex_t (w_ex (L := L) eA) hs)) rfl)) (hid_ex eA hL) hok.2.1 (by have := hok.2.2; omega)) (fun x H' hx e q => kk x H' (Evl.fresh_back eA hx) (eA.trans e) q)
    | no k1 =>
      cases hv with
      | @tup a xs _ hs ha =>
        cases ha with
        | @cons c0 _ _ _ r0 q0 =>
          cases r0
          cases q0 with
          | @cons c1 _ _ _ r1 q0 =>
            cases q0
            have dp := hdep
            simp only [depK] at dp
            obtain ⟨m, rfl⟩ : ∃ m, n = m + 1 := ⟨n - 1, by omega⟩
            refine Evl.q_asg (v := .str "not") (Evl.ev_op (Evl.ev_var (v := .ref a) rfl) Evl.ev_c (Evl.rv_ixT (Evl.ex_t (w_sub (L := L)) hs) rfl)) fun H1 e1 => ?_
            refine Evl.q_when (b := false) (Evl.et_is (Evl.et_test (Evl.ev_op (Evl.ev_var (v := .str "not") rfl) Evl.ev_c (Evl.rv_eq rfl))) (by decide)) (fun z => nomatch z) (fun _ H2 e2 => ?_)
            refine Evl.q_when (b := false) (Evl.et_is (Evl.et_test (Evl.ev_op (Evl.ev_var (v := .str "not") rfl) Evl.ev_c (Evl.rv_eq rfl))) (by decide)) (fun z => nomatch z) (fun _ H3 e3 => ?_)
            refine Evl.q_when (b := false) (Evl.et_is (Evl.et_test (Evl.ev_op (Evl.ev_var (v := .str "not") rfl) Evl.ev_c (Evl.rv_eq rfl))) (by decide)) (fun z => nomatch z) (fun _ H4 e4 => ?_)
            refine Evl.q_when (b := false) (Evl.et_is (Evl.et_test (Evl.ev_op (Evl.ev_var (v := .str "not") rfl) Evl.ev_c (Evl.rv_eq rfl))) (by decide)) (fun z => nomatch z) (fun _ H5 e5 => ?_)
            refine Evl.q_when (b := false) (Evl.et_is (Evl.et_test (Evl.ev_op (Evl.ev_var (v := .str "not") rfl) Evl.ev_c (Evl.rv_eq rfl))) (by decide)) (fun z => nomatch z) (fun _ H6 e6 => ?_)
            have eA := (((((e1.trans e2).trans e3).trans e4).trans e5).trans e6)
            refine q_asgK (L := L) (k := k1) (ev_built (Evl.ev_op (Evl.ev_var (v := .ref a) rfl) Evl.ev_c (Evl.rv_ixT (Evl.ex_t (w_sub (L := L)) (Evl.ex_t (w_ex (L := L) eA) hs)) rfl)) (hid_ex eA hL) (r1.up (w_ex eA)) hok p1 p3 (by omega)) fun x1 H7 n1 e7 k1' => ?_
            refine Evl.q_when (b := true) (Evl.et_is (Evl.et_test (Evl.ev_op (Evl.ev_var (v := .str "not") rfl) Evl.ev_c (Evl.rv_eq rfl))) (by decide)) (fun _ H8 e8 => ?_) (fun z => nomatch z)
            have eB := (eA.trans e7).trans e8
            exact k_ret (L := L) (k := .no k1) (evk_1 (Evl.ev_var rfl) (hid_ex eB hL) (k1'.up (w_ex e8))) (fun x H' hx e q => kk x H' (Evl.fresh_back eB hx) (eB.trans e) q)
    | both k1 k2 =>
      cases hv with
      | @tup a xs _ hs ha =>
        cases ha with
        | @cons c0 _ _ _ r0 q0 =>
          cases r0
          cases q0 with
          | @cons c1 _ _ _ r1 q0 =>
            cases q0 with
            | @cons c2 _ _ _ r2 q0 =>
              cases q0
              have dp := hdep
              simp only [depK] at dp
              obtain ⟨m, rfl⟩ : ∃ m, n = m + 1 := ⟨n - 1, by omega⟩
              refine Evl.q_asg (v := .str "both") (Evl.ev_op (Evl.ev_var (v := .ref a) rfl) Evl.ev_c (Evl.rv_ixT (Evl.ex_t (w_sub (L := L)) hs) rfl)) fun H1 e1 => ?_
              refine Evl.q_when (b := false) (Evl.et_is (Evl.et_test (Evl.ev_op (Evl.ev_var (v := .str "both") rfl) Evl.ev_c (Evl.rv_eq rfl))) (by decide)) (fun z => nomatch z) (fun _ H2 e2 => ?_)
              refine Evl.q_when (b := false) (Evl.et_is (Evl.et_test (Evl.ev_op (Evl.ev_var (v := .str "both") rfl) Evl.ev_c (Evl.rv_eq rfl))) (by decide)) (fun z => nomatch z) (fun _ H3 e3 => ?_)
              refine Evl.q_when (b := false) (Evl.et_is (Evl.et_test (Evl.ev_op (Evl.ev_var (v := .str "both") rfl) Evl.ev_c (Evl.rv_eq rfl))) (by decide)) (fun z => nomatch z) (fun _ H4 e4 => ?_)
              refine Evl.q_when (b := false) (Evl.et_is (Evl.et_test (Evl.ev_op (Evl.ev_var (v := .str "both") rfl) Evl.ev_c (Evl.rv_eq rfl))) (by decide)) (fun z => nomatch z) (fun _ H5 e5 => ?_)
              refine Evl.q_when (b := false) (Evl.et_is (Evl.et_test (Evl.ev_op (Evl.ev_var (v := .str "both") rfl) Evl.ev_c (Evl.rv_eq rfl))) (by decide)) (fun z => nomatch z) (fun _ H6 e6 => ?_)
              have eA := (((((e1.trans e2).trans e3).trans e4).trans e5).trans e6)
              refine q_asgK (L := L) (k := k1) (ev_built (Evl.ev_op (Evl.ev_var (v := .ref a) rfl) Evl.ev_c (Evl.rv_ixT (Evl.ex_t (w_sub (L := L)) (Evl.ex_t (w_ex (L := L) eA) hs)) rfl)) (hid_ex eA hL) (r1.up (w_ex eA)) hok.1 p1 p3 (by omega)) fun x1 H7 n1 e7 k1' => ?_
              refine Evl.q_when (b := false) (Evl.et_is (Evl.et_test (Evl.ev_op (Evl.ev_var (v := .str "both") rfl) Evl.ev_c (Evl.rv_eq rfl))) (by decide)) (fun z => nomatch z) (fun _ H8 e8 => ?_)
              have eB := (eA.trans e7).trans e8
              refine q_asgK (L := L) (k := k2) (ev_built (Evl.ev_op (Evl.ev_var (v := .ref a) rfl) Evl.ev_c (Evl.rv_ixT (Evl.ex_t (w_sub (L := L)) (Evl.ex_t (w_ex (L := L) eB) hs)) rfl)) (hid_ex eB hL) (r2.up (w_ex eB)) hok.2 p1 p3 (by omega)) fun x2 H9 n2 e9 k2' => ?_
              have ep : placesK k1 = placesK k2 := (okK_places hok.1).trans (okK_places hok.2).symm
              refine Evl.q_when (b := true) (Evl.et_is (Evl.et_test (Evl.ev_op (Evl.ev_var (v := .str "both") rfl) Evl.ev_c (Evl.rv_eq rfl))) (by decide)) (fun _ H10 e10 => ?_) (fun z => nomatch z)
              have eC := (eB.trans e9).trans e10
              exact k_ret (L := L) (k := .both k1 k2) (evk_2 (Evl.ev_var rfl) (Evl.ev_var rfl) (hid_ex eC hL) (k1'.up (w_ex ((e8.trans e9).trans e10))) (k2'.up (w_ex e10)) ep) (fun x H' hx e q => kk x H' (Evl.fresh_back eC hx) (eC.trans e) q)
    | either k1 k2 =>
      cases hv with
      | @tup a xs _ hs ha =>
        cases ha with
        | @cons c0 _ _ _ r0 q0 =>
          cases r0
          cases q0 with
          | @cons c1 _ _ _ r1 q0 =>
            cases q0 with
            | @cons c2 _ _ _ r2 q0 =>
              cases q0
              have dp := hdep
              simp only [depK] at dp
              obtain ⟨m, rfl⟩ : ∃ m, n = m + 1 := ⟨n - 1, by omega⟩
              refine Evl.q_asg (v := .str "either") (Evl.ev_op (Evl.ev_var (v := .ref a) rfl) Evl.ev_c (Evl.rv_ixT (Evl.ex_t (w_sub (L := L)) hs) rfl)) fun H1 e1 => ?_
              refine Evl.q_when (b := false) (Evl.et_is (Evl.et_test (Evl.ev_op (Evl.ev_var (v := .str "either") rfl) Evl.ev_c (Evl.rv_eq rfl))) (by decide)) (fun z => nomatch z) (fun _ H2 e2 => ?_)
              refine Evl.q_when (b := false) (Evl.et_is (Evl.et_test (Evl.ev_op (Evl.ev_var (v := .str "either") rfl) Evl.ev_c (Evl.rv_eq rfl))) (by decide)) (fun z => nomatch z) (fun _ H3 e3 => ?_)
              refine Evl.q_when (b := false) (Evl.et_is (Evl.et_test (Evl.ev_op (Evl.ev_var (v := .str "either") rfl) Evl.ev_c (Evl.rv_eq rfl))) (by decide)) (fun z => nomatch z) (fun _ H4 e4 => ?_)
              refine Evl.q_when (b := false) (Evl.et_is (Evl.et_test (Evl.ev_op (Evl.ev_var (v := .str "either") rfl) Evl.ev_c (Evl.rv_eq rfl))) (by decide)) (fun z => nomatch z) (fun _ H5 e5 => ?_)
              refine Evl.q_when (b := false) (Evl.et_is (Evl.et_test (Evl.ev_op (Evl.ev_var (v := .str "either") rfl) Evl.ev_c (Evl.rv_eq rfl))) (by decide)) (fun z => nomatch z) (fun _ H6 e6 => ?_)
              have eA := (((((e1.trans e2).trans e3).trans e4).trans e5).trans e6)
              refine q_asgK (L := L) (k := k1) (ev_built (Evl.ev_op (Evl.ev_var (v := .ref a) rfl) Evl.ev_c (Evl.rv_ixT (Evl.ex_t (w_sub (L := L)) (Evl.ex_t (w_ex (L := L) eA) hs)) rfl)) (hid_ex eA hL) (r1.up (w_ex eA)) hok.1 p1 p3 (by omega)) fun x1 H7 n1 e7 k1' => ?_
              refine Evl.q_when (b := false) (Evl.et_is (Evl.et_test (Evl.ev_op (Evl.ev_var (v := .str "either") rfl) Evl.ev_c (Evl.rv_eq rfl))) (by decide)) (fun z => nomatch z) (fun _ H8 e8 => ?_)
              have eB := (eA.trans e7).trans e8
              refine q_asgK (L := L) (k := k2) (ev_built (Evl.ev_op (Evl.ev_var (v := .ref a) rfl) Evl.ev_c (Evl.rv_ixT (Evl.ex_t (w_sub (L := L)) (Evl.ex_t (w_ex (L := L) eB) hs)) rfl)) (hid_ex eB hL) (r2.up (w_ex eB)) hok.2 p1 p3 (by omega)) fun x2 H9 n2 e9 k2' => ?_
              have ep : placesK k1 = placesK k2 := (okK_places hok.1).trans (okK_places hok.2).symm
              refine Evl.q_when (b := false) (Evl.et_is (Evl.et_test (Evl.ev_op (Evl.ev_var (v := .str "either") rfl) Evl.ev_c (Evl.rv_eq rfl))) (by decide)) (fun z => nomatch z) (fun _ H10 e10 => ?_)
              have eC := (eB.trans e9).trans e10
              exact k_ret (L := L) (k := .either k1 k2) (evk_ift (Evl.et_is (Evl.et_test (Evl.ev_op (Evl.ev_var (v := .str "either") rfl) Evl.ev_c (Evl.rv_eq rfl))) (by decide)) (fun H11 e11 => evk_2 (Evl.ev_var rfl) (Evl.ev_var rfl) (hid_ex (eC.trans e11) hL) (k1'.up (w_ex (((e8.trans e9).trans e10).trans e11))) (k2'.up (w_ex (e10.trans e11))) ep)) (fun x H' hx e q => kk x H' (Evl.fresh_back eC hx) (eC.trans e) q)
    | any k1 k2 =>
      cases hv with
      | @tup a xs _ hs ha =>
        cases ha with
        | @cons c0 _ _ _ r0 q0 =>
          cases r0
          cases q0 with
          | @cons c1 _ _ _ r1 q0 =>
            cases q0 with
            | @cons c2 _ _ _ r2 q0 =>
              cases q0
              have dp := hdep
              simp only [depK] at dp
              obtain ⟨m, rfl⟩ : ∃ m, n = m + 1 := ⟨n - 1, by omega⟩
              refine Evl.q_asg (v := .str "any") (Evl.ev_op (Evl.ev_var (v := .ref a) rfl) Evl.ev_c (Evl.rv_ixT (Evl.ex_t (w_sub (L := L)) hs) rfl)) fun H1 e1 => ?_
              refine Evl.q_when (b := false) (Evl.et_is (Evl.et_test (Evl.ev_op (Evl.ev_var (v := .str "any") rfl) Evl.ev_c (Evl.rv_eq rfl))) (by decide)) (fun z => nomatch z) (fun _ H2 e2 => ?_)
              refine Evl.q_when (b := false) (Evl.et_is (Evl.et_test (Evl.ev_op (Evl.ev_var (v := .str "any") rfl) Evl.ev_c (Evl.rv_eq rfl))) (by decide)) (fun z => nomatch z) (fun _ H3 e3 => ?_)
              refine Evl.q_when (b := false) (Evl.et_is (Evl.et_test (Evl.ev_op (Evl.ev_var (v := .str "any") rfl) Evl.ev_c (Evl.rv_eq rfl))) (by decide)) (fun z => nomatch z) (fun _ H4 e4 => ?_)
              refine Evl.q_when (b := false) (Evl.et_is (Evl.et_test (Evl.ev_op (Evl.ev_var (v := .str "any") rfl) Evl.ev_c (Evl.rv_eq rfl))) (by decide)) (fun z => nomatch z) (fun _ H5 e5 => ?_)
              refine Evl.q_when (b := false) (Evl.et_is (Evl.et_test (Evl.ev_op (Evl.ev_var (v := .str "any") rfl) Evl.ev_c (Evl.rv_eq rfl))) (by decide)) (fun z => nomatch z) (fun _ H6 e6 => ?_)
              have eA := (((((e1.trans e2).trans e3).trans e4).trans e5).trans e6)
              refine q_asgK (L := L) (k := k1) (ev_built (Evl.ev_op (Evl.ev_var (v := .ref a) rfl) Evl.ev_c (Evl.rv_ixT (Evl.ex_t (w_sub (L := L)) (Evl.ex_t (w_ex (L := L) eA) hs)) rfl)) (hid_ex eA hL) (r1.up (w_ex eA)) hok.1 p1 p3 (by omega)) fun x1 H7 n1 e7 k1' => ?_
              refine Evl.q_when (b := false) (Evl.et_is (Evl.et_test (Evl.ev_op (Evl.ev_var (v := .str "any") rfl) Evl.ev_c (Evl.rv_eq rfl))) (by decide)) (fun z => nomatch z) (fun _ H8 e8 => ?_)
              have eB := (eA.trans e7).trans e8
              refine q_asgK (L := L) (k := k2) (ev_built (Evl.ev_op (Evl.ev_var (v := .ref a) rfl) Evl.ev_c (Evl.rv_ixT (Evl.ex_t (w_sub (L := L)) (Evl.ex_t (w_ex (L := L) eB) hs)) rfl)) (hid_ex eB hL) (r2.up (w_ex eB)) hok.2 p1 p3 (by omega)) fun x2 H9 n2 e9 k2' => ?_
              have ep : placesK k1 = placesK k2 := (okK_places hok.1).trans (okK_places hok.2).symm
              refine Evl.q_when (b := false) (Evl.et_is (Evl.et_test (Evl.ev_op (Evl.ev_var (v := .str "any") rfl) Evl.ev_c (Evl.rv_eq rfl))) (by decide)) (fun z => nomatch z) (fun _ H10 e10 => ?_)
              have eC := (eB.trans e9).trans e10
              exact k_ret (L := L) (k := .any k1 k2) (evk_iff (Evl.et_is (Evl.et_test (Evl.ev_op (Evl.ev_var (v := .str "any") rfl) Evl.ev_c (Evl.rv_eq rfl))) (by decide)) (fun H11 e11 => evk_2 (Evl.ev_var rfl) (Evl.ev_var rfl) (hid_ex (eC.trans e11) hL) (k1'.up (w_ex (((e8.trans e9).trans e10).trans e11))) (k2'.up (w_ex (e10.trans e11))) ep)) (fun x H' hx e q => kk x H' (Evl.fresh_back eC hx) (eC.trans e) q)
end
end U

set_option Elab.async false
set_option linter.all false
set_option maxRecDepth 100000
set_option maxHeartbeats 2000000
/-! == of any data with a str -/
namespace U
open PySem PySem.Spec PyProof.Rows L2
open Evl (Ex)
section
open PySem.SeqAt PySem.AutoSeq1 PySem.MeetsSeq
theorem str_eq_declines_dict (b : Str) (u : Tok) (l : Addr) (c : Value) (es : Array DictEntry) (n : Nat) (dd : Option Addr) (sl : Array (Option Value)) :
    Meets (Builtin.«str.__eq__» ⟨[.str b u, .ref l], []⟩) (fun _ R s => s.heap.get? l = some { cls := c, dict := dd, data := .dict es n, slots := sl } ∧ R (.ok (.ret .notImplemented)) s) :=
  .of_wp fun prog w A R s h => by obtain ⟨hp, g, d, tk, os⟩ := s; obtain ⟨hl, h⟩ := h; wp_walk using wpAny_loadPart' hl, wpAny_load hl; exact ⟨_, rfl, h⟩
theorem rc_dict_str {A : Around} {s : Shared} {d : Addr} {dd : Option Addr} {es : Array DictEntry} {n : Nat} {sl : Array (Option Value)} (b : Str) (u : Tok)
    (ho : s.heap.get? d = some { cls := .type "dict", dict := dd, data := .dict es n, slots := sl }) (hu : A.units < cLine) : RcAt A s (.ref d) (.str b u) false := fun prog w E Q h => by
  have T : s.TypeIs (.ref d) "dict" := ⟨_, ho, rfl⟩
  refine rc_eq_decline_or (k := false) T (typeIs_str s b u) (by decide) F.sub_str_dict F.slot_dict_eq F.slot_str_eq_refl
    (fun Q' hq => wpAny_call_entry PySem.F.slot_dict_eq T PySem.F.entry_dict_eq ?_ (PySem.F.args_dict_eq_2 _ _))
    (fun _ hq => call_meets F.slot_str_eq_refl (typeIs_str s b u) F.entry_str_eq (F.args_str_eq_2 _ _) (str_eq_declines_dict b u d (.type "dict") es n dd sl) ⟨ho, hq⟩)
    (fun _ hq => wpAny_of_eq (rfl : isSame (.ref d) (.str b u) = pure false) hq) (.inr hu) h
  show wpAny _ _ (Builtin.Dict.dictSlotArgs "__eq__" ⟨[.ref d, .str b u], []⟩ >>= _) _ _ s
  refine wpAny_bind ?_
  unfold Builtin.Dict.dictSlotArgs
  refine wpAny_bind (wpAny_notOrdered_dict T ?_)
  show wpAny _ _ (pure (Value.ref d, Value.str b u)) _ _ s
  refine wpAny_pure ?_
  refine wpAny_bind (wpAny_isInstance (T := "str") (typeIs_str s b u) PySem.F.sub_str_dict ?_)
  simp only [Bool.not_false, if_true]
  obtain ⟨hp, g, dm, tk, os⟩ := s
  wp_walk
  exact ⟨_, rfl, hq⟩
end
/-- is data just that text? -/
def isS (d : PyData) (z : Str) : Bool := match d with | .str y => y == z | _ => false
section
variable {X : Cx}
def rEqS (K : PySem.W.Frag) : R2 := fun x y H Q => ∃ d z, Dq K H x d ∧ y = .str z ∧ Q (.bl (isS d z)) H
theorem op_eqS (hu : X.A.units < cLine) : OpR X (compareOp .Eq) (rEqS X.K) := by
  intro pins s σ H x y v u Q I rx ry h
  obtain ⟨d, z, hd, rfl, q⟩ := h
  have cs : ∀ (i : Bool), scal x (.str z) = true → decide (x = .str z) = i → Q (.bl i) H → wpAny (model X.prog X.w) X.A (compareOp .Eq v u) (EP X pins σ Q) X.xe s := fun i hs hi hq => op_eq pins s σ H x _ v u Q I rx ry ⟨hs, by rw [hi]; exact hq⟩
  cases hd with
  | non => exact cs false rfl (by simp) q
  | bl b => exact cs false rfl (by simp) q
  | int i => exact cs false rfl (by simp) q
  | str y => exact cs (y == z) rfl dec_str q
  | lst hs _ =>
    cases rx
    obtain ⟨t, rfl⟩ := ry
    obtain ⟨its, _, ⟨o, n, ho, hc, _, hd⟩, _⟩ := I.list hs
    exact SeqAt.RcAt.list_str z t ⟨_, ho, hc, _, hd⟩ hu _ _ _ _ (fin_bl I q rfl)
  | tup hs _ =>
    cases rx
    obtain ⟨t, rfl⟩ := ry
    obtain ⟨its, _, ⟨o, ho, hc, n, hd⟩, _⟩ := I.tuple hs
    exact SeqAt.RcAt.tuple_str z t ⟨_, ho, hc, _, hd⟩ hu _ _ _ _ (fin_bl I q rfl)
  | dct ha =>
    cases rx
    obtain ⟨t, rfl⟩ := ry
    obtain ⟨_, _, vs, _, dd⟩ := (show ObjOk X.prog X.w H s.heap _ (.dK []) from I.hok _ _ ha)
    obtain ⟨⟨cls, di, da, sl⟩, es, ep, ho, hx, hda, _⟩ := dd
    have hc : cls = .type "dict" := hx.1
    subst hc
    cases hda
    exact rc_dict_str z t ho hu _ _ _ _ (fin_bl I q rfl)
end
end U

set_option Elab.async false
set_option linter.all false
set_option maxRecDepth 100000
set_option maxHeartbeats 2000000
/-! zip(xs, xs[1:]) of a list or a tuple -/
namespace U
open PySem L2
open Evl (Ex)
section
variable {X : Cx}
def rSlS (K : PySem.W.Frag) : V → Option Int → Option Int → Hp → VK → Prop := fun x lo hi H Q => rSlL K x lo hi H Q ∨ rSlA K x lo hi H Q
theorem sl_seq : L2.SlR X (rSlS X.K) := SlR.or sl_list sl_tupA
end
section
variable {K : PySem.W.Frag} {σ : L2.St} {H : Hp} {a : Addr} {xs : List V}
theorem cut_1 : ∀ {xs : List V}, cutV xs (some 1) none = xs.drop 1
  | [] => rfl
  | x :: us => by
    have e1 : HT.sIx (x :: us).length 0 (some ((1 : Nat) : Int)) = 1 := by
      rw [HT.sIx_nat, List.length_cons]
      omega
    show ((x :: us).drop (HT.sIx (x :: us).length 0 (some ((1 : Nat) : Int)))).take ((x :: us).length - HT.sIx (x :: us).length 0 (some ((1 : Nat) : Int))) = us
    rw [e1]
    simp
def EvZ (K : PySem.W.Frag) (ta : TA) (σ : L2.St) (H : Hp) (a : Addr) (xs : List V) : Prop := ∀ H1, Ex H H1 → ∀ Q : List V → Hp → Prop, (∀ b H2, Ex H1 H2 → ((SqL K H2 a xs ∧ SqL K H2 b (xs.drop 1)) ∨ (SqT K H2 a xs ∧ SqT K H2 b (xs.drop 1))) → Q [.ref a, .ref b] H2) → ta σ H1 Q
theorem ez_tail {te : TE} (h : Evl.Ev te σ H (.ref a)) (hx : SqL K H a xs ∨ SqT K H a xs) : EvZ K (tCons te (tCons (tSl (rSlS K) te (tPart (tC (.int 1))) tNoPart) tNil)) σ H a xs := fun H1 e Q q =>
  h H1 e _ fun H2 e2 => h H2 (e.trans e2) _ fun H3 e3 => by
    have eA := (e.trans e2).trans e3
    show ∃ i, _ ∧ _
    refine ⟨1, rfl, ?_⟩
    show rSlS K (.ref a) (some 1) none H3 _
    rcases hx with hx | hx
    · refine .inl ⟨a, xs, rfl, Evl.ex_l eA hx, fun p hp => q p _ ((e2.trans e3).trans (Ex.new hp)) (.inl ⟨Evl.ex_l (eA.trans (Ex.new hp)) hx, SqL.of (by rw [upd_same, cut_1])⟩)⟩
    · refine .inr ⟨a, xs, rfl, Evl.ex_t eA hx, fun hw => ?_, fun _ p hp => q p _ ((e2.trans e3).trans (Ex.new hp)) (.inr ⟨Evl.ex_t (eA.trans (Ex.new hp)) hx, SqT.of (by rw [upd_same, cut_1])⟩)⟩
      have e0 : xs = [] := by
        cases xs with
        | nil => rfl
        | cons x us =>
          have e1 : HT.sIx (x :: us).length 0 (some ((1 : Nat) : Int)) = 1 := by
            rw [HT.sIx_nat, List.length_cons]
            omega
          have := hw.1
          exact absurd (e1.symm.trans this) (by decide)
      subst e0
      exact q a H3 (e2.trans e3) (.inr ⟨Evl.ex_t eA hx, Evl.ex_t eA hx⟩)
theorem el_zip1 {ta : TA} {te : TE} {i1 i2 : Nat} {vs : List Nat} {v : Nat → V} (h : EvZ K ta σ H a xs) (hz : xs.length ≤ 40000)
    (hw : ∀ x y, wipe (((wipe σ vs).set i1 (some x)).set i2 (some y)) vs = wipe σ vs)
    (he : ∀ (i : Nat) (x y : V) H1, Ex H H1 → xs[i]? = some x → xs[i + 1]? = some y → Evl.Ev te (((wipe σ vs).set i1 (some x)).set i2 (some y)) H1 (v i)) :
    Evl.EvL (tLc (RZ.iZipA K ta) (gTup K 2 (gCons (gName i1) (gCons (gName i2) gNil))) tYes te vs) σ H ((List.range (xs.length - 1)).map v) := fun H0 e0 Q q => h H0 e0 _ fun b H1 e1 hx => by
  have turn : ∀ (Dl : Addr) (i : Nat) (x : V) (H2 H3 : Hp), i < xs.length - 1 → Cm H1 v Dl i H2 → YPair (fun i => xs[i]?) (fun i => (xs.drop 1)[i]?) i H2 x H3 → gTup K 2 (gCons (gName i1) (gCons (gName i2) gNil)) x (wipe σ vs) H3 fun σ2 H2 => wipe σ2 vs = wipe σ vs ∧ tYes σ2 H2 fun b H3 =>
      if b = true then te σ2 H3 fun y H4 => ∃ acc, H4 Dl = some (.lst acc) ∧ acc.length < sizeLine ∧ Cm H1 v Dl (i + 1) (upd H4 Dl (.lst (acc ++ [y]))) else Cm H1 v Dl (i + 1) H3 := by
    intro Dl i x H2 H3 hi p yp
    obtain ⟨T, u, w, rfl, hT, rfl, hu, hw'⟩ := yp
    have hw2 : xs[i + 1]? = some w := by
      rw [← hw']
      show _ = (xs.drop 1)[i]?
      rw [List.getElem?_drop, Nat.add_comm]
    refine ⟨T, [u, w], rfl, SqT.of upd_same, rfl, u, [w], rfl, w, [], rfl, rfl, hw u w, ?_⟩
    exact yes_lc (A := fun H3 => te ((List.set (wipe σ vs) i1 (some u)).set i2 (some w)) H3 fun y H4 => ∃ acc, H4 Dl = some (.lst acc) ∧ acc.length < sizeLine ∧ Cm H1 v Dl (i + 1) (upd H4 Dl (.lst (acc ++ [y])))) (B := fun H3 => Cm H1 v Dl (i + 1) H3) <| cm_turn p (by omega) _ (Ex.new hT) (he i u w _ (e0.trans e1) hu hw2)
  have hn : xs.length - 1 = min xs.length (xs.drop 1).length := by
    rw [List.length_drop]
    omega
  rcases hx with ⟨x1, x2⟩ | ⟨x1, x2⟩
  · refine ⟨a, b, xs, xs.drop 1, rfl, .inl ⟨x1, x2, fun Dl hD => ?_⟩⟩
    exact lc_it (walk_zip (n := xs.length - 1) hn) (Cm H1 v Dl) (cm_0 hD) (fun i H2 _ p => ⟨Evl.ex_l p.2.1 x1, Evl.ex_l p.2.1 x2⟩) (fun i x H2 H3 hi p y => turn Dl i x H2 H3 hi p y)
      (fun H2 p => q Dl H2 (Evl.fresh_back e1 p.1) (e1.trans p.2.1) p.2.2)
  · refine ⟨a, b, xs, xs.drop 1, rfl, .inr ⟨x1, x2, fun Dl hD => ?_⟩⟩
    exact lc_it (walk_zipT (n := xs.length - 1) hn) (Cm H1 v Dl) (cm_0 hD) (fun i H2 _ p => ⟨Evl.ex_t p.2.1 x1, Evl.ex_t p.2.1 x2⟩) (fun i x H2 H3 hi p y => turn Dl i x H2 H3 hi p y)
      (fun H2 p => q Dl H2 (Evl.fresh_back e1 p.1) (e1.trans p.2.1) p.2.2)
end
end U

set_option Elab.async false
set_option linter.all false
set_option maxRecDepth 100000
set_option maxHeartbeats 4000000
/-! has -/
namespace U
open PySem PySem.Spec PyProof.Rows L2
open Evl (Ex)
open C8 (Met Mak pe_mt pe_mt0 pe_mk)
abbrev s_is_integer_or_none : Stmt := top 10
abbrev sc_is_integer_or_none_N : List Str := ["thing"]
theorem sc_is_integer_or_none : FnScope sc_is_integer_or_none_N ["thing"] (defScope s_is_integer_or_none) := ⟨rfl, rfl, rfl, by decide +kernel, rfl, by decide +kernel, by decide +kernel⟩
abbrev s_is_form : Stmt := top 14
abbrev sc_is_form_N : List Str := ["thing", "word", "many"]
theorem sc_is_form : FnScope sc_is_form_N ["thing", "word", "many"] (defScope s_is_form) := ⟨rfl, rfl, rfl, by decide +kernel, rfl, by decide +kernel, by decide +kernel⟩
abbrev s_is_row_of_bounds : Stmt := top 27
abbrev sc_is_row_of_bounds_N : List Str := ["thing", "many", "bound"]
theorem sc_is_row_of_bounds : FnScope sc_is_row_of_bounds_N ["thing", "many"] (defScope s_is_row_of_bounds) := ⟨rfl, rfl, rfl, by decide +kernel, rfl, by decide +kernel, by decide +kernel⟩
abbrev s_Halves_has : Stmt := inClass (top 19) 1
abbrev sc_Halves_has_N : List Str := ["self", "thing"]
theorem sc_Halves_has : FnScope sc_Halves_has_N ["self", "thing"] (defScope s_Halves_has) := ⟨rfl, rfl, rfl, by decide +kernel, rfl, by decide +kernel, by decide +kernel⟩
abbrev s_Boxes_has : Stmt := inClass (top 20) 1
abbrev sc_Boxes_has_N : List Str := ["self", "thing", "pair"]
theorem sc_Boxes_has : FnScope sc_Boxes_has_N ["self", "thing"] (defScope s_Boxes_has) := ⟨rfl, rfl, rfl, by decide +kernel, rfl, by decide +kernel, by decide +kernel⟩
abbrev s_Rising_has : Stmt := inClass (top 21) 1
abbrev sc_Rising_has_N : List Str := ["self", "thing", "corner"]
theorem sc_Rising_has : FnScope sc_Rising_has_N ["self", "thing"] (defScope s_Rising_has) := ⟨rfl, rfl, rfl, by decide +kernel, rfl, by decide +kernel, by decide +kernel⟩
abbrev s_Flats_has : Stmt := inClass (top 22) 1
abbrev sc_Flats_has_N : List Str := ["self", "thing", "point"]
theorem sc_Flats_has : FnScope sc_Flats_has_N ["self", "thing"] (defScope s_Flats_has) := ⟨rfl, rfl, rfl, by decide +kernel, rfl, by decide +kernel, by decide +kernel⟩
abbrev s_Turns_has : Stmt := inClass (top 23) 1
abbrev sc_Turns_has_N : List Str := ["self", "thing", "changes", "change", "one", "other"]
theorem sc_Turns_has : FnScope sc_Turns_has_N ["self", "thing"] (defScope s_Turns_has) := ⟨rfl, rfl, rfl, by decide +kernel, rfl, by decide +kernel, by decide +kernel⟩
abbrev s_Contrary_has : Stmt := inClass (top 24) 1
abbrev sc_Contrary_has_N : List Str := ["self", "thing"]
theorem sc_Contrary_has : FnScope sc_Contrary_has_N ["self", "thing"] (defScope s_Contrary_has) := ⟨rfl, rfl, rfl, by decide +kernel, rfl, by decide +kernel, by decide +kernel⟩
abbrev s_Pair_has : Stmt := inClass (top 25) 1
abbrev sc_Pair_has_N : List Str := ["self", "thing"]
theorem sc_Pair_has : FnScope sc_Pair_has_N ["self", "thing"] (defScope s_Pair_has) := ⟨rfl, rfl, rfl, by decide +kernel, rfl, by decide +kernel, by decide +kernel⟩
def entries : PyData → List PyData
  | .list ds => ds
  | .tuple ds => ds
  | _ => []
def el (d : PyData) (i : Nat) : PyData := (entries d).getD i .none
def allD (f : PyData → Bool) (d : PyData) : Bool := (entries d).all f
def isNon : PyData → Bool
  | .none => true
  | _ => false
def isNI : PyData → Bool
  | .none => true
  | .int _ => true
  | _ => false
def isB (p : Int) (d : PyData) : Bool := isO p d && allD isNI d
def isF (w : Str) (p : Int) (d : PyData) : Bool := isO p d && isS (el d 0) w
def valI : PyData → Int
  | .int i => i
  | _ => 0
def ascD : List PyData → Bool
  | a :: b :: r => decide (valI a < valI b) && ascD (b :: r)
  | _ => true
def hasK : Kd → PyData → Bool
  | .halves p, d => isF "half" 3 d && (isP p (el d 1) && isI (el d 2))
  | .boxes p, d => isF "box" 2 d && isO p (el d 1) && allD (isB 2) (el d 1)
  | .rising p, d => isF "rise" 2 d && isR (el d 1) && allD (isB p) (el d 1)
  | .flats p, d => isF "flat" 2 d && isR (el d 1) && allD (isP p) (el d 1)
  | .turns m, d => isF "turns" 3 d && isL (el d 1) && isR (el d 2) && decide (((entries (el d 2)).length : Int) ≤ m) && allD isI (el d 2) && ascD (entries (el d 2))
  | .no k, d => isF "not" 2 d && hasK k (el d 1)
  | .both k m, d => isF "both" 3 d && (hasK k (el d 1) && hasK m (el d 2))
  | .either k m, d => isF "either" 3 d && (hasK k (el d 1) && hasK m (el d 2))
  | .any k m, d => (isF "first" 2 d && hasK k (el d 1)) || (isF "second" 2 d && hasK m (el d 1))
def spF (K : PySem.W.Frag) : Sp := fun vs H Q _ => ∃ v d z p, vs = [v, .str z, .int p] ∧ 1 ≤ p ∧ Dq K H v d ∧ (∃ n, fits n d) ∧ ∀ H', Ex H H' → Q (.bl (isF z p d)) H'
section
variable {K : PySem.W.Frag} {H : Hp}
/-- a list or a tuple, and its entries -/
theorem seq_of {v : V} {d : PyData} (hd : Dq K H v d) (h : isR d = true) (hw : ∃ n, fits n d) : ∃ a xs, v = .ref a ∧ (SqL K H a xs ∨ SqT K H a xs) ∧ DqAll K H xs (entries d) ∧ (entries d).length ≤ 40000 ∧ ∀ x ∈ entries d, ∃ n, fits n x := by
  cases d with
  | list ds =>
    cases hd with
    | lst hs ha => exact ⟨_, _, rfl, .inl hs, ha, fits_len (.inl hw), fun x hx => fits_in (.inl hw) hx⟩
  | tuple ds =>
    cases hd with
    | tup hs ha => exact ⟨_, _, rfl, .inr hs, ha, fits_len (.inr hw), fun x hx => fits_in (.inr hw) hx⟩
  | _ => cases h
theorem isO_R {p : Int} {d : PyData} (h : isO p d = true) : isR d = true ∧ ((entries d).length : Int) = p := by
  cases d with
  | list ds => exact ⟨rfl, of_decide_eq_true h⟩
  | tuple ds => exact ⟨rfl, of_decide_eq_true h⟩
  | _ => cases h
theorem dqa_at : ∀ {vs : List V} {ds : List PyData} {i : Nat}, DqAll K H vs ds → i < ds.length → ∃ v, vs[i]? = some v ∧ Dq K H v (ds.getD i .none)
  | _, _, _, .nil, h => absurd h (Nat.not_lt_zero _)
  | _, _, 0, .cons r _, _ => ⟨_, rfl, r⟩
  | _, _, i + 1, .cons _ t, h => by
    obtain ⟨v, h1, h2⟩ := dqa_at (i := i) t (Nat.lt_of_succ_lt_succ h)
    exact ⟨v, by simpa using h1, by simpa using h2⟩
/-- an entry -/
theorem ev_at {σ : L2.St} {te : TE} {v : V} {d : PyData} {n : Nat} (h : Evl.Ev te σ H v) (hd : Dq K H v d) (hr : isR d = true) (hw : ∃ n, fits n d) (hn : n < (entries d).length) : ∃ y, Evl.Ev (tOp (rIxA K) te (tC (.int (n : Int)))) σ H y ∧ Dq K H y (el d n) ∧ ∃ m, fits m (el d n) := by
  obtain ⟨a, xs, rfl, hx, ha, hz, hf⟩ := seq_of hd hr hw
  obtain ⟨y, hy, dy⟩ := dqa_at ha hn
  refine ⟨y, ev_ixA h hx ?_, dy, hf _ ?_⟩
  · show atI xs (n : Int) = some y
    have lt : n < xs.length := by rw [dqa_len ha]; exact hn
    have e : ixN xs.length (n : Int) = some n := by
      unfold ixN
      rw [if_pos (by omega), if_pos (by omega)]
      simp
    simp [atI, e, hy]
  · show (entries d).getD n .none ∈ entries d
    rw [List.getD_eq_getElem?_getD, List.getElem?_eq_getElem hn]
    exact List.getElem_mem hn
end
section
variable {P : Program} {w : World} {K : PySem.W.Frag} {mg : Str → Option Value} {base : Heap} {c : KC}
theorem ok_is_integer_or_none {f : Addr} {fd : FuncData} (F : Fun K "is_integer_or_none" "is_integer_or_none" s_is_integer_or_none f fd) (T : TxF mg) (D_is_integer : DefAt P w K mg base "is_integer" 1 ["thing"] (spB K isI)) : FnOk P w K mg base CX0 2 f fd ["thing"] (spB K isNI) := by
  refine F.ok sc_is_integer_or_none (fun vs H Q E h => ?_) (fun cdv A outer s H vs Q E hr h => ?_)
  · obtain ⟨_, _, rfl, _⟩ := h
    rfl
  · obtain ⟨v, d, rfl, hd, k⟩ := h
    refine ⟨_, (pss_one (ps_ret (pe_or (pe_cmp (pc_isN (pv 0)) rfl) (pe_one (pe_callD D_is_integer (by first | exact hr | exact hr.mono (by decide) | exact hr.mono (by omega)) (by rfl) (pa_cons (pv 0) pa_nil)))))), ?_⟩
    have v0 : ∀ H1, Evl.Ev (tVar 0) (start sc_is_integer_or_none_N [v]) H1 v := fun H1 => Evl.ev_var rfl
    have e : decide (v = .non) = isNon d := by
      cases hd <;> simp [isNon]
    refine Evl.s_ret (v := .bl (isNI d)) (Evl.ev_is (Evl.ev_orV (a := isNon d) (b := isI d) (fun H1 e1 Q q => v0 H H1 e1 _ fun H2 e2 => by
      rw [e]
      exact q H2 e2) fun _ => ev_spBq (v0 H) hd) (congrArg V.bl ?_)) k
    cases d <;> rfl
theorem ok_is_form {f : Addr} {fd : FuncData} (F : Fun K "is_form" "is_form" s_is_form f fd) (T : TxF mg) (D_is_row_of : DefAt P w K mg base "is_row_of" 2 ["thing", "many"] (spBp K isO)) : FnOk P w K mg base CX0 3 f fd ["thing", "word", "many"] (spF K) := by
  refine F.ok sc_is_form (fun vs H Q E h => ?_) (fun cdv A outer s H vs Q E hr h => ?_)
  · obtain ⟨_, _, _, _, rfl, _⟩ := h
    rfl
  · obtain ⟨v, d, z, p, rfl, hp, hd, hw, k⟩ := h
    refine ⟨_, (pss_one (ps_ret (pe_and (pe_callD D_is_row_of (by first | exact hr | exact hr.mono (by decide) | exact hr.mono (by omega)) (by rfl) (pa_cons (pv 0) (pa_cons (pv 2) pa_nil))) (pe_one (pe_cmpR (op_eqS (Nat.lt_of_le_of_lt (Nat.le_add_right _ 64) hr.units)) (pe_ix ix_seq (pv 0) pe_int (fun _ _ => rfl)) (pv 1) (nomark _)))))), ?_⟩
    have v0 : Evl.Ev (tVar 0) (start sc_is_form_N [v, .str z, .int p]) H v := Evl.ev_var rfl
    have v1 : Evl.Ev (tVar 1) (start sc_is_form_N [v, .str z, .int p]) H (.str z) := Evl.ev_var rfl
    have v2 : Evl.Ev (tVar 2) (start sc_is_form_N [v, .str z, .int p]) H (.int p) := Evl.ev_var rfl
    refine Evl.s_ret (v := .bl (isF z p d)) (Evl.ev_andV (a := isO p d) (b := isS (el d 0) z) (ev_spBpq v0 v2 hd hw) fun hz => ?_) k
    obtain ⟨r, l⟩ := isO_R hz
    obtain ⟨y, ey, dy, _⟩ := ev_at (n := 0) v0 hd r hw (by omega)
    exact Evl.ev_op ey v1 fun H1 e1 Q q => ⟨_, z, dy.up e1, rfl, q H1 (Ex.refl _)⟩
theorem ok_is_row_of_bounds {f : Addr} {fd : FuncData} (F : Fun K "_is_row_of_bounds" "_is_row_of_bounds" s_is_row_of_bounds f fd) (T : TxF mg) (D_is_integer_or_none : DefAt P w K mg base "is_integer_or_none" 2 ["thing"] (spB K isNI)) (D_is_row_of : DefAt P w K mg base "is_row_of" 2 ["thing", "many"] (spBp K isO)) : FnOk P w K mg base CX0 3 f fd ["thing", "many"] (spBp K isB) := by
  refine F.ok sc_is_row_of_bounds (fun vs H Q E h => ?_) (fun cdv A outer s H vs Q E hr h => ?_)
  · obtain ⟨_, _, _, rfl, _⟩ := h
    rfl
  · obtain ⟨v, d, p, rfl, hd, hw, k⟩ := h
    refine ⟨_, (pss_one (ps_ret (pe_and (pe_callD D_is_row_of (by first | exact hr | exact hr.mono (by decide) | exact hr.mono (by omega)) (by rfl) (pa_cons (pv 0) (pa_cons (pv 1) pa_nil))) (pe_one (pe_callB (cr_all rfl) (by rfl) T.m_all (by decide +kernel) (pa_cons (pe_lc (own := [("bound", 2)]) (g := gName 2) (tt := tYes) (by rfl) sc_is_row_of_bounds.nd (pi_seq (pv 0)) (blkOk_by (N := sc_is_row_of_bounds_N) (sc := defScope s_is_row_of_bounds) (by decide +kernel)) (fun _ _ _ _ _ => (pg_name (i := 2) sc_is_row_of_bounds.nd rfl (by first | exact Or.inl rfl | exact Or.inr rfl))) (fun _ _ _ _ _ => pts_nil) (fun _ _ _ _ _ => (pe_callD D_is_integer_or_none (by first | exact hr | exact hr.mono (by decide) | exact hr.mono (by omega)) (by rfl) (pa_cons (pv 2) pa_nil)))) pa_nil)))))), ?_⟩
    have v0 : Evl.Ev (tVar 0) (start sc_is_row_of_bounds_N [v, .int p]) H v := Evl.ev_var rfl
    have v1 : Evl.Ev (tVar 1) (start sc_is_row_of_bounds_N [v, .int p]) H (.int p) := Evl.ev_var rfl
    refine Evl.s_ret (v := .bl (isB p d)) (Evl.ev_andV (a := isO p d) (b := allD isNI d) (ev_spBpq v0 v1 hd hw) fun z => ?_) k
    obtain ⟨a, xs, rfl, hx, ha, hl, _⟩ := seq_of hd (isO_R z).1 hw
    refine Evl.ev_is (ev_all (bs := (entries d).map isNI) ?_) (congrArg V.bl (by simp [allD]))
    exact el_seqBq v0 hx ha hl (fun _ => rfl) (fun x d H1 _ e1 hd' => ev_spBq (Evl.ev_var rfl) hd')
/-- has of a kind at an instance of its class -/
def spHas (K : PySem.W.Frag) (c : KC) (n : Nat) (i : KI) : Sp := fun vs H Q _ => ∃ x v k d, vs = [.ref x, v] ∧ Kin c H k x ∧ kiOf k = i ∧ depK k ≤ n ∧ Dq K H v d ∧ (∃ m, fits m d) ∧ ∀ H', Ex H H' → Q (.bl (hasK k d)) H'
theorem ev_spF {σ : L2.St} {H : Hp} {te : TE} {v : V} {d : PyData} {z : Str} {p : Int} (h : Evl.Ev te σ H v) (hp : 1 ≤ p) (hd : Dq K H v d) (hw : ∃ n, fits n d) : Evl.Ev (tCallD (spF K) (tCons te (tCons (tC (.str z)) (tCons (tC (.int p)) tNil)))) σ H (.bl (isF z p d)) :=
  ev_callD (Evl.ea_cons h (Evl.ea_cons Evl.ev_c (Evl.ea_cons Evl.ev_c Evl.ea_nil))) fun H1 e1 Q q => ⟨v, d, z, p, rfl, hp, hd.up e1, hw, q⟩
theorem isF_R {w : Str} {p : Int} {d : PyData} (h : isF w p d = true) : isR d = true ∧ ((entries d).length : Int) = p := isO_R (Bool.and_eq_true_iff.mp h).1
/-- all entries are so -/
theorem ev_allQ {σ : L2.St} {H : Hp} {tl te : TE} {v : V} {d : PyData} {f : PyData → Bool} {j : Nat} {vs : List Nat} (h : Evl.Ev tl σ H v) (hd : Dq K H v d) (hr : isR d = true) (hw : ∃ n, fits n d) (hs : ∀ x, wipe ((wipe σ vs).set j (some x)) vs = wipe σ vs)
    (he : ∀ (x : V) e H1, (∃ n, fits n e) → Ex H H1 → Dq K H1 x e → Evl.Ev te ((wipe σ vs).set j (some x)) H1 (.bl (f e))) : Evl.Ev (tCB (rAll K) (tCons (tLc (iSeq K tl) (gName j) tYes te vs) tNil)) σ H (.bl (allD f d)) := by
  obtain ⟨a, xs, rfl, hx, ha, hl, hf⟩ := seq_of hd hr hw
  exact Evl.ev_is (ev_all (bs := (entries d).map f) (el_seqBq h hx ha hl hs fun x e H1 m e1 hd' => he x e H1 (hf e m) e1 hd')) (congrArg V.bl (by simp [allD]))
theorem ok_Halves_has {f : Addr} {fd : FuncData} (F : Fun K "has" "Halves.has" s_Halves_has f fd) (T : TxK mg) (S : KCl K c) (D_is_form : DefAt P w K mg base "is_form" 3 ["thing", "word", "many"] (spF K)) (D_is_point : DefAt P w K mg base "is_point" 3 ["thing", "places"] (spBp K isP)) (D_is_integer : DefAt P w K mg base "is_integer" 1 ["thing"] (spB K isI)) (n : Nat) : FnOk P w K mg base CX0 4 f fd ["self", "thing"] (spHas K c n .ha) := by
  refine F.ok sc_Halves_has (fun vs H Q E h => ?_) (fun cdv A outer s H vs Q E hr h => ?_)
  · obtain ⟨_, _, _, _, rfl, _⟩ := h
    rfl
  · obtain ⟨x, v, k, d, rfl, hk, hi, _, hd, hw, kk⟩ := h
    cases k with
    | halves p =>
      obtain ⟨dx, hx⟩ := hk
      refine ⟨_, (pss_one (ps_ret (pe_and (pe_callD D_is_form (by first | exact hr | exact hr.mono (by decide) | exact hr.mono (by omega)) (by rfl) (pa_cons (pv 1) (pa_cons pe_str (pa_cons pe_int pa_nil)))) (pe_and (pe_callD D_is_point (by first | exact hr | exact hr.mono (by decide) | exact hr.mono (by omega)) (by rfl) (pa_cons (pe_ix ix_seq (pv 1) pe_int (fun _ _ => rfl)) (pa_cons (pe_fld (pv 0) rfl) pa_nil))) (pe_one (pe_callD D_is_integer (by first | exact hr | exact hr.mono (by decide) | exact hr.mono (by omega)) (by rfl) (pa_cons (pe_ix ix_seq (pv 1) pe_int (fun _ _ => rfl)) pa_nil))))))), ?_⟩
      have v0 : ∀ H1, Evl.Ev (tVar 0) (start sc_Halves_has_N [.ref x, v]) H1 (.ref x) := fun H1 => Evl.ev_var rfl
      have v1 : ∀ H1, Evl.Ev (tVar 1) (start sc_Halves_has_N [.ref x, v]) H1 v := fun H1 => Evl.ev_var rfl
      refine Evl.s_ret (v := .bl (hasK (.halves p) d)) (Evl.ev_andV (a := isF "half" 3 d) (b := isP p (el d 1) && isI (el d 2)) (ev_spF (v1 H) (by decide) hd hw) fun z => ?_) kk
      obtain ⟨r, l⟩ := isF_R z
      obtain ⟨y, ey, dy, wy⟩ := ev_at (n := 1) (v1 H) hd r hw (by omega)
      obtain ⟨u, eu, du, wu⟩ := ev_at (n := 2) (v1 H) hd r hw (by omega)
      exact Evl.ev_andV (a := isP p (el d 1)) (b := isI (el d 2)) (ev_spBpq ey (ev_fld (v0 H) hx (S.cl _) (S.na _ _ (by decide)) (v := .int p) rfl) dy wy) fun _ => ev_spBq eu du
    | _ => cases hi
theorem ok_Boxes_has {f : Addr} {fd : FuncData} (F : Fun K "has" "Boxes.has" s_Boxes_has f fd) (T : TxK mg) (S : KCl K c) (D_is_form : DefAt P w K mg base "is_form" 3 ["thing", "word", "many"] (spF K)) (D_is_row_of : DefAt P w K mg base "is_row_of" 2 ["thing", "many"] (spBp K isO)) (D_is_row_of_bounds : DefAt P w K mg base "_is_row_of_bounds" 3 ["thing", "many"] (spBp K isB)) (n : Nat) : FnOk P w K mg base CX0 4 f fd ["self", "thing"] (spHas K c n .bo) := by
  refine F.ok sc_Boxes_has (fun vs H Q E h => ?_) (fun cdv A outer s H vs Q E hr h => ?_)
  · obtain ⟨_, _, _, _, rfl, _⟩ := h
    rfl
  · obtain ⟨x, v, k, d, rfl, hk, hi, _, hd, hw, kk⟩ := h
    cases k with
    | boxes p =>
      obtain ⟨dx, hx⟩ := hk
      refine ⟨_, (pss_cons (ps_if (PW.pt (pw_or (pt_not (pt_val (pe_callD D_is_form (by first | exact hr | exact hr.mono (by decide) | exact hr.mono (by omega)) (by rfl) (pa_cons (pv 1) (pa_cons pe_str (pa_cons pe_int pa_nil)))))) (pw_or1 (pt_not (pt_val (pe_callD D_is_row_of (by first | exact hr | exact hr.mono (by decide) | exact hr.mono (by omega)) (by rfl) (pa_cons (pe_ix ix_seq (pv 1) pe_int (fun _ _ => rfl)) (pa_cons (pe_fld (pv 0) rfl) pa_nil)))))))) (pss_one (ps_ret pe_bl)) pss_nil)
    (pss_one (ps_ret (pe_callB (cr_all rfl) (by rfl) T.m_all (by decide +kernel) (pa_cons (pe_lc (own := [("pair", 2)]) (g := gName 2) (tt := tYes) (by rfl) sc_Boxes_has.nd (pi_seq (pe_ix ix_seq (pv 1) pe_int (fun _ _ => rfl))) (blkOk_by (N := sc_Boxes_has_N) (sc := defScope s_Boxes_has) (by decide +kernel)) (fun _ _ _ _ _ => (pg_name (i := 2) sc_Boxes_has.nd rfl (by first | exact Or.inl rfl | exact Or.inr rfl))) (fun _ _ _ _ _ => pts_nil) (fun _ _ _ _ _ => (pe_callD D_is_row_of_bounds (by first | exact hr | exact hr.mono (by decide) | exact hr.mono (by omega)) (by rfl) (pa_cons (pv 2) (pa_cons pe_int pa_nil))))) pa_nil))))), ?_⟩
      have v0 : ∀ H1, Evl.Ev (tVar 0) (start sc_Boxes_has_N [.ref x, v]) H1 (.ref x) := fun H1 => Evl.ev_var rfl
      have v1 : ∀ H1, Evl.Ev (tVar 1) (start sc_Boxes_has_N [.ref x, v]) H1 v := fun H1 => Evl.ev_var rfl
      have v2 : ∀ (σ : L2.St) (y : V) H1, σ[2]? = some (some y) → Evl.Ev (tVar 2) σ H1 y := fun σ y H1 h => Evl.ev_var h
      have rest : ∀ H1, Ex H H1 → isF "box" 2 d = true → isO p (el d 1) = true → tRet (tCB (rAll K) (tCons (tLc (iSeq K (tOp (rIxA K) (tVar 1) (tC (.int 1)))) (gName 2) tYes (tCallD (spBp K isB) (tCons (tVar 2) (tCons (tC (.int 2)) tNil))) [2]) tNil)) { nx := fun x H' => Q V.non H', rt := Q } (start sc_Boxes_has_N [.ref x, v]) H1 := by
        intro H1 e1 z1 z2
        obtain ⟨r, l⟩ := isF_R z1
        obtain ⟨y, ey, dy, wy⟩ := ev_at (n := 1) (v1 H1) (hd.up e1) r hw (by omega)
        refine Evl.s_ret (v := .bl (hasK (.boxes p) d)) (Evl.ev_is (ev_allQ (f := isB 2) ey dy (isO_R z2).1 wy (fun _ => rfl) fun x e H2 we e2 hd' => ev_spBpq (Evl.ev_var rfl) Evl.ev_c hd' we) (congrArg V.bl ?_)) fun H2 e2 => kk H2 (e1.trans e2)
        simp [hasK, z1, z2]
      refine Evl.q_when (b := !isF "box" 2 d || !isO p (el d 1)) (Evl.et_or (Evl.et_not (Evl.et_test (ev_spF (v1 H) (by decide) hd hw))) fun z => ?_) (fun z H1 e1 => ?_) (fun z H1 e1 => ?_)
      · have z1 : isF "box" 2 d = true := by simpa using z
        obtain ⟨r, l⟩ := isF_R z1
        obtain ⟨y, ey, dy, wy⟩ := ev_at (n := 1) (v1 H) hd r hw (by omega)
        exact Evl.et_not (Evl.et_test (ev_spBpq ey (ev_fld (v0 H) hx (S.cl _) (S.na _ _ (by decide)) (v := .int p) rfl) dy wy))
      · refine Evl.s_ret (v := .bl (hasK (.boxes p) d)) (Evl.ev_is Evl.ev_c (congrArg V.bl ?_)) fun H2 e2 => kk H2 (e1.trans e2)
        rcases Bool.or_eq_true_iff.mp z with z | z
        · have z1 : isF "box" 2 d = false := by simpa using z
          simp [hasK, z1]
        · have z1 : isO p (el d 1) = false := by simpa using z
          simp [hasK, z1]
      · have z' : isF "box" 2 d = true ∧ isO p (el d 1) = true := by simpa using z
        exact rest H1 e1 z'.1 z'.2
    | _ => cases hi
theorem ok_Rising_has {f : Addr} {fd : FuncData} (F : Fun K "has" "Rising.has" s_Rising_has f fd) (T : TxK mg) (S : KCl K c) (D_is_form : DefAt P w K mg base "is_form" 3 ["thing", "word", "many"] (spF K)) (D_is_row : DefAt P w K mg base "is_row" 1 ["thing"] (spB K isR)) (D_is_row_of_bounds : DefAt P w K mg base "_is_row_of_bounds" 3 ["thing", "many"] (spBp K isB)) (n : Nat) : FnOk P w K mg base CX0 4 f fd ["self", "thing"] (spHas K c n .ri) := by
  refine F.ok sc_Rising_has (fun vs H Q E h => ?_) (fun cdv A outer s H vs Q E hr h => ?_)
  · obtain ⟨_, _, _, _, rfl, _⟩ := h
    rfl
  · obtain ⟨x, v, k, d, rfl, hk, hi, _, hd, hw, kk⟩ := h
    cases k with
    | rising p =>
      obtain ⟨dx, hx⟩ := hk
      refine ⟨_, (pss_cons (ps_if (PW.pt (pw_or (pt_not (pt_val (pe_callD D_is_form (by first | exact hr | exact hr.mono (by decide) | exact hr.mono (by omega)) (by rfl) (pa_cons (pv 1) (pa_cons pe_str (pa_cons pe_int pa_nil)))))) (pw_or1 (pt_not (pt_val (pe_callD D_is_row (by first | exact hr | exact hr.mono (by decide) | exact hr.mono (by omega)) (by rfl) (pa_cons (pe_ix ix_seq (pv 1) pe_int (fun _ _ => rfl)) pa_nil))))))) (pss_one (ps_ret pe_bl)) pss_nil)
    (pss_one (ps_ret (pe_callB (cr_all rfl) (by rfl) T.m_all (by decide +kernel) (pa_cons (pe_lc (own := [("corner", 2)]) (g := gName 2) (tt := tYes) (te := tCallD (spBp K isB) (tCons (tVar 2) (tCons (tFld K (tVar 0) "places") tNil))) (by rfl) sc_Rising_has.nd (pi_seq (pe_ix ix_seq (pv 1) pe_int (fun _ _ => rfl))) (blkOk_by (N := sc_Rising_has_N) (sc := defScope s_Rising_has) (by decide +kernel)) (fun _ _ _ _ _ => (pg_name (i := 2) sc_Rising_has.nd rfl (by first | exact Or.inl rfl | exact Or.inr rfl))) (fun _ _ _ _ _ => pts_nil) (fun _ _ _ _ _ => (pe_callD D_is_row_of_bounds (by first | exact hr | exact hr.mono (by decide) | exact hr.mono (by omega)) (by rfl) (pa_cons (pv 2) (pa_cons (pe_fld (pv 0) rfl) pa_nil))))) pa_nil))))), ?_⟩
      have v0 : ∀ H1, Evl.Ev (tVar 0) (start sc_Rising_has_N [.ref x, v]) H1 (.ref x) := fun H1 => Evl.ev_var rfl
      have v1 : ∀ H1, Evl.Ev (tVar 1) (start sc_Rising_has_N [.ref x, v]) H1 v := fun H1 => Evl.ev_var rfl
      have v2 : ∀ (σ : L2.St) (y : V) H1, σ[2]? = some (some y) → Evl.Ev (tVar 2) σ H1 y := fun σ y H1 h => Evl.ev_var h
      have rest : ∀ H1, Ex H H1 → isF "rise" 2 d = true → isR (el d 1) = true → tRet (tCB (rAll K) (tCons (tLc (iSeq K (tOp (rIxA K) (tVar 1) (tC (.int 1)))) (gName 2) tYes (tCallD (spBp K isB) (tCons (tVar 2) (tCons (tFld K (tVar 0) "places") tNil))) [2]) tNil)) { nx := fun x H' => Q V.non H', rt := Q } (start sc_Rising_has_N [.ref x, v]) H1 := by
        intro H1 e1 z1 z2
        obtain ⟨r, l⟩ := isF_R z1
        obtain ⟨y, ey, dy, wy⟩ := ev_at (n := 1) (v1 H1) (hd.up e1) r hw (by omega)
        refine Evl.s_ret (v := .bl (hasK (.rising p) d)) (Evl.ev_is (ev_allQ (f := isB p) ey dy z2 wy (fun _ => rfl) fun x e H2 we e2 hd' => ev_spBpq (Evl.ev_var rfl) (ev_fld (Evl.ev_var rfl) (e2 _ _ (e1 _ _ hx)) (S.cl _) (S.na _ _ (by decide)) (v := .int p) rfl) hd' we) (congrArg V.bl ?_)) fun H2 e2 => kk H2 (e1.trans e2)
        simp [hasK, z1, z2]
      refine Evl.q_when (b := !isF "rise" 2 d || !isR (el d 1)) (Evl.et_or (Evl.et_not (Evl.et_test (ev_spF (v1 H) (by decide) hd hw))) fun z => ?_) (fun z H1 e1 => ?_) (fun z H1 e1 => ?_)
      · have z1 : isF "rise" 2 d = true := by simpa using z
        obtain ⟨r, l⟩ := isF_R z1
        obtain ⟨y, ey, dy, wy⟩ := ev_at (n := 1) (v1 H) hd r hw (by omega)
        exact Evl.et_not (Evl.et_test (ev_spBq ey dy))
      · refine Evl.s_ret (v := .bl (hasK (.rising p) d)) (Evl.ev_is Evl.ev_c (congrArg V.bl ?_)) fun H2 e2 => kk H2 (e1.trans e2)
        rcases Bool.or_eq_true_iff.mp z with z | z
        · have z1 : isF "rise" 2 d = false := by simpa using z
          simp [hasK, z1]
        · have z1 : isR (el d 1) = false := by simpa using z
          simp [hasK, z1]
      · have z' : isF "rise" 2 d = true ∧ isR (el d 1) = true := by simpa using z
        exact rest H1 e1 z'.1 z'.2
    | _ => cases hi
theorem ok_Flats_has {f : Addr} {fd : FuncData} (F : Fun K "has" "Flats.has" s_Flats_has f fd) (T : TxK mg) (S : KCl K c) (D_is_form : DefAt P w K mg base "is_form" 3 ["thing", "word", "many"] (spF K)) (D_is_row : DefAt P w K mg base "is_row" 1 ["thing"] (spB K isR)) (D_is_point : DefAt P w K mg base "is_point" 3 ["thing", "places"] (spBp K isP)) (n : Nat) : FnOk P w K mg base CX0 4 f fd ["self", "thing"] (spHas K c n .fl) := by
  refine F.ok sc_Flats_has (fun vs H Q E h => ?_) (fun cdv A outer s H vs Q E hr h => ?_)
  · obtain ⟨_, _, _, _, rfl, _⟩ := h
    rfl
  · obtain ⟨x, v, k, d, rfl, hk, hi, _, hd, hw, kk⟩ := h
    cases k with
    | flats p =>
      obtain ⟨dx, hx⟩ := hk
      refine ⟨_, (pss_cons (ps_if (PW.pt (pw_or (pt_not (pt_val (pe_callD D_is_form (by first | exact hr | exact hr.mono (by decide) | exact hr.mono (by omega)) (by rfl) (pa_cons (pv 1) (pa_cons pe_str (pa_cons pe_int pa_nil)))))) (pw_or1 (pt_not (pt_val (pe_callD D_is_row (by first | exact hr | exact hr.mono (by decide) | exact hr.mono (by omega)) (by rfl) (pa_cons (pe_ix ix_seq (pv 1) pe_int (fun _ _ => rfl)) pa_nil))))))) (pss_one (ps_ret pe_bl)) pss_nil)
    (pss_one (ps_ret (pe_callB (cr_all rfl) (by rfl) T.m_all (by decide +kernel) (pa_cons (pe_lc (own := [("point", 2)]) (g := gName 2) (tt := tYes) (te := tCallD (spBp K isP) (tCons (tVar 2) (tCons (tFld K (tVar 0) "places") tNil))) (by rfl) sc_Flats_has.nd (pi_seq (pe_ix ix_seq (pv 1) pe_int (fun _ _ => rfl))) (blkOk_by (N := sc_Flats_has_N) (sc := defScope s_Flats_has) (by decide +kernel)) (fun _ _ _ _ _ => (pg_name (i := 2) sc_Flats_has.nd rfl (by first | exact Or.inl rfl | exact Or.inr rfl))) (fun _ _ _ _ _ => pts_nil) (fun _ _ _ _ _ => (pe_callD D_is_point (by first | exact hr | exact hr.mono (by decide) | exact hr.mono (by omega)) (by rfl) (pa_cons (pv 2) (pa_cons (pe_fld (pv 0) rfl) pa_nil))))) pa_nil))))), ?_⟩
      have v0 : ∀ H1, Evl.Ev (tVar 0) (start sc_Flats_has_N [.ref x, v]) H1 (.ref x) := fun H1 => Evl.ev_var rfl
      have v1 : ∀ H1, Evl.Ev (tVar 1) (start sc_Flats_has_N [.ref x, v]) H1 v := fun H1 => Evl.ev_var rfl
      have v2 : ∀ (σ : L2.St) (y : V) H1, σ[2]? = some (some y) → Evl.Ev (tVar 2) σ H1 y := fun σ y H1 h => Evl.ev_var h
      have rest : ∀ H1, Ex H H1 → isF "flat" 2 d = true → isR (el d 1) = true → tRet (tCB (rAll K) (tCons (tLc (iSeq K (tOp (rIxA K) (tVar 1) (tC (.int 1)))) (gName 2) tYes (tCallD (spBp K isP) (tCons (tVar 2) (tCons (tFld K (tVar 0) "places") tNil))) [2]) tNil)) { nx := fun x H' => Q V.non H', rt := Q } (start sc_Flats_has_N [.ref x, v]) H1 := by
        intro H1 e1 z1 z2
        obtain ⟨r, l⟩ := isF_R z1
        obtain ⟨y, ey, dy, wy⟩ := ev_at (n := 1) (v1 H1) (hd.up e1) r hw (by omega)
        refine Evl.s_ret (v := .bl (hasK (.flats p) d)) (Evl.ev_is (ev_allQ (f := isP p) ey dy z2 wy (fun _ => rfl) fun x e H2 we e2 hd' => ev_spBpq (Evl.ev_var rfl) (ev_fld (Evl.ev_var rfl) (e2 _ _ (e1 _ _ hx)) (S.cl _) (S.na _ _ (by decide)) (v := .int p) rfl) hd' we) (congrArg V.bl ?_)) fun H2 e2 => kk H2 (e1.trans e2)
        simp [hasK, z1, z2]
      refine Evl.q_when (b := !isF "flat" 2 d || !isR (el d 1)) (Evl.et_or (Evl.et_not (Evl.et_test (ev_spF (v1 H) (by decide) hd hw))) fun z => ?_) (fun z H1 e1 => ?_) (fun z H1 e1 => ?_)
      · have z1 : isF "flat" 2 d = true := by simpa using z
        obtain ⟨r, l⟩ := isF_R z1
        obtain ⟨y, ey, dy, wy⟩ := ev_at (n := 1) (v1 H) hd r hw (by omega)
        exact Evl.et_not (Evl.et_test (ev_spBq ey dy))
      · refine Evl.s_ret (v := .bl (hasK (.flats p) d)) (Evl.ev_is Evl.ev_c (congrArg V.bl ?_)) fun H2 e2 => kk H2 (e1.trans e2)
        rcases Bool.or_eq_true_iff.mp z with z | z
        · have z1 : isF "flat" 2 d = false := by simpa using z
          simp [hasK, z1]
        · have z1 : isR (el d 1) = false := by simpa using z
          simp [hasK, z1]
      · have z' : isF "flat" 2 d = true ∧ isR (el d 1) = true := by simpa using z
        exact rest H1 e1 z'.1 z'.2
    | _ => cases hi
theorem asc_all : ∀ {ds : List PyData}, ((List.range (ds.length - 1)).map fun i => decide (valI (ds.getD i .none) < valI (ds.getD (i + 1) .none))).all id = ascD ds
  | [] => rfl
  | [_] => rfl
  | a :: b :: r => by
    have ih := asc_all (ds := b :: r)
    show ((List.range (r.length + 1)).map fun i => decide (valI ((a :: b :: r).getD i .none) < valI ((a :: b :: r).getD (i + 1) .none))).all id = (decide (valI a < valI b) && ascD (b :: r))
    rw [← ih, List.range_succ_eq_map]
    simp only [List.map_cons, List.map_map, List.all_cons, List.all_map]
    rfl
theorem ok_Turns_has {f : Addr} {fd : FuncData} (F : Fun K "has" "Turns.has" s_Turns_has f fd) (T : TxK mg) (S : KCl K c) (D_is_form : DefAt P w K mg base "is_form" 3 ["thing", "word", "many"] (spF K)) (D_is_label : DefAt P w K mg base "is_label" 1 ["thing"] (spB K isL)) (D_is_row : DefAt P w K mg base "is_row" 1 ["thing"] (spB K isR)) (D_is_integer : DefAt P w K mg base "is_integer" 1 ["thing"] (spB K isI)) (n : Nat) : FnOk P w K mg base CX0 4 f fd ["self", "thing"] (spHas K c n .tu) := by
  refine F.ok sc_Turns_has (fun vs H Q E h => ?_) (fun cdv A outer s H vs Q E hr h => ?_)
  · obtain ⟨_, _, _, _, rfl, _⟩ := h
    rfl
  · obtain ⟨x, v, k, d, rfl, hk, hi, _, hd, hw, kk⟩ := h
    cases k with
    | turns m =>
      obtain ⟨dx, hx⟩ := hk
      refine ⟨_, (pss_cons (ps_if (PW.pt (pw_or (pt_not (pt_val (pe_callD D_is_form (by first | exact hr | exact hr.mono (by decide) | exact hr.mono (by omega)) (by rfl) (pa_cons (pv 1) (pa_cons pe_str (pa_cons pe_int pa_nil)))))) (pw_or (pt_not (pt_val (pe_callD D_is_label (by first | exact hr | exact hr.mono (by decide) | exact hr.mono (by omega)) (by rfl) (pa_cons (pe_ix ix_seq (pv 1) pe_int (fun _ _ => rfl)) pa_nil)))) (pw_or1 (pt_not (pt_val (pe_callD D_is_row (by first | exact hr | exact hr.mono (by decide) | exact hr.mono (by omega)) (by rfl) (pa_cons (pe_ix ix_seq (pv 1) pe_int (fun _ _ => rfl)) pa_nil)))))))) (pss_one (ps_ret pe_bl)) pss_nil)
    (pss_cons (ps_set (i := 2) sc_Turns_has.nd rfl (by first | exact Or.inl rfl | exact Or.inr rfl) (pe_ix ix_seq (pv 1) pe_int (fun _ _ => rfl)))
    (pss_cons (ps_if (PW.pt (pw_or (pt_cmpR op_gt (pe_callB call_len_seq (by rfl) T.m_len (by decide +kernel) (pa_cons (pv 2) pa_nil)) (pe_fld (pv 0) rfl) (nomark _)) (pw_or1 (pt_not (pt_val (pe_callB (cr_all rfl) (by rfl) T.m_all (by decide +kernel) (pa_cons (pe_lc (own := [("change", 3)]) (g := gName 3) (tt := tYes) (by rfl) sc_Turns_has.nd (pi_seq (pv 2)) (blkOk_by (N := sc_Turns_has_N) (sc := defScope s_Turns_has) (by decide +kernel)) (fun _ _ _ _ _ => (pg_name (i := 3) sc_Turns_has.nd rfl (by first | exact Or.inl rfl | exact Or.inr rfl))) (fun _ _ _ _ _ => pts_nil) (fun _ _ _ _ _ => (pe_callD D_is_integer (by first | exact hr | exact hr.mono (by decide) | exact hr.mono (by omega)) (by rfl) (pa_cons (pv 3) pa_nil)))) pa_nil))))))) (pss_one (ps_ret pe_bl)) pss_nil)
    (pss_one (ps_ret (pe_callB (cr_all rfl) (by rfl) T.m_all (by decide +kernel) (pa_cons (pe_lc (own := [("one", 4), ("other", 5)]) (g := gTup K 2 (gCons (gName 4) (gCons (gName 5) (gNil)))) (tt := tYes) (te := tOp (rI0 (fun a b => .bl (decide (a < b)))) (tVar 4) (tVar 5)) (by rfl) sc_Turns_has.nd (RZ.pi_zipA (by rfl) T.m_zip (pa_cons (pv 2) (pa_cons (pe_slice sl_seq (pv 2) (po_some pe_int) po_none) pa_nil))) (blkOk_by (N := sc_Turns_has_N) (sc := defScope s_Turns_has) (by decide +kernel)) (fun _ _ _ _ _ => (pg_tup (by rfl) (pgs_cons (pg_name (i := 4) sc_Turns_has.nd rfl (by first | exact Or.inl rfl | exact Or.inr rfl)) (pgs_cons (pg_name (i := 5) sc_Turns_has.nd rfl (by first | exact Or.inl rfl | exact Or.inr rfl)) pgs_nil)))) (fun _ _ _ _ _ => pts_nil) (fun _ _ _ _ _ => (pe_cmpR op_lt (pv 4) (pv 5) (nomark _)))) pa_nil))))))), ?_⟩
      have v0 : ∀ H1, Evl.Ev (tVar 0) (start sc_Turns_has_N [.ref x, v]) H1 (.ref x) := fun H1 => Evl.ev_var rfl
      have v1 : ∀ H1, Evl.Ev (tVar 1) (start sc_Turns_has_N [.ref x, v]) H1 v := fun H1 => Evl.ev_var rfl
      refine Evl.q_when (b := !isF "turns" 3 d || (!isL (el d 1) || !isR (el d 2))) (Evl.et_or (Evl.et_not (Evl.et_test (ev_spF (v1 H) (by decide) hd hw))) fun z => ?_) (fun z H1 e1 => ?_) (fun z H1 e1 => ?_)
      · have z1 : isF "turns" 3 d = true := by simpa using z
        obtain ⟨r, l⟩ := isF_R z1
        obtain ⟨y, ey, dy, wy⟩ := ev_at (n := 1) (v1 H) hd r hw (by omega)
        obtain ⟨u, eu, du, wu⟩ := ev_at (n := 2) (v1 H) hd r hw (by omega)
        exact Evl.et_or (Evl.et_not (Evl.et_test (ev_spBq ey dy))) fun _ => Evl.et_not (Evl.et_test (ev_spBq eu du))
      · refine Evl.s_ret (v := .bl (hasK (.turns m) d)) (Evl.ev_is Evl.ev_c (congrArg V.bl ?_)) fun H2 e2 => kk H2 (e1.trans e2)
        have z' : (isF "turns" 3 d && isL (el d 1) && isR (el d 2)) = false := by
          revert z
          cases isF "turns" 3 d <;> cases isL (el d 1) <;> cases isR (el d 2) <;> simp
        simp only [hasK]
        rw [z']
        rfl
      · have z' : isF "turns" 3 d = true ∧ isL (el d 1) = true ∧ isR (el d 2) = true := by
          revert z
          cases isF "turns" 3 d <;> cases isL (el d 1) <;> cases isR (el d 2) <;> simp
        obtain ⟨z1, z2, z3⟩ := z'
        obtain ⟨r, l⟩ := isF_R z1
        obtain ⟨u, eu, du, wu⟩ := ev_at (n := 2) (v1 H1) (hd.up e1) r hw (by omega)
        refine Evl.q_asg (v := u) eu fun H2 e2 => ?_
        have du2 := du.up e2
        obtain ⟨a, xs, rfl, hs, ha, hl, hf⟩ := seq_of du2 z3 wu
        have hlen := dqa_len ha
        have v2 : ∀ H1, Evl.Ev (tVar 2) ((start sc_Turns_has_N [.ref x, v]).set 2 (some (.ref a))) H1 (.ref a) := fun H1 => Evl.ev_var rfl
        have hx2 := e2 _ _ (e1 _ _ hx)
        refine Evl.q_when (b := decide (m < ((entries (el d 2)).length : Int)) || !allD isI (el d 2)) (Evl.et_or (Evl.et_is (Evl.et_test (Evl.ev_op (ev_lenS (v2 H2) hs) (ev_fld (Evl.ev_var rfl) hx2 (S.cl _) (S.na _ _ (by decide)) (v := .int m) rfl) (Evl.rv_I0 (g := fun a b => .bl (decide (a > b)))))) (by rw [hlen])) fun z => ?_) (fun z H3 e3 => ?_) (fun z H3 e3 => ?_)
        · exact Evl.et_not (Evl.et_test (ev_allQ (f := isI) (v2 H2) du2 z3 wu (fun _ => rfl) fun x e H3 we e3 hd' => ev_spBq (Evl.ev_var rfl) hd'))
        · refine Evl.s_ret (v := .bl (hasK (.turns m) d)) (Evl.ev_is Evl.ev_c (congrArg V.bl ?_)) fun H4 e4 => kk H4 (((e1.trans e2).trans e3).trans e4)
          rcases Bool.or_eq_true_iff.mp z with z | z
          · have z' : decide (((entries (el d 2)).length : Int) ≤ m) = false := decide_eq_false (by have := of_decide_eq_true z; omega)
            simp [hasK, z']
          · have z' : allD isI (el d 2) = false := by simpa using z
            simp [hasK, z']
        · have z' : decide (((entries (el d 2)).length : Int) ≤ m) = true ∧ allD isI (el d 2) = true := by
            rcases Bool.or_eq_false_iff.mp z with ⟨p1, p2⟩
            exact ⟨decide_eq_true (by have := of_decide_eq_false p1; omega), by simpa using p2⟩
          have hs3 : SqL K H3 a xs ∨ SqT K H3 a xs := hs.elim (fun h => .inl (Evl.ex_l e3 h)) fun h => .inr (Evl.ex_t e3 h)
          have ha3 := ha.up e3
          have isint : ∀ (i : Nat) (y : V), xs[i]? = some y → y = .int (valI ((entries (el d 2)).getD i .none)) := fun i y hy => by
            obtain ⟨e, he, hq⟩ := dqa_get ha3 hy
            have m := List.mem_of_getElem? he
            have q := List.all_eq_true.mp z'.2 e m
            have e2 : (entries (el d 2)).getD i .none = e := by rw [List.getD_eq_getElem?_getD, he]; rfl
            rw [e2]
            cases e with
            | int j =>
              cases hq
              rfl
            | _ => cases q
          refine Evl.s_ret (v := .bl (hasK (.turns m) d)) (Evl.ev_is (ev_all (bs := (List.range (xs.length - 1)).map fun i => decide (valI ((entries (el d 2)).getD i .none) < valI ((entries (el d 2)).getD (i + 1) .none))) ?_) (congrArg V.bl ?_)) fun H4 e4 => kk H4 (((e1.trans e2).trans e3).trans e4)
          · rw [List.map_map]
            refine el_zip1 (ez_tail (Evl.ev_var rfl) hs3) (by rw [hlen]; exact hl) (fun _ _ => rfl) fun i x y H4 e4 h1 h2 => ?_
            have e5 := isint i x h1
            have e6 := isint (i + 1) y h2
            subst e5
            subst e6
            exact Evl.ev_op (Evl.ev_var rfl) (Evl.ev_var rfl) (Evl.rv_I0 (g := fun a b => .bl (decide (a < b))))
          · rw [hlen, asc_all]
            simp [hasK, z1, z2, z3, z'.1, z'.2]
    | _ => cases hi
/-- has of any kind that is no deeper -/
def HasM (P : Program) (w : World) (K : PySem.W.Frag) (mg : Str → Option Value) (base : Heap) (c : KC) (n : Nat) : Prop := ∀ i, ∃ k, k ≤ n + 4 ∧ Met P w K mg base k (c i) "has" (spHas K c n i) []
def tHas (K : PySem.W.Frag) (c : KC) (n : Nat) (ta : TE) (t : TA) : TE := tAny (fun _ => True) fun i : KI => tMeth (c i) "has" (spHas K c n i) [] E0 ta t
end
theorem pe_has {X : Cx} {c : KC} {n j : Nat} {o e : Expr} {es : List Expr} {ta : TE} {t : TA} {pos apos : Pos} {pl : Sem Bool} (M : HasM X.prog X.w X.K X.mg X.base c n) (hr : Room j X.A) (hj : n + 4 ≤ j) (he : PE X o ta) (ha : PA X (e :: es) t)
    (hst : starEach (e :: es) X.env = (false, eval e X.env) :: starEach es X.env := by rfl) (hpl : (backTo pos (starEach es X.env)).any (·.1) = false := by rfl)
    (ht : eval (.Call (.Attribute o "has" apos) (e :: es) [] pos) X.env = (do
      let ov ← eval o X.env
      standAt apos.atName
      let (f, first) ← holding [ov] (getMethod ov "has" pl)
      callWith pos f first (backTo pos (starEach (e :: es) X.env)) (backToKw pos (keywordEach [] X.env))) := by rfl) :
    PE X (.Call (.Attribute o "has" apos) (e :: es) [] pos) (tHas X.K c n ta t) := pe_any fun i _ => by
  obtain ⟨k, hk, m⟩ := M i
  exact pe_mt m hr (by omega) he ha hst hpl ht
section
variable {P : Program} {w : World} {K : PySem.W.Frag} {mg : Str → Option Value} {base : Heap} {c : KC}
theorem Kin.insH {H : Hp} : ∀ {k : Kd} {x : Addr}, Kin c H k x → ∃ dx fs, H x = some (.ins (c (kiOf k)) dx fs) ∧ fs.lookup ("has" : Str) = none
  | .halves _, _, ⟨dx, h⟩ => ⟨dx, _, h, rfl⟩
  | .boxes _, _, ⟨dx, h⟩ => ⟨dx, _, h, rfl⟩
  | .rising _, _, ⟨dx, h⟩ => ⟨dx, _, h, rfl⟩
  | .flats _, _, ⟨dx, h⟩ => ⟨dx, _, h, rfl⟩
  | .turns _, _, ⟨dx, h⟩ => ⟨dx, _, h, rfl⟩
  | .no _, _, ⟨dx, y, h, q⟩ => ⟨dx, _, h, rfl⟩
  | .both _ _, _, ⟨dx, y, z, h, q, r⟩ => ⟨dx, _, h, rfl⟩
  | .either _ _, _, ⟨dx, y, z, h, q, r⟩ => ⟨dx, _, h, rfl⟩
  | .any _ _, _, ⟨dx, y, z, h, q, r⟩ => ⟨dx, _, h, rfl⟩
theorem ev_up {te : TE} {σ : L2.St} {H H1 : Hp} {v : V} (h : Evl.Ev te σ H v) (e : Ex H H1) : Evl.Ev te σ H1 v := fun H2 e2 => h H2 (e.trans e2)
theorem ev_has {σ : L2.St} {H : Hp} {ta te : TE} {x : Addr} {v : V} {k : Kd} {d : PyData} {n : Nat} (h : Evl.Ev ta σ H (.ref x)) (h2 : ∀ H1, Ex H H1 → Evl.Ev te σ H1 v) (hk : Kin c H k x) (hn : depK k ≤ n) (hd : Dq K H v d) (hw : ∃ m, fits m d) : Evl.Ev (tHas K c n ta (tCons te tNil)) σ H (.bl (hasK k d)) := fun H1 e Q q => by
  refine ⟨kiOf k, trivial, h H1 e _ fun H2 e2 => ?_⟩
  obtain ⟨dx, fs, hx, hl⟩ := (hk.up (e.trans e2)).insH
  refine ⟨x, dx, fs, rfl, hx, hl, h2 H2 (e.trans e2) H2 (Ex.refl _) _ fun H3 e3 => ?_⟩
  have eA := (e.trans e2).trans e3
  exact ⟨x, v, k, d, rfl, hk.up eA, rfl, hn, hd.up eA, hw, fun H4 e4 => q H4 ((e2.trans e3).trans e4)⟩
theorem ok_Contrary_has {f : Addr} {fd : FuncData} (F : Fun K "has" "Contrary.has" s_Contrary_has f fd) (S : KCl K c) (D_is_form : DefAt P w K mg base "is_form" 3 ["thing", "word", "many"] (spF K)) (n : Nat) (M : HasM P w K mg base c n) : FnOk P w K mg base CX0 (n + 5) f fd ["self", "thing"] (spHas K c (n + 1) .co) := by
  refine F.ok sc_Contrary_has (fun vs H Q E h => ?_) (fun cdv A outer s H vs Q E hr h => ?_)
  · obtain ⟨_, _, _, _, rfl, _⟩ := h
    rfl
  · obtain ⟨x, v, k, d, rfl, hk, hi, hn, hd, hw, kk⟩ := h
    cases k with
    | no k1 =>
      obtain ⟨dx, y, hx, hy⟩ := hk
      refine ⟨_, (pss_one (ps_ret (pe_and (pe_callD D_is_form (by first | exact hr | exact hr.mono (by decide) | exact hr.mono (by omega)) (by rfl) (pa_cons (pv 1) (pa_cons pe_str (pa_cons pe_int pa_nil)))) (pe_one (pe_has M hr (by omega) (pe_fld (pv 0) rfl) (pa_cons (pe_ix ix_seq (pv 1) pe_int (fun _ _ => rfl)) pa_nil)))))), ?_⟩
      have v0 : ∀ H1, Evl.Ev (tVar 0) (start sc_Contrary_has_N [.ref x, v]) H1 (.ref x) := fun H1 => Evl.ev_var rfl
      have v1 : ∀ H1, Evl.Ev (tVar 1) (start sc_Contrary_has_N [.ref x, v]) H1 v := fun H1 => Evl.ev_var rfl
      refine Evl.s_ret (v := .bl (hasK (.no k1) d)) (Evl.ev_andV (a := isF "not" 2 d) (b := hasK k1 (el d 1)) (ev_spF (v1 H) (by decide) hd hw) fun z => ?_) kk
      obtain ⟨r, l⟩ := isF_R z
      obtain ⟨u, eu, du, wu⟩ := ev_at (n := 1) (v1 H) hd r hw (by omega)
      exact ev_has (ev_fld (v0 H) hx (S.cl _) (S.na _ _ (by decide)) (v := .ref y) rfl) (fun H1 e1 => ev_up eu e1) hy (Nat.le_of_succ_le_succ hn) du wu
    | _ => cases hi
theorem ev_spFe {σ : L2.St} {H : Hp} {te tz : TE} {v : V} {d : PyData} {z : Str} {p : Int} (h : Evl.Ev te σ H v) (h2 : Evl.Ev tz σ H (.str z)) (hp : 1 ≤ p) (hd : Dq K H v d) (hw : ∃ n, fits n d) : Evl.Ev (tCallD (spF K) (tCons te (tCons tz (tCons (tC (.int p)) tNil)))) σ H (.bl (isF z p d)) :=
  ev_callD (Evl.ea_cons h (Evl.ea_cons h2 (Evl.ea_cons Evl.ev_c Evl.ea_nil))) fun H1 e1 Q q => ⟨v, d, z, p, rfl, hp, hd.up e1, hw, q⟩
theorem ok_Pair_has {f : Addr} {fd : FuncData} (F : Fun K "has" "Pair.has" s_Pair_has f fd) (S : KCl K c) (D_is_form : DefAt P w K mg base "is_form" 3 ["thing", "word", "many"] (spF K)) (n : Nat) (M : HasM P w K mg base c n) : FnOk P w K mg base CX0 (n + 5) f fd ["self", "thing"] (spHas K c (n + 1) .pa) := by
  refine F.ok sc_Pair_has (fun vs H Q E h => ?_) (fun cdv A outer s H vs Q E hr h => ?_)
  · obtain ⟨_, _, _, _, rfl, _⟩ := h
    rfl
  · obtain ⟨x, v, k, d, rfl, hk, hi, hn, hd, hw, kk⟩ := h
    cases k with
    | both k1 k2 =>
      obtain ⟨dx, y1, y2, hx, hy1, hy2⟩ := hk
      have hn1 : depK k1 ≤ n := by
        have h1 : max (depK k1) (depK k2) + 1 ≤ n + 1 := hn
        have h2 := Nat.le_max_left (depK k1) (depK k2)
        omega
      have hn2 : depK k2 ≤ n := by
        have h1 : max (depK k1) (depK k2) + 1 ≤ n + 1 := hn
        have h2 := Nat.le_max_right (depK k1) (depK k2)
        omega
      refine ⟨_, (pss_cons (ps_if (pt_cmpR op_eq (pe_fld (pv 0) rfl) pe_str (nomark _)) (pss_one (ps_ret (pe_or (pe_and (pe_callD D_is_form (by first | exact hr | exact hr.mono (by decide) | exact hr.mono (by omega)) (by rfl) (pa_cons (pv 1) (pa_cons pe_str (pa_cons pe_int pa_nil)))) (pe_one (pe_has M hr (by omega) (pe_fld (pv 0) rfl) (pa_cons (pe_ix ix_seq (pv 1) pe_int (fun _ _ => rfl)) pa_nil)))) (pe_one (pe_and (pe_callD D_is_form (by first | exact hr | exact hr.mono (by decide) | exact hr.mono (by omega)) (by rfl) (pa_cons (pv 1) (pa_cons pe_str (pa_cons pe_int pa_nil)))) (pe_one (pe_has M hr (by omega) (pe_fld (pv 0) rfl) (pa_cons (pe_ix ix_seq (pv 1) pe_int (fun _ _ => rfl)) pa_nil)))))))) pss_nil)
    (pss_one (ps_ret (pe_and (pe_callD D_is_form (by first | exact hr | exact hr.mono (by decide) | exact hr.mono (by omega)) (by rfl) (pa_cons (pv 1) (pa_cons (pe_fld (pv 0) rfl) (pa_cons pe_int pa_nil)))) (pe_and (pe_has M hr (by omega) (pe_fld (pv 0) rfl) (pa_cons (pe_ix ix_seq (pv 1) pe_int (fun _ _ => rfl)) pa_nil)) (pe_one (pe_has M hr (by omega) (pe_fld (pv 0) rfl) (pa_cons (pe_ix ix_seq (pv 1) pe_int (fun _ _ => rfl)) pa_nil)))))))), ?_⟩
      have v0 : ∀ H1, Evl.Ev (tVar 0) (start sc_Pair_has_N [.ref x, v]) H1 (.ref x) := fun H1 => Evl.ev_var rfl
      have v1 : ∀ H1, Evl.Ev (tVar 1) (start sc_Pair_has_N [.ref x, v]) H1 v := fun H1 => Evl.ev_var rfl
      have fw : ∀ H1, Ex H H1 → Evl.Ev (tFld K (tVar 0) "word") (start sc_Pair_has_N [.ref x, v]) H1 (.str "both") := fun H1 e1 => ev_fld (v0 H1) (e1 _ _ hx) (S.cl _) (S.na _ _ (by decide)) (v := .str "both") rfl
      have f1 : ∀ H1, Ex H H1 → Evl.Ev (tFld K (tVar 0) "one") (start sc_Pair_has_N [.ref x, v]) H1 (.ref y1) := fun H1 e1 => ev_fld (v0 H1) (e1 _ _ hx) (S.cl _) (S.na _ _ (by decide)) (v := .ref y1) rfl
      have f2 : ∀ H1, Ex H H1 → Evl.Ev (tFld K (tVar 0) "other") (start sc_Pair_has_N [.ref x, v]) H1 (.ref y2) := fun H1 e1 => ev_fld (v0 H1) (e1 _ _ hx) (S.cl _) (S.na _ _ (by decide)) (v := .ref y2) rfl
      refine Evl.q_when (b := false) (Evl.et_is (Evl.et_test (Evl.ev_op (fw H (Ex.refl _)) Evl.ev_c (Evl.rv_eq rfl))) (by decide)) (fun z => nomatch z) (fun _ H1 e1 => ?_)
      refine Evl.s_ret (v := .bl (hasK (.both k1 k2) d)) (Evl.ev_andV (a := isF "both" 3 d) (b := hasK k1 (el d 1) && hasK k2 (el d 2)) (ev_spFe (v1 H1) (fw H1 e1) (by decide) (hd.up e1) hw) fun z => ?_) fun H2 e2 => kk H2 (e1.trans e2)
      obtain ⟨r, l⟩ := isF_R z
      obtain ⟨u, eu, du, wu⟩ := ev_at (n := 1) (v1 H1) (hd.up e1) r hw (by omega)
      obtain ⟨u2, eu2, du2, wu2⟩ := ev_at (n := 2) (v1 H1) (hd.up e1) r hw (by omega)
      exact Evl.ev_andV (a := hasK k1 (el d 1)) (b := hasK k2 (el d 2)) (ev_has (f1 H1 e1) (fun H2 e2 => ev_up eu e2) (hy1.up e1) hn1 du wu) fun _ => ev_has (f2 H1 e1) (fun H2 e2 => ev_up eu2 e2) (hy2.up e1) hn2 du2 wu2
    | either k1 k2 =>
      obtain ⟨dx, y1, y2, hx, hy1, hy2⟩ := hk
      have hn1 : depK k1 ≤ n := by
        have h1 : max (depK k1) (depK k2) + 1 ≤ n + 1 := hn
        have h2 := Nat.le_max_left (depK k1) (depK k2)
        omega
      have hn2 : depK k2 ≤ n := by
        have h1 : max (depK k1) (depK k2) + 1 ≤ n + 1 := hn
        have h2 := Nat.le_max_right (depK k1) (depK k2)
        omega
      refine ⟨_, (pss_cons (ps_if (pt_cmpR op_eq (pe_fld (pv 0) rfl) pe_str (nomark _)) (pss_one (ps_ret (pe_or (pe_and (pe_callD D_is_form (by first | exact hr | exact hr.mono (by decide) | exact hr.mono (by omega)) (by rfl) (pa_cons (pv 1) (pa_cons pe_str (pa_cons pe_int pa_nil)))) (pe_one (pe_has M hr (by omega) (pe_fld (pv 0) rfl) (pa_cons (pe_ix ix_seq (pv 1) pe_int (fun _ _ => rfl)) pa_nil)))) (pe_one (pe_and (pe_callD D_is_form (by first | exact hr | exact hr.mono (by decide) | exact hr.mono (by omega)) (by rfl) (pa_cons (pv 1) (pa_cons pe_str (pa_cons pe_int pa_nil)))) (pe_one (pe_has M hr (by omega) (pe_fld (pv 0) rfl) (pa_cons (pe_ix ix_seq (pv 1) pe_int (fun _ _ => rfl)) pa_nil)))))))) pss_nil)
    (pss_one (ps_ret (pe_and (pe_callD D_is_form (by first | exact hr | exact hr.mono (by decide) | exact hr.mono (by omega)) (by rfl) (pa_cons (pv 1) (pa_cons (pe_fld (pv 0) rfl) (pa_cons pe_int pa_nil)))) (pe_and (pe_has M hr (by omega) (pe_fld (pv 0) rfl) (pa_cons (pe_ix ix_seq (pv 1) pe_int (fun _ _ => rfl)) pa_nil)) (pe_one (pe_has M hr (by omega) (pe_fld (pv 0) rfl) (pa_cons (pe_ix ix_seq (pv 1) pe_int (fun _ _ => rfl)) pa_nil)))))))), ?_⟩
      have v0 : ∀ H1, Evl.Ev (tVar 0) (start sc_Pair_has_N [.ref x, v]) H1 (.ref x) := fun H1 => Evl.ev_var rfl
      have v1 : ∀ H1, Evl.Ev (tVar 1) (start sc_Pair_has_N [.ref x, v]) H1 v := fun H1 => Evl.ev_var rfl
      have fw : ∀ H1, Ex H H1 → Evl.Ev (tFld K (tVar 0) "word") (start sc_Pair_has_N [.ref x, v]) H1 (.str "either") := fun H1 e1 => ev_fld (v0 H1) (e1 _ _ hx) (S.cl _) (S.na _ _ (by decide)) (v := .str "either") rfl
      have f1 : ∀ H1, Ex H H1 → Evl.Ev (tFld K (tVar 0) "one") (start sc_Pair_has_N [.ref x, v]) H1 (.ref y1) := fun H1 e1 => ev_fld (v0 H1) (e1 _ _ hx) (S.cl _) (S.na _ _ (by decide)) (v := .ref y1) rfl
      have f2 : ∀ H1, Ex H H1 → Evl.Ev (tFld K (tVar 0) "other") (start sc_Pair_has_N [.ref x, v]) H1 (.ref y2) := fun H1 e1 => ev_fld (v0 H1) (e1 _ _ hx) (S.cl _) (S.na _ _ (by decide)) (v := .ref y2) rfl
      refine Evl.q_when (b := false) (Evl.et_is (Evl.et_test (Evl.ev_op (fw H (Ex.refl _)) Evl.ev_c (Evl.rv_eq rfl))) (by decide)) (fun z => nomatch z) (fun _ H1 e1 => ?_)
      refine Evl.s_ret (v := .bl (hasK (.either k1 k2) d)) (Evl.ev_andV (a := isF "either" 3 d) (b := hasK k1 (el d 1) && hasK k2 (el d 2)) (ev_spFe (v1 H1) (fw H1 e1) (by decide) (hd.up e1) hw) fun z => ?_) fun H2 e2 => kk H2 (e1.trans e2)
      obtain ⟨r, l⟩ := isF_R z
      obtain ⟨u, eu, du, wu⟩ := ev_at (n := 1) (v1 H1) (hd.up e1) r hw (by omega)
      obtain ⟨u2, eu2, du2, wu2⟩ := ev_at (n := 2) (v1 H1) (hd.up e1) r hw (by omega)
      exact Evl.ev_andV (a := hasK k1 (el d 1)) (b := hasK k2 (el d 2)) (ev_has (f1 H1 e1) (fun H2 e2 => ev_up eu e2) (hy1.up e1) hn1 du wu) fun _ => ev_has (f2 H1 e1) (fun H2 e2 => ev_up eu2 e2) (hy2.up e1) hn2 du2 wu2
    | any k1 k2 =>
      obtain ⟨dx, y1, y2, hx, hy1, hy2⟩ := hk
      have hn1 : depK k1 ≤ n := by
        have h1 : max (depK k1) (depK k2) + 1 ≤ n + 1 := hn
        have h2 := Nat.le_max_left (depK k1) (depK k2)
        omega
      have hn2 : depK k2 ≤ n := by
        have h1 : max (depK k1) (depK k2) + 1 ≤ n + 1 := hn
        have h2 := Nat.le_max_right (depK k1) (depK k2)
        omega
      refine ⟨_, (pss_cons (ps_if (pt_cmpR op_eq (pe_fld (pv 0) rfl) pe_str (nomark _)) (pss_one (ps_ret (pe_or (pe_and (pe_callD D_is_form (by first | exact hr | exact hr.mono (by decide) | exact hr.mono (by omega)) (by rfl) (pa_cons (pv 1) (pa_cons pe_str (pa_cons pe_int pa_nil)))) (pe_one (pe_has M hr (by omega) (pe_fld (pv 0) rfl) (pa_cons (pe_ix ix_seq (pv 1) pe_int (fun _ _ => rfl)) pa_nil)))) (pe_one (pe_and (pe_callD D_is_form (by first | exact hr | exact hr.mono (by decide) | exact hr.mono (by omega)) (by rfl) (pa_cons (pv 1) (pa_cons pe_str (pa_cons pe_int pa_nil)))) (pe_one (pe_has M hr (by omega) (pe_fld (pv 0) rfl) (pa_cons (pe_ix ix_seq (pv 1) pe_int (fun _ _ => rfl)) pa_nil)))))))) pss_nil)
    (pss_one (ps_ret (pe_and (pe_callD D_is_form (by first | exact hr | exact hr.mono (by decide) | exact hr.mono (by omega)) (by rfl) (pa_cons (pv 1) (pa_cons (pe_fld (pv 0) rfl) (pa_cons pe_int pa_nil)))) (pe_and (pe_has M hr (by omega) (pe_fld (pv 0) rfl) (pa_cons (pe_ix ix_seq (pv 1) pe_int (fun _ _ => rfl)) pa_nil)) (pe_one (pe_has M hr (by omega) (pe_fld (pv 0) rfl) (pa_cons (pe_ix ix_seq (pv 1) pe_int (fun _ _ => rfl)) pa_nil)))))))), ?_⟩
      have v0 : ∀ H1, Evl.Ev (tVar 0) (start sc_Pair_has_N [.ref x, v]) H1 (.ref x) := fun H1 => Evl.ev_var rfl
      have v1 : ∀ H1, Evl.Ev (tVar 1) (start sc_Pair_has_N [.ref x, v]) H1 v := fun H1 => Evl.ev_var rfl
      have fw : ∀ H1, Ex H H1 → Evl.Ev (tFld K (tVar 0) "word") (start sc_Pair_has_N [.ref x, v]) H1 (.str "any") := fun H1 e1 => ev_fld (v0 H1) (e1 _ _ hx) (S.cl _) (S.na _ _ (by decide)) (v := .str "any") rfl
      have f1 : ∀ H1, Ex H H1 → Evl.Ev (tFld K (tVar 0) "one") (start sc_Pair_has_N [.ref x, v]) H1 (.ref y1) := fun H1 e1 => ev_fld (v0 H1) (e1 _ _ hx) (S.cl _) (S.na _ _ (by decide)) (v := .ref y1) rfl
      have f2 : ∀ H1, Ex H H1 → Evl.Ev (tFld K (tVar 0) "other") (start sc_Pair_has_N [.ref x, v]) H1 (.ref y2) := fun H1 e1 => ev_fld (v0 H1) (e1 _ _ hx) (S.cl _) (S.na _ _ (by decide)) (v := .ref y2) rfl
      refine Evl.q_when (b := true) (Evl.et_is (Evl.et_test (Evl.ev_op (fw H (Ex.refl _)) Evl.ev_c (Evl.rv_eq rfl))) (by decide)) (fun _ H1 e1 => ?_) (fun z => nomatch z)
      refine Evl.s_ret (v := .bl (hasK (.any k1 k2) d)) (Evl.ev_orV (a := isF "first" 2 d && hasK k1 (el d 1)) (b := isF "second" 2 d && hasK k2 (el d 1)) ?_ fun _ => ?_) fun H2 e2 => kk H2 (e1.trans e2)
      · refine Evl.ev_andV (a := isF "first" 2 d) (b := hasK k1 (el d 1)) (ev_spF (v1 H1) (by decide) (hd.up e1) hw) fun z => ?_
        obtain ⟨r, l⟩ := isF_R z
        obtain ⟨u, eu, du, wu⟩ := ev_at (n := 1) (v1 H1) (hd.up e1) r hw (by omega)
        exact ev_has (f1 H1 e1) (fun H2 e2 => ev_up eu e2) (hy1.up e1) hn1 du wu
      · refine Evl.ev_andV (a := isF "second" 2 d) (b := hasK k2 (el d 1)) (ev_spF (v1 H1) (by decide) (hd.up e1) hw) fun z => ?_
        obtain ⟨r, l⟩ := isF_R z
        obtain ⟨u, eu, du, wu⟩ := ev_at (n := 1) (v1 H1) (hd.up e1) r hw (by omega)
        exact ev_has (f2 H1 e1) (fun H2 e2 => ev_up eu e2) (hy2.up e1) hn2 du wu
    | _ => cases hi
end
section
variable {P : Program} {w : World} {K : PySem.W.Frag} {mg : Str → Option Value} {base : Heap} {c : KC}
end
end U

set_option Elab.async false
set_option linter.all false
set_option maxRecDepth 100000
set_option maxHeartbeats 4000000
/-! has of every kind -/
namespace U
open PySem PySem.Spec PyProof.Rows L2
open Evl (Ex)
open C8 (Met Mak pe_mt pe_mt0 pe_mk)
structure HasFs (K : PySem.W.Frag) (c : KC) : Prop where
  ha : ∃ f fd, Meth K (c .ha) "has" f ∧ Fun K "has" "Halves.has" s_Halves_has f fd ∧ Binds K fd ["self", "thing"] []
  bo : ∃ f fd, Meth K (c .bo) "has" f ∧ Fun K "has" "Boxes.has" s_Boxes_has f fd ∧ Binds K fd ["self", "thing"] []
  ri : ∃ f fd, Meth K (c .ri) "has" f ∧ Fun K "has" "Rising.has" s_Rising_has f fd ∧ Binds K fd ["self", "thing"] []
  fl : ∃ f fd, Meth K (c .fl) "has" f ∧ Fun K "has" "Flats.has" s_Flats_has f fd ∧ Binds K fd ["self", "thing"] []
  tu : ∃ f fd, Meth K (c .tu) "has" f ∧ Fun K "has" "Turns.has" s_Turns_has f fd ∧ Binds K fd ["self", "thing"] []
  co : ∃ f fd, Meth K (c .co) "has" f ∧ Fun K "has" "Contrary.has" s_Contrary_has f fd ∧ Binds K fd ["self", "thing"] []
  pa : ∃ f fd, Meth K (c .pa) "has" f ∧ Fun K "has" "Pair.has" s_Pair_has f fd ∧ Binds K fd ["self", "thing"] []
section
variable {P : Program} {w : World} {K : PySem.W.Frag} {mg : Str → Option Value} {base : Heap} {c : KC}
theorem ok_Contrary_has0 {f : Addr} {fd : FuncData} (F : Fun K "has" "Contrary.has" s_Contrary_has f fd) : FnOk P w K mg base CX0 4 f fd ["self", "thing"] (spHas K c 0 .co) := by
  refine F.ok sc_Contrary_has (fun vs H Q E h => ?_) (fun cdv A outer s H vs Q E hr h => ?_)
  · obtain ⟨_, _, _, _, rfl, _⟩ := h
    rfl
  · obtain ⟨x, v, k, d, rfl, hk, hi, hn, _⟩ := h
    cases k <;> first | exact absurd hn (Nat.not_succ_le_zero _) | cases hi
theorem ok_Pair_has0 {f : Addr} {fd : FuncData} (F : Fun K "has" "Pair.has" s_Pair_has f fd) : FnOk P w K mg base CX0 4 f fd ["self", "thing"] (spHas K c 0 .pa) := by
  refine F.ok sc_Pair_has (fun vs H Q E h => ?_) (fun cdv A outer s H vs Q E hr h => ?_)
  · obtain ⟨_, _, _, _, rfl, _⟩ := h
    rfl
  · obtain ⟨x, v, k, d, rfl, hk, hi, hn, _⟩ := h
    cases k <;> first | exact absurd hn (Nat.not_succ_le_zero _) | cases hi
theorem has_all (S : KCl K c) (Fs : HasFs K c) (T : TxK mg) (D_is_form : DefAt P w K mg base "is_form" 3 ["thing", "word", "many"] (spF K)) (D_is_point : DefAt P w K mg base "is_point" 3 ["thing", "places"] (spBp K isP)) (D_is_integer : DefAt P w K mg base "is_integer" 1 ["thing"] (spB K isI)) (D_is_row : DefAt P w K mg base "is_row" 1 ["thing"] (spB K isR)) (D_is_row_of : DefAt P w K mg base "is_row_of" 2 ["thing", "many"] (spBp K isO)) (D_is_label : DefAt P w K mg base "is_label" 1 ["thing"] (spB K isL)) (D_is_row_of_bounds : DefAt P w K mg base "_is_row_of_bounds" 3 ["thing", "many"] (spBp K isB)) : ∀ n, HasM P w K mg base c n := by
  intro n
  induction n with
  | zero =>
    intro i
    cases i with
    | ha =>
      obtain ⟨f, fd, m, F, b⟩ := Fs.ha
      exact ⟨4, by omega, ⟨f, fd, _, _, S.cl _, m, ok_Halves_has F T S D_is_form D_is_point D_is_integer 0, b, .nil⟩⟩
    | bo =>
      obtain ⟨f, fd, m, F, b⟩ := Fs.bo
      exact ⟨4, by omega, ⟨f, fd, _, _, S.cl _, m, ok_Boxes_has F T S D_is_form D_is_row_of D_is_row_of_bounds 0, b, .nil⟩⟩
    | ri =>
      obtain ⟨f, fd, m, F, b⟩ := Fs.ri
      exact ⟨4, by omega, ⟨f, fd, _, _, S.cl _, m, ok_Rising_has F T S D_is_form D_is_row D_is_row_of_bounds 0, b, .nil⟩⟩
    | fl =>
      obtain ⟨f, fd, m, F, b⟩ := Fs.fl
      exact ⟨4, by omega, ⟨f, fd, _, _, S.cl _, m, ok_Flats_has F T S D_is_form D_is_row D_is_point 0, b, .nil⟩⟩
    | tu =>
      obtain ⟨f, fd, m, F, b⟩ := Fs.tu
      exact ⟨4, by omega, ⟨f, fd, _, _, S.cl _, m, ok_Turns_has F T S D_is_form D_is_label D_is_row D_is_integer 0, b, .nil⟩⟩
    | co =>
      obtain ⟨f, fd, m, F, b⟩ := Fs.co
      exact ⟨4, by omega, ⟨f, fd, _, _, S.cl _, m, ok_Contrary_has0 F, b, .nil⟩⟩
    | pa =>
      obtain ⟨f, fd, m, F, b⟩ := Fs.pa
      exact ⟨4, by omega, ⟨f, fd, _, _, S.cl _, m, ok_Pair_has0 F, b, .nil⟩⟩
  | succ n ih =>
    intro i
    cases i with
    | ha =>
      obtain ⟨f, fd, m, F, b⟩ := Fs.ha
      exact ⟨4, by omega, ⟨f, fd, _, _, S.cl _, m, ok_Halves_has F T S D_is_form D_is_point D_is_integer (n + 1), b, .nil⟩⟩
    | bo =>
      obtain ⟨f, fd, m, F, b⟩ := Fs.bo
      exact ⟨4, by omega, ⟨f, fd, _, _, S.cl _, m, ok_Boxes_has F T S D_is_form D_is_row_of D_is_row_of_bounds (n + 1), b, .nil⟩⟩
    | ri =>
      obtain ⟨f, fd, m, F, b⟩ := Fs.ri
      exact ⟨4, by omega, ⟨f, fd, _, _, S.cl _, m, ok_Rising_has F T S D_is_form D_is_row D_is_row_of_bounds (n + 1), b, .nil⟩⟩
    | fl =>
      obtain ⟨f, fd, m, F, b⟩ := Fs.fl
      exact ⟨4, by omega, ⟨f, fd, _, _, S.cl _, m, ok_Flats_has F T S D_is_form D_is_row D_is_point (n + 1), b, .nil⟩⟩
    | tu =>
      obtain ⟨f, fd, m, F, b⟩ := Fs.tu
      exact ⟨4, by omega, ⟨f, fd, _, _, S.cl _, m, ok_Turns_has F T S D_is_form D_is_label D_is_row D_is_integer (n + 1), b, .nil⟩⟩
    | co =>
      obtain ⟨f, fd, m, F, b⟩ := Fs.co
      exact ⟨n + 5, by omega, ⟨f, fd, _, _, S.cl _, m, ok_Contrary_has F S D_is_form n ih, b, .nil⟩⟩
    | pa =>
      obtain ⟨f, fd, m, F, b⟩ := Fs.pa
      exact ⟨n + 5, by omega, ⟨f, fd, _, _, S.cl _, m, ok_Pair_has F S D_is_form n ih, b, .nil⟩⟩
end
end U

set_option Elab.async false
set_option linter.all false
set_option maxRecDepth 100000
set_option maxHeartbeats 2000000
namespace U
open PySem L2
open Evl (Ex)
/-! ### what evaluates to data -/
section
variable {K : PySem.W.Frag} {L : List Addr} {σ : L2.St} {H H' : Hp} {te tb : TE} {ta tr : TA} {v : V} {d : PyData} {ds : List PyData} {l p : Addr} {o : HO}
def EvQ (K : PySem.W.Frag) (L : List Addr) (te : TE) (σ : L2.St) (H : Hp) (d : PyData) : Prop := ∀ H1, Ex H H1 → ∀ Q : VK, (∀ v H2, Ex H1 H2 → Dq K (W L H2) v d → Q v H2) → te σ H1 Q
def EvQs (K : PySem.W.Frag) (L : List Addr) (ta : TA) (σ : L2.St) (H : Hp) (ds : List PyData) : Prop := ∀ H1, Ex H H1 → ∀ Q : List V → Hp → Prop, (∀ vs H2, Ex H1 H2 → DqAll K (W L H2) vs ds → Q vs H2) → ta σ H1 Q
theorem EvQ.mono (e : Ex H H') (h : EvQ K L te σ H d) : EvQ K L te σ H' d := fun H1 a Q q => h H1 (e.trans a) Q q
theorem EvQs.mono (e : Ex H H') (h : EvQs K L ta σ H ds) : EvQs K L ta σ H' ds := fun H1 a Q q => h H1 (e.trans a) Q q
theorem evq_of (h : Evl.Ev te σ H v) (hd : Dq K (W L H) v d) : EvQ K L te σ H d := fun H1 e Q q => h H1 e _ fun H2 e2 => q v H2 e2 (hd.up (w_ex (e.trans e2)))
theorem evq_var {i : Nat} (h : σ[i]? = some (some v)) (hd : Dq K (W L H) v d) : EvQ K L (tVar i) σ H d := evq_of (Evl.ev_var h) hd
theorem evq_int {i : Int} : EvQ K L (tC (.int i)) σ H (.int i) := evq_of Evl.ev_c (.int i)
theorem evq_bl {b : Bool} : EvQ K L (tC (.bl b)) σ H (.bool b) := evq_of Evl.ev_c (.bl b)
theorem evq_non : EvQ K L (tC .non) σ H .none := evq_of Evl.ev_c .non
theorem evq_str {x : Str} : EvQ K L (tC (.str x)) σ H (.str x) := evq_of Evl.ev_c (.str x)
theorem evq_evI {i : Int} (h : Evl.Ev te σ H (.int i)) : EvQ K L te σ H (.int i) := evq_of h (.int i)
theorem evq_evB {b : Bool} (h : Evl.Ev te σ H (.bl b)) : EvQ K L te σ H (.bool b) := evq_of h (.bl b)
theorem evqs_nil : EvQs K L tNil σ H [] := fun H1 _ _ q => q [] H1 (Ex.refl H1) .nil
theorem evqs_cons (h : EvQ K L te σ H d) (hr : EvQs K L tr σ H ds) : EvQs K L (tCons te tr) σ H (d :: ds) := fun H1 e Q q =>
  h H1 e _ fun v H2 e2 hv => hr H2 (e.trans e2) _ fun vs H3 e3 hvs => q (v :: vs) H3 (e2.trans e3) (.cons (hv.up (w_ex e3)) hvs)
theorem evq_tup (hL : Hid L H) (h : EvQs K L ta σ H ds) (hz : ds.length ≤ 100000) : EvQ K L (tTup ta) σ H (.tuple ds) := fun H1 e Q q =>
  h H1 e _ fun vs H2 e2 hv => ⟨Evl.sz_of (by rw [dqa_len hv]; exact hz), fun p hp => q (.ref p) _ (e2.trans (Ex.new hp)) (.tup (SqT.of (w_new (hid_ex (e.trans e2) hL) hp)) (hv.up (w_ex (Ex.new hp))))⟩
theorem evq_lst (hL : Hid L H) (h : EvQs K L ta σ H ds) (hz : ds.length ≤ 100000) : EvQ K L (tLst ta) σ H (.list ds) := fun H1 e Q q =>
  h H1 e _ fun vs H2 e2 hv => ⟨Evl.sz_of (by rw [dqa_len hv]; exact hz), fun p hp => q (.ref p) _ (e2.trans (Ex.new hp)) (.lst (SqL.of (w_new (hid_ex (e.trans e2) hL) hp)) (hv.up (w_ex (Ex.new hp))))⟩
/-! ### a list that grows -/
/-- at l a list of the data ds, which do not hang on l -/
def Gq (K : PySem.W.Frag) (L : List Addr) (H : Hp) (l : Addr) (ds : List PyData) : Prop := l ∉ L ∧ ∃ xs, H l = some (.lst xs) ∧ DqAll K (W (l :: L) H) xs ds
theorem Gq.dp (h : Gq K L H l ds) : Dq K (W L H) (.ref l) (.list ds) := by
  obtain ⟨n, xs, h1, h2⟩ := h
  exact .lst (SqL.of (w_of n h1)) (h2.up w_cons)
theorem Gq.up (h : Gq K L H l ds) (e : Ex H H') : Gq K L H' l ds := by
  obtain ⟨n, xs, h1, h2⟩ := h
  exact ⟨n, xs, e _ _ h1, h2.up (w_ex e)⟩
theorem Gq.ne (h : Gq K L H l ds) : H l ≠ none := by
  obtain ⟨n, xs, h1, h2⟩ := h
  rw [h1]
  simp
theorem gq_new {xs : List V} (hL : Hid L H) (hp : H p = none) (h : DqAll K (W L H) xs ds) : Gq K L (upd H p (.lst xs)) p ds := ⟨hid_not hL hp, xs, upd_same, h.up (w_fresh hp)⟩
/-- a heap that differs at l alone, where the list has one more -/
theorem gq_app {xs : List V} (n : l ∉ L) (h1 : H l = some (.lst xs)) (h2 : DqAll K (W (l :: L) H) xs ds) (hv : Dq K (W (l :: L) H) v d) : Gq K L (upd H l (.lst (xs ++ [v]))) l (ds ++ [d]) := by
  refine ⟨n, xs ++ [v], upd_same, ?_⟩
  rw [w_upd_in (List.mem_cons_self ..)]
  exact dqa_app h2 (.cons hv .nil)
/-! ### statements -/
variable {D : Ends} {tz tu : TS} {i : Nat}
theorem dq_asg (h : EvQ K L te σ H d) (k : ∀ v H1, Ex H H1 → Dq K (W L H1) v d → D.nx (σ.set i (some v)) H1) : tAsg te (gName i) D σ H := h H (Ex.refl H) _ fun v H1 e hv => k v H1 e hv
theorem qq_asg (h : EvQ K L te σ H d) (k : ∀ v H1, Ex H H1 → Dq K (W L H1) v d → tz D (σ.set i (some v)) H1) : tSeq (tAsg te (gName i)) tz D σ H := dq_asg (D := { D with nx := tz D }) h k
theorem dq_ret (h : EvQ K L te σ H d) (k : ∀ v H1, Ex H H1 → Dq K (W L H1) v d → D.rt v H1) : tRet te D σ H := h H (Ex.refl H) _ fun v H1 e hv => k v H1 e hv
theorem qq_lst (hL : Hid L H) (h : EvQs K L ta σ H ds) (hz : ds.length ≤ 100000) (k : ∀ p H1, H p = none → Ex H H1 → Gq K L H1 p ds → tz D (σ.set i (some (.ref p))) H1) : tSeq (tAsg (tLst ta) (gName i)) tz D σ H :=
  h H (Ex.refl H) _ fun vs H1 e hv => ⟨Evl.sz_of (by rw [dqa_len hv]; exact hz), fun p hp => k p _ (Evl.fresh_back e hp) (e.trans (Ex.new hp)) (gq_new (hid_ex e hL) hp hv)⟩
theorem dq_app (hg : Gq K L H l ds) (ho : Evl.Ev tb σ H (.ref l)) (h : EvQ K (l :: L) te σ H d) (hz : ds.length < 100000) (k : ∀ o H1, Ex H H1 → Gq K L (upd H1 l o) l (ds ++ [d]) → D.nx σ (upd H1 l o)) :
    tDrop (tBM K "list" rAppend tb (tCons te tNil)) D σ H := ho H (Ex.refl H) _ fun H1 e1 => by
  obtain ⟨n, xs, h1, h2⟩ := hg
  refine ⟨Or.inl ⟨rfl, xs, SqL.of (e1 l _ h1)⟩, h H1 e1 _ fun v H2 e2 hv => ⟨l, xs, v, rfl, rfl, e2 l _ (e1 l _ h1), Evl.sz_lt (by rw [dqa_len h2]; exact hz), k _ H2 (e1.trans e2) ?_⟩⟩
  exact gq_app n (e2 l _ (e1 l _ h1)) (h2.up (w_ex (e1.trans e2))) hv
theorem qq_app (hg : Gq K L H l ds) (ho : Evl.Ev tb σ H (.ref l)) (h : EvQ K (l :: L) te σ H d) (hz : ds.length < 100000) (k : ∀ o H1, Ex H H1 → Gq K L (upd H1 l o) l (ds ++ [d]) → tz D σ (upd H1 l o)) :
    tSeq (tDrop (tBM K "list" rAppend tb (tCons te tNil))) tz D σ H := dq_app (D := { D with nx := tz D }) hg ho h hz k
/-- xs + ys, the left a list that stands, the right a new one -/
theorem evq_cat {es : List PyData} (hL : Hid L H) (hg : Gq K L H l ds) (ho : Evl.Ev te σ H (.ref l)) (h : EvQs K L ta σ H es) (hz : ds.length + es.length ≤ 100000) : EvQ K L (tOp rCat te (tLst ta)) σ H (.list (ds ++ es)) := fun H1 e1 Q q =>
  ho H1 e1 _ fun H2 e2 => h H2 (e1.trans e2) _ fun vs H3 e3 hv => by
    have eA := (e1.trans e2).trans e3
    obtain ⟨n, xs, h1, h2⟩ := hg
    have l1 := dqa_len h2
    have l2 := dqa_len hv
    refine ⟨Evl.sz_of (by omega), fun p hp => ⟨l, p, xs, vs, rfl, rfl, ?_, upd_same, Evl.sz_of (by omega), fun r hr => ?_⟩⟩
    · exact (eA.trans (Ex.new hp)) l _ h1
    · refine q (.ref r) _ ((e2.trans e3).trans ((Ex.new hp).trans (Ex.new hr))) (.lst (SqL.of (w_new (hid_upd (hid_ex eA hL)) hr)) ?_)
      have z : Ex (W L H3) (W L (upd (upd H3 p (.lst vs)) r (.lst (xs ++ vs)))) := w_ex ((Ex.new hp).trans (Ex.new hr))
      exact dqa_app (((h2.up w_cons).up (w_ex eA)).up z) (hv.up z)
/-- xs.extend(ys), ys a new list -/
theorem dq_ext {es : List PyData} (hg : Gq K L H l ds) (hL : Hid L H) (ho : Evl.Ev tb σ H (.ref l)) (h : EvQs K (l :: L) ta σ H es) (hz : ds.length + es.length ≤ 100000) (k : ∀ o H1, Ex H H1 → Gq K L (upd H1 l o) l (ds ++ es) → D.nx σ (upd H1 l o)) :
    tDrop (tBM K "list" rExtend tb (tCons (tLst ta) tNil)) D σ H := ho H (Ex.refl H) _ fun H1 e1 => by
  obtain ⟨n, xs, h1, h2⟩ := hg
  refine ⟨Or.inl ⟨rfl, xs, SqL.of (e1 l _ h1)⟩, h H1 e1 _ fun vs H2 e2 hv => ?_⟩
  have l1 := dqa_len h2
  have l2 := dqa_len hv
  refine ⟨Evl.sz_of (by omega), fun p hp => ?_⟩
  have e3 : Ex H2 (upd H2 p (.lst vs)) := Ex.new hp
  have eA := (e1.trans e2).trans e3
  refine ⟨l, p, xs, vs, rfl, rfl, eA l _ h1, upd_same, Evl.sz_of (by omega), k _ _ eA ⟨n, xs ++ vs, upd_same, ?_⟩⟩
  rw [w_upd_in (List.mem_cons_self ..)]
  exact dqa_app (h2.up (w_ex eA)) (hv.up (w_ex e3))
theorem qq_ext {es : List PyData} (hg : Gq K L H l ds) (hL : Hid L H) (ho : Evl.Ev tb σ H (.ref l)) (h : EvQs K (l :: L) ta σ H es) (hz : ds.length + es.length ≤ 100000) (k : ∀ o H1, Ex H H1 → Gq K L (upd H1 l o) l (ds ++ es) → tz D σ (upd H1 l o)) :
    tSeq (tDrop (tBM K "list" rExtend tb (tCons (tLst ta) tNil))) tz D σ H := dq_ext (D := { D with nx := tz D }) hg hL ho h hz k
end
/-! ### a comprehension whose items are data -/
section
variable {K : PySem.W.Frag} {L : List Addr} {σ σ2 : L2.St} {H H' H1 H2 : Hp} {te tl : TE} {ta : TA} {tt : TT} {v : V} {d : PyData} {ds : List PyData} {l a Dl : Addr} {xs : List V} {f : Nat → List PyData} {i : Nat}
/-- evaluates to a new list of data -/
def EvGq (K : PySem.W.Frag) (L : List Addr) (te : TE) (σ : L2.St) (H : Hp) (ds : List PyData) : Prop := ∀ H1, Ex H H1 → ∀ Q : VK, (∀ p H2, H1 p = none → Ex H1 H2 → Gq K L H2 p ds → Q (.ref p) H2) → te σ H1 Q
theorem EvGq.mono (e : Ex H H') (h : EvGq K L te σ H ds) : EvGq K L te σ H' ds := fun H1 a Q q => h H1 (e.trans a) Q q
theorem EvGq.dat (h : EvGq K L te σ H ds) : EvQ K L te σ H (.list ds) := fun H1 e Q q => h H1 e _ fun p H2 hp e2 g => q (.ref p) H2 e2 g.dp
def Cmq (K : PySem.W.Frag) (L : List Addr) (H : Hp) (f : Nat → List PyData) (Dl : Addr) (i : Nat) (H' : Hp) : Prop := H Dl = none ∧ Ex H H' ∧ Gq K L H' Dl (f i)
theorem cmq_0 (hL : Hid L H) (hn : H Dl = none) (f0 : f 0 = []) : Cmq K L H f Dl 0 (upd H Dl (.lst [])) := ⟨hn, Ex.new hn, by
  rw [f0]
  exact gq_new hL hn .nil⟩
theorem cmq_yes (p : Cmq K L H f Dl i H') (hz : (f i).length < 100000) (e2 : Ex H' H2) (he : EvQ K (Dl :: L) te σ2 H2 d) (hf : f (i + 1) = f i ++ [d]) :
    te σ2 H2 fun y H4 => ∃ acc, H4 Dl = some (.lst acc) ∧ acc.length < sizeLine ∧ Cmq K L H f Dl (i + 1) (upd H4 Dl (.lst (acc ++ [y]))) := by
  obtain ⟨p1, p2, n, acc, p3, p4⟩ := p
  refine he H2 (Ex.refl H2) _ fun y H4 e4 hy => ⟨acc, e4 Dl _ (e2 Dl _ p3), Evl.sz_lt (by rw [dqa_len p4]; exact hz), p1, Evl.Ex.mut ((p2.trans e2).trans e4) p1, ?_⟩
  rw [hf]
  exact gq_app n (e4 Dl _ (e2 Dl _ p3)) (p4.up (w_ex (e2.trans e4))) hy
theorem cmq_no (p : Cmq K L H f Dl i H') (e2 : Ex H' H2) (hf : f (i + 1) = f i) : Cmq K L H f Dl (i + 1) H2 := by
  obtain ⟨p1, p2, p3⟩ := p
  rw [← hf] at p3
  exact ⟨p1, p2.trans e2, p3.up e2⟩
/-- [.. for x in a list or a tuple of data] -/
theorem egq_seq {j : Nat} {vs : List Nat} {g : PyData → PyData} (h : Evl.Ev tl σ H (.ref a)) (hx : SqL K H a xs ∨ SqT K H a xs) (hd : DqAll K (W L H) xs ds) (hL : Hid L H) (hz : ds.length ≤ 50000) (hw : ∀ x, wipe ((wipe σ vs).set j (some x)) vs = wipe σ vs)
    (he : ∀ L' (x : V) d H1, d ∈ ds → Hid L' H1 → Ex H H1 → Dq K (W L' H1) x d → EvQ K L' te ((wipe σ vs).set j (some x)) H1 (g d)) : EvGq K L (tLc (iSeq K tl) (gName j) tYes te vs) σ H (ds.map g) := fun H0 e0 Q q => h H0 e0 _ fun H1 e1 => by
  have hlen := dqa_len hd
  have turn : ∀ (Dl : Addr) (i : Nat) (x : V) (H2 H3 : Hp), i < xs.length → Cmq K L H1 (fun i => (ds.take i).map g) Dl i H2 → YAt xs i H2 x H3 → gName j x (wipe σ vs) H3 fun σ2 H2 => wipe σ2 vs = wipe σ vs ∧ tYes σ2 H2 fun b H3 =>
      if b = true then te σ2 H3 fun y H4 => ∃ acc, H4 Dl = some (.lst acc) ∧ acc.length < sizeLine ∧ Cmq K L H1 (fun i => (ds.take i).map g) Dl (i + 1) (upd H4 Dl (.lst (acc ++ [y]))) else Cmq K L H1 (fun i => (ds.take i).map g) Dl (i + 1) H3 := by
    intro Dl i x H2 H3 hi p yp
    obtain ⟨rfl, hu⟩ := yp
    obtain ⟨d, hd1, hd2⟩ := dqa_get hd hu
    obtain ⟨p1, p2, p3⟩ := id p
    refine ⟨hw x, ?_⟩
    refine yes_lc (A := fun H3 => te ((wipe σ vs).set j (some x)) H3 fun y H4 => ∃ acc, H4 Dl = some (.lst acc) ∧ acc.length < sizeLine ∧ Cmq K L H1 (fun i => (ds.take i).map g) Dl (i + 1) (upd H4 Dl (.lst (acc ++ [y])))) (B := fun H3 => Cmq K L H1 (fun i => (ds.take i).map g) Dl (i + 1) H3) ?_
    refine cmq_yes p (by simp; omega) (Ex.refl _) (he _ x d _ (List.mem_of_getElem? hd1) ?_ ((e0.trans e1).trans p2) (hd2.up (w_past (Evl.fresh_back (e0.trans e1) p1) ((e0.trans e1).trans p2)))) ?_
    · intro b hb
      rcases List.mem_cons.mp hb with z | z
      · rw [z]
        exact p3.ne
      · exact hid_ex ((e0.trans e1).trans p2) hL b z
    · have hi' : i < ds.length := by omega
      rw [List.take_add_one, hd1]
      simp
  have fin : ∀ Dl H2, Cmq K L H1 (fun i => (ds.take i).map g) Dl xs.length H2 → Q (.ref Dl) H2 := fun Dl H2 p => by
    obtain ⟨p1, p2, p3⟩ := p
    refine q Dl H2 (Evl.fresh_back e1 p1) (e1.trans p2) ?_
    have e : (ds.take xs.length).map g = ds.map g := by rw [hlen, List.take_length]
    rw [← e]
    exact p3
  have hL1 : Hid L H1 := hid_ex (e0.trans e1) hL
  refine ⟨a, rfl, ?_⟩
  rcases hx with x1 | x1
  · refine .inl ⟨⟨xs, Evl.ex_l (e0.trans e1) x1⟩, fun Dl hD => ?_⟩
    exact lc_it (walk_list (xs := xs)) (Cmq K L H1 (fun i => (ds.take i).map g) Dl) (cmq_0 hL1 hD rfl) (fun i H2 _ p => Evl.ex_l ((e0.trans e1).trans p.2.1) x1) (fun i x H2 H3 hi p y => turn Dl i x H2 H3 hi p y) (fun H2 p => fin Dl H2 p)
  · refine .inr ⟨⟨xs, Evl.ex_t (e0.trans e1) x1⟩, fun Dl hD => ?_⟩
    exact lc_it (walk_tup (xs := xs)) (Cmq K L H1 (fun i => (ds.take i).map g) Dl) (cmq_0 hL1 hD rfl) (fun i H2 _ p => Evl.ex_t ((e0.trans e1).trans p.2.1) x1) (fun i x H2 H3 hi p y => turn Dl i x H2 H3 hi p y) (fun H2 p => fin Dl H2 p)
/-- tuple(a new list of data) -/
theorem evq_tupG (h : EvGq K L te σ H ds) (hL : Hid L H) : EvQ K L (tCB (fun xs H Q => ∃ p ys, xs = [.ref p] ∧ ((SqL K H p ys ∧ ∀ l, H l = none → Q (.ref l) (upd H l (.tup ys))) ∨ (SqT K H p ys ∧ Q (.ref p) H))) (tCons te tNil)) σ H (.tuple ds) := fun H1 e Q q =>
  h H1 e _ fun p H2 hp e2 g => by
    obtain ⟨n, ys, g1, g2⟩ := g
    refine ⟨p, ys, rfl, .inl ⟨SqL.of g1, fun r hr => ?_⟩⟩
    exact q (.ref r) _ (e2.trans (Ex.new hr)) (.tup (SqT.of (w_new (hid_ex (e.trans e2) hL) hr)) ((g2.up w_cons).up (w_ex (Ex.new hr))))
/-- tuple(x) of data that are a list or a tuple -/
theorem evq_tupD {x : V} (h : Evl.Ev te σ H x) (hd : Dq K (W L H) x (.list ds) ∨ Dq K (W L H) x (.tuple ds)) (hL : Hid L H) : EvQ K L (tCB (fun xs H Q => ∃ p ys, xs = [.ref p] ∧ ((SqL K H p ys ∧ ∀ l, H l = none → Q (.ref l) (upd H l (.tup ys))) ∨ (SqT K H p ys ∧ Q (.ref p) H))) (tCons te tNil)) σ H (.tuple ds) := fun H1 e Q q =>
  h H1 e _ fun H2 e2 => by
    rcases hd with hd | hd
    · cases hd with
      | @lst p ys _ hs ha =>
        refine ⟨p, ys, rfl, .inl ⟨Evl.ex_l (w_sub.trans (e.trans e2)) hs, fun r hr => ?_⟩⟩
        exact q (.ref r) _ (e2.trans (Ex.new hr)) (.tup (SqT.of (w_new (hid_ex (e.trans e2) hL) hr)) (ha.up (w_ex ((e.trans e2).trans (Ex.new hr)))))
    · have hd' := hd
      cases hd with
      | @tup p ys _ hs ha =>
        exact ⟨p, ys, rfl, .inr ⟨Evl.ex_t (w_sub.trans (e.trans e2)) hs, q (.ref p) H2 e2 (hd'.up (w_ex (e.trans e2)))⟩⟩
/-- list(x) of data that are a list or a tuple -/
theorem egq_list {x : V} (h : Evl.Ev te σ H x) (hd : Dq K (W L H) x (.list ds) ∨ Dq K (W L H) x (.tuple ds)) (hL : Hid L H) : EvGq K L (tCB (fun xs H Q => ∃ p ys, xs = [.ref p] ∧ (SqL K H p ys ∨ SqT K H p ys) ∧ ∀ l, H l = none → Q (.ref l) (upd H l (.lst ys))) (tCons te tNil)) σ H ds := fun H1 e Q q =>
  h H1 e _ fun H2 e2 => by
    rcases hd with hd | hd
    · cases hd with
      | @lst p ys _ hs ha =>
        refine ⟨p, ys, rfl, .inl (Evl.ex_l (w_sub.trans (e.trans e2)) hs), fun r hr => ?_⟩
        exact q r _ (Evl.fresh_back e2 hr) (e2.trans (Ex.new hr)) (gq_new (hid_ex (e.trans e2) hL) hr (ha.up (w_ex (e.trans e2))))
    · cases hd with
      | @tup p ys _ hs ha =>
        refine ⟨p, ys, rfl, .inr (Evl.ex_t (w_sub.trans (e.trans e2)) hs), fun r hr => ?_⟩
        exact q r _ (Evl.fresh_back e2 hr) (e2.trans (Ex.new hr)) (gq_new (hid_ex (e.trans e2) hL) hr (ha.up (w_ex (e.trans e2))))
end
end U

set_option Elab.async false
set_option linter.all false
set_option maxRecDepth 100000
set_option maxHeartbeats 4000000
/-! the law's own look at a rule -/
namespace U
open PySem PySem.Spec PyProof.Rows L2
open Evl (Ex)
abbrev s_Lis_row : Stmt := top 43
abbrev sc_Lis_row_N : List Str := ["_law_thing", "_law_many", "_law_part_here"]
theorem sc_Lis_row : FnScope sc_Lis_row_N ["_law_thing", "_law_many"] (defScope s_Lis_row) := ⟨rfl, rfl, rfl, by decide +kernel, rfl, by decide +kernel, by decide +kernel⟩
abbrev s_is_ends : Stmt := top 44
abbrev sc_is_ends_N : List Str := ["_law_thing", "_law_many", "_law_filled", "_law_row", "_law_part_here"]
theorem sc_is_ends : FnScope sc_is_ends_N ["_law_thing", "_law_many"] (defScope s_is_ends) := ⟨rfl, rfl, rfl, by decide +kernel, rfl, by decide +kernel, by decide +kernel⟩
abbrev scI : Scope := { kind := .function, names := [(".0", .local), ("_law_row", .local)], isGenerator := false, isCoroutine := false }
def g0 : PyData → PyData
  | .none => .int 0
  | x => x
def fillD (d : PyData) : PyData := .list ((entries d).map g0)
theorem isI_g0 {d : PyData} : isI (g0 d) = isNI d := by
  cases d <;> rfl
theorem isP_fill {p : Int} {d : PyData} (h : isR d = true) : isP p (fillD d) = isB p d := by
  have e : ((entries d).map g0).all isI = (entries d).all isNI := by
    rw [List.all_map]
    exact congrArg (entries d).all (funext fun x => isI_g0)
  show (decide ((((entries d).map g0).length : Int) = p) && ((entries d).map g0).all isI) = _
  rw [e, List.length_map]
  cases d with
  | list ds => rfl
  | tuple ds => rfl
  | _ => cases h
theorem isB_R {p : Int} {d : PyData} (h : isB p d = true) : isR d = true := (isO_R (Bool.and_eq_true_iff.mp h).1).1
theorem fits_row {n : Nat} {d : PyData} (h : fits n d) (hr : isR d = true) : ∃ m, n = m + 1 ∧ (entries d).length ≤ 40000 ∧ ∀ x ∈ entries d, fits m x := by
  cases d with
  | list ds =>
    cases n with
    | zero => exact h.elim
    | succ m => exact ⟨m, rfl, h.1, h.2⟩
  | tuple ds =>
    cases n with
    | zero => exact h.elim
    | succ m => exact ⟨m, rfl, h.1, h.2⟩
  | _ => cases hr
theorem fits_list {n : Nat} {ds : List PyData} {f : PyData → PyData} (hl : ds.length ≤ 40000) (h : ∀ x ∈ ds, fits n (f x)) : fits (n + 1) (.list (ds.map f)) := ⟨by rw [List.length_map]; exact hl, fun z hz => by
  obtain ⟨x, hx, rfl⟩ := List.mem_map.mp hz
  exact h x hx⟩
theorem fits_g0 {n : Nat} {d : PyData} (h : fits n d) : fits n (g0 d) := by
  cases d with
  | none => cases n <;> trivial
  | _ => exact h
theorem fits_fill {n : Nat} {d : PyData} (h : fits n d) (hr : isR d = true) : fits n (fillD d) := by
  obtain ⟨m, rfl, hl, hx⟩ := fits_row h hr
  exact fits_list hl fun x m => fits_g0 (hx x m)
section
variable {K : PySem.W.Frag} {H : Hp} {σ : L2.St} {te : TE} {v : V} {d : PyData}
theorem ev_isR2 (h : Evl.Ev te σ H v) (hd : Dq K H v d) : Evl.Ev (tCB (rIsiT K) (tCons te (tCons (tTup (tCons (tC (.ty "list")) (tCons (tC (.ty "tuple")) tNil))) tNil))) σ H (.bl (isR d)) := by
  cases d with
  | none => exact evq_isi2 h hd isi_NoneType_list_tuple
  | bool z => exact evq_isi2 h hd isi_bool_list_tuple
  | int z => exact evq_isi2 h hd isi_int_list_tuple
  | str z => exact evq_isi2 h hd isi_str_list_tuple
  | list ds => exact evq_isi2 h hd isi_list_list_tuple
  | tuple ds => exact evq_isi2 h hd isi_tuple_list_tuple
  | dict z => exact evq_isi2 h hd isi_dict_list_tuple
theorem ev_isIb (h : Evl.Ev te σ H v) (hd : Dq K H v d) : Evl.Ev (tAndV (tCB (rIsi K) (tCons te (tCons (tC (.ty "int")) tNil))) (tNotV (tCB (rIsi K) (tCons te (tCons (tC (.ty "bool")) tNil))))) σ H (.bl (isI d)) := by
  cases d with
  | none => exact Evl.ev_andV (a := false) (b := false) (evq_isi h hd isi_NoneType_int) fun z => nomatch z
  | bool z => exact Evl.ev_andV (a := true) (b := false) (evq_isi h hd isi_bool_int) fun _ => Evl.ev_notV (a := true) (evq_isi h hd isi_bool_bool)
  | int z => exact Evl.ev_andV (a := true) (b := true) (evq_isi h hd isi_int_int) fun _ => Evl.ev_notV (a := false) (evq_isi h hd isi_int_bool)
  | str z' => exact Evl.ev_andV (a := false) (b := false) (evq_isi h hd isi_str_int) fun z => nomatch z
  | list ds => exact Evl.ev_andV (a := false) (b := false) (evq_isi h hd isi_list_int) fun z => nomatch z
  | tuple ds => exact Evl.ev_andV (a := false) (b := false) (evq_isi h hd isi_tuple_int) fun z => nomatch z
  | dict z' => exact Evl.ev_andV (a := false) (b := false) (evq_isi h hd isi_dict_int) fun z => nomatch z
theorem q_asgGq {L : List Addr} {ds : List PyData} {D : Ends} {tz : TS} {i : Nat} (h : EvGq K L te σ H ds) (k : ∀ u H1, Ex H H1 → Gq K L H1 u ds → tz D (σ.set i (some (.ref u))) H1) : tSeq (tAsg te (gName i)) tz D σ H := h H (Ex.refl H) _ fun u H1 _ e g => k u H1 e g
/-- len(x) of a list or a tuple -/
theorem ev_lenD (h : Evl.Ev te σ H v) (hd : Dq K H v d) (hr : isR d = true) (hw : ∃ n, fits n d) : Evl.Ev (tCB (fun xs H Q => ∃ p ys, xs = [V.ref p] ∧ (SqL K H p ys ∨ SqT K H p ys) ∧ Q (.int ys.length) H) (tCons te tNil)) σ H (.int ((entries d).length : Int)) := by
  obtain ⟨a, xs, rfl, hx, ha, _, _⟩ := seq_of hd hr hw
  exact Evl.ev_is (ev_lenS h hx) (by rw [dqa_len ha])
end
section
variable {P : Program} {w : World} {K : PySem.W.Frag} {mg : Str → Option Value} {base : Heap} {c : KC}
theorem ok_Lis_row {f : Addr} {fd : FuncData} (F : Fun K "_law_is_row" "_law_is_row" s_Lis_row f fd) (T : TxB mg) : FnOk P w K mg base CX0 1 f fd ["_law_thing", "_law_many"] (spBp K isP) := by
  refine F.ok sc_Lis_row (fun vs H Q E h => ?_) (fun cdv A outer s H vs Q E hr h => ?_)
  · obtain ⟨_, _, _, rfl, _⟩ := h
    rfl
  · obtain ⟨v, d, p, rfl, hd, hw, k⟩ := h
    refine ⟨_, (pss_cons (ps_if (PW.pt (pw_or (pt_not (pt_val (pe_callB call_isiT (by rfl) T.m_isinstance (by decide +kernel) (pa_cons (pv 0) (pa_cons (pe_tup (pa_cons (pe_bltn (v := .ty "list") (by rfl) T.m_list (by decide +kernel) rfl) (pa_cons (pe_bltn (v := .ty "tuple") (by rfl) T.m_tuple (by decide +kernel) rfl) pa_nil))) pa_nil))))) (pw_or1 (pt_cmpR op_ne (pe_callB call_len_seq (by rfl) T.m_len (by decide +kernel) (pa_cons (pv 0) pa_nil)) (pv 1) (nomark _))))) (pss_one (ps_ret pe_bl)) pss_nil)
    (pss_one (ps_ret (pe_callB (cr_all rfl) (by rfl) T.m_all (by decide +kernel) (pa_cons (pe_lc (own := [("_law_part_here", 2)]) (g := gName 2) (tt := tYes) (te := tAndV (tCB (rIsi K) (tCons (tVar 2) (tCons (tC (.ty "int")) tNil))) (tNotV (tCB (rIsi K) (tCons (tVar 2) (tCons (tC (.ty "bool")) tNil))))) (by rfl) sc_Lis_row.nd (pi_seq (pv 0)) (blkOk_by (N := sc_Lis_row_N) (sc := defScope s_Lis_row) (by decide +kernel)) (fun _ _ _ _ _ => (pg_name (i := 2) sc_Lis_row.nd rfl (by first | exact Or.inl rfl | exact Or.inr rfl))) (fun _ _ _ _ _ => pts_nil) (fun _ _ _ _ _ => (pe_and (pe_callB call_isi (by rfl) T.m_isinstance (by decide +kernel) (pa_cons (pv 2) (pa_cons (pe_bltn (v := .ty "int") (by rfl) T.m_int (by decide +kernel) rfl) pa_nil))) (pe_one (pe_not (pe_callB call_isi (by rfl) T.m_isinstance (by decide +kernel) (pa_cons (pv 2) (pa_cons (pe_bltn (v := .ty "bool") (by rfl) T.m_bool (by decide +kernel) rfl) pa_nil)))))))) pa_nil))))), ?_⟩
    have v0 : ∀ H1, Evl.Ev (tVar 0) (start sc_Lis_row_N [v, .int p]) H1 v := fun H1 => Evl.ev_var rfl
    have v1 : ∀ H1, Evl.Ev (tVar 1) (start sc_Lis_row_N [v, .int p]) H1 (.int p) := fun H1 => Evl.ev_var rfl
    have eP : isP p d = (isR d && (decide (((entries d).length : Int) = p) && allD isI d)) := by
      cases d <;> rfl
    refine Evl.q_when (b := !isR d || !decide (((entries d).length : Int) = p)) (Evl.et_or (Evl.et_not (Evl.et_B (ev_isR2 (v0 H) hd))) fun z => ?_) (fun z H1 e1 => ?_) (fun z H1 e1 => ?_)
    · have z1 : isR d = true := by simpa using z
      refine Evl.et_is (Evl.et_test (Evl.ev_op (ev_lenD (v0 H) hd z1 hw) (v1 H) (Evl.rv_ne rfl))) ?_
      simp
    · refine Evl.s_ret (v := .bl (isP p d)) (Evl.ev_is Evl.ev_c (congrArg V.bl ?_)) fun H2 e2 => k H2 (e1.trans e2)
      rw [eP]
      rcases Bool.or_eq_true_iff.mp z with z | z
      · have z1 : isR d = false := by simpa using z
        rw [z1]
        rfl
      · have z1 : decide (((entries d).length : Int) = p) = false := by simpa using z
        rw [z1]
        simp
    · have z' : isR d = true ∧ decide (((entries d).length : Int) = p) = true := by simpa using z
      refine Evl.s_ret (v := .bl (isP p d)) (Evl.ev_is (ev_allQ (f := isI) (v0 H1) (hd.up e1) z'.1 hw (fun _ => rfl) fun x e H2 we e2 hd' => ev_isIb (Evl.ev_var rfl) hd') (congrArg V.bl ?_)) fun H2 e2 => k H2 (e1.trans e2)
      rw [eP, z'.1, z'.2]
      rfl
theorem ok_is_ends {f : Addr} {fd : FuncData} (F : Fun K "_law_is_ends" "_law_is_ends" s_is_ends f fd) (T : TxB mg) (D_Lis_row : DefAt P w K mg base "_law_is_row" 1 ["_law_thing", "_law_many"] (spBp K isP)) : FnOk P w K mg base CX0 2 f fd ["_law_thing", "_law_many"] (spBp K fun p d => isR d && allD (isB p) d) := by
  refine F.ok sc_is_ends (fun vs H Q E h => ?_) (fun cdv A outer s H vs Q E hr h => ?_)
  · obtain ⟨_, _, _, rfl, _⟩ := h
    rfl
  · obtain ⟨v, d, p, rfl, hd, hw, k⟩ := h
    refine ⟨_, (pss_cons (ps_if (PW.pt (pw_or (pt_not (pt_val (pe_callB call_isiT (by rfl) T.m_isinstance (by decide +kernel) (pa_cons (pv 0) (pa_cons (pe_tup (pa_cons (pe_bltn (v := .ty "list") (by rfl) T.m_list (by decide +kernel) rfl) (pa_cons (pe_bltn (v := .ty "tuple") (by rfl) T.m_tuple (by decide +kernel) rfl) pa_nil))) pa_nil))))) (pw_or1 (pt_not (pt_val (pe_callB (cr_all rfl) (by rfl) T.m_all (by decide +kernel) (pa_cons (pe_lc (own := [("_law_row", 3)]) (g := gName 3) (tt := tYes) (te := (tCB (rIsiT K) (tCons (tVar 3) (tCons (tTup (tCons (tC (.ty "list")) (tCons (tC (.ty "tuple")) tNil))) tNil)))) (by rfl) sc_is_ends.nd (pi_seq (pv 0)) (blkOk_by (N := sc_is_ends_N) (sc := defScope s_is_ends) (by decide +kernel)) (fun _ _ _ _ _ => (pg_name (i := 3) sc_is_ends.nd rfl (by first | exact Or.inl rfl | exact Or.inr rfl))) (fun _ _ _ _ _ => pts_nil) (fun _ _ _ _ _ => (pe_callB call_isiT (by rfl) T.m_isinstance (by decide +kernel) (pa_cons (pv 3) (pa_cons (pe_tup (pa_cons (pe_bltn (v := .ty "list") (by rfl) T.m_list (by decide +kernel) rfl) (pa_cons (pe_bltn (v := .ty "tuple") (by rfl) T.m_tuple (by decide +kernel) rfl) pa_nil))) pa_nil))))) pa_nil))))))) (pss_one (ps_ret pe_bl)) pss_nil)
    (pss_cons (ps_setLc (i := 2) (own := [("_law_row", 3)]) (g := gName 3) (tt := tYes) (te := tLc (iSeq K (tVar 3)) (gName 4) tYes (tIf (tB (tIsN (tVar 4))) (tC (.int 0)) (tVar 4)) [4]) (by rfl) sc_is_ends.nd rfl rfl (sw_true rfl rfl rfl (by decide +kernel)) (pi_seq (pv 0)) (blkOk_by (N := sc_is_ends_N) (sc := defScope s_is_ends) (by decide +kernel)) (fun _ _ _ _ _ => (pg_name (i := 3) sc_is_ends.nd rfl (by first | exact Or.inl rfl | exact Or.inr rfl))) (fun _ _ _ _ _ => pts_nil) (fun _ _ _ _ _ => (pe_lc (own := [("_law_part_here", 4)]) (g := gName 4) (tt := tYes) (te := tIf (tB (tIsN (tVar 4))) (tC (.int 0)) (tVar 4)) (by rfl) sc_is_ends.nd (pi_seq (pv 3)) (blkOk_by (N := sc_is_ends_N) (sc := scI) (by decide +kernel)) (fun _ _ _ _ _ => (pg_name (i := 4) sc_is_ends.nd rfl (by first | exact Or.inl rfl | exact Or.inr rfl))) (fun _ _ _ _ _ => pts_nil) (fun _ _ _ _ _ => (pe_ifExp (pt_cmp (pc_isN (pv 4)) rfl) pe_int (pv 4))))))
    (pss_one (ps_ret (pe_callB (cr_all rfl) (by rfl) T.m_all (by decide +kernel) (pa_cons (pe_lc (own := [("_law_row", 3)]) (g := gName 3) (tt := tYes) (te := tCallD (spBp K isP) (tCons (tVar 3) (tCons (tVar 1) tNil))) (by rfl) sc_is_ends.nd (pi_seq (pv 2)) (blkOk_by (N := sc_is_ends_N) (sc := defScope s_is_ends) (by decide +kernel)) (fun _ _ _ _ _ => (pg_name (i := 3) sc_is_ends.nd rfl (by first | exact Or.inl rfl | exact Or.inr rfl))) (fun _ _ _ _ _ => pts_nil) (fun _ _ _ _ _ => (pe_callD D_Lis_row (by first | exact hr | exact hr.mono (by decide) | exact hr.mono (by omega)) (by rfl) (pa_cons (pv 3) (pa_cons (pv 1) pa_nil))))) pa_nil)))))), ?_⟩
    have v0 : ∀ H1, Evl.Ev (tVar 0) (start sc_is_ends_N [v, .int p]) H1 v := fun H1 => Evl.ev_var rfl
    refine Evl.q_when (b := !isR d || !allD isR d) (Evl.et_or (Evl.et_not (Evl.et_B (ev_isR2 (v0 H) hd))) fun z => ?_) (fun z H1 e1 => ?_) (fun z H1 e1 => ?_)
    · have z1 : isR d = true := by simpa using z
      exact Evl.et_not (Evl.et_B (ev_allQ (f := isR) (v0 H) hd z1 hw (fun _ => rfl) fun x e H2 we e2 hd' => ev_isR2 (Evl.ev_var rfl) hd'))
    · refine Evl.s_ret (v := .bl (isR d && allD (isB p) d)) (Evl.ev_is Evl.ev_c (congrArg V.bl ?_)) fun H2 e2 => k H2 (e1.trans e2)
      rcases Bool.or_eq_true_iff.mp z with z | z
      · have z1 : isR d = false := by simpa using z
        rw [z1]
        rfl
      · have z1 : allD isR d = false := by simpa using z
        have z2 : allD (isB p) d = false := by
          apply Bool.eq_false_iff.mpr
          intro q
          refine Bool.eq_false_iff.mp z1 (List.all_eq_true.mpr fun x hx => isB_R (List.all_eq_true.mp q x hx))
        rw [z2]
        simp
    · have z' : isR d = true ∧ allD isR d = true := by simpa using z
      obtain ⟨z1, z2⟩ := z'
      have hd1 := hd.up e1
      obtain ⟨a, xs, rfl, hx, ha, hl, hf⟩ := seq_of hd1 z1 hw
      have row : ∀ e ∈ entries d, isR e = true := fun e m => List.all_eq_true.mp z2 e m
      have eg : EvGq K [] (tLc (iSeq K (tVar 0)) (gName 3) tYes (tLc (iSeq K (tVar 3)) (gName 4) tYes (tIf (tB (tIsN (tVar 4))) (tC (.int 0)) (tVar 4)) [4]) [3]) (start sc_is_ends_N [.ref a, .int p]) H1 ((entries d).map fillD) := by
        refine egq_seq (g := fillD) (v0 H1) hx (by rw [w_nil]; exact ha) (fun b hb => nomatch hb) (by omega) (fun _ => rfl) fun L' x e H2 m hL' e2 hd' => ?_
        obtain ⟨b, ys, rfl, hy, hb, hl2, hf2⟩ := seq_of hd' (row e m) (hf e m)
        refine EvGq.dat (egq_seq (g := g0) (Evl.ev_var rfl) (hy.elim (fun h => .inl (Evl.ex_l w_sub h)) fun h => .inr (Evl.ex_t w_sub h)) hb hL' (by omega) (fun _ => rfl) fun L2 y u H3 m3 hL2 e3 hdu => ?_)
        have vy : Evl.Ev (tVar 4) ((wipe ((wipe (start sc_is_ends_N [.ref a, .int p]) [3]).set 3 (some (.ref b))) [4]).set 4 (some y)) H3 y := Evl.ev_var rfl
        have tst : ∀ q : Bool, decide (y = .non) = q → Evl.EvT (tB (tIsN (tVar 4))) ((wipe ((wipe (start sc_is_ends_N [.ref a, .int p]) [3]).set 3 (some (.ref b))) [4]).set 4 (some y)) H3 q := fun q hq => Evl.et_B fun H4 e4 Q hQ => vy H4 e4 _ fun H5 e5 => by
          rw [hq]
          exact hQ H5 e5
        cases u with
        | none =>
          cases hdu
          exact evq_of (Evl.ev_if (b := true) (tst true (by simp)) (fun _ => Evl.ev_c) fun z => nomatch z) (.int 0)
        | _ =>
          have ne : decide (y = .non) = false := by
            cases hdu <;> simp
          exact evq_of (Evl.ev_if (b := false) (tst false ne) (fun z => nomatch z) fun _ => vy) hdu
      refine q_asgGq eg fun t H2 e2 gr => ?_
      obtain ⟨n, hn⟩ := hw
      obtain ⟨m, rfl, _, hx2⟩ := fits_row hn z1
      have fw : fits (m + 1) (.list ((entries d).map fillD)) := fits_list hl fun x hxm => fits_fill (hx2 x hxm) (row x hxm)
      have dt : Dq K H2 (.ref t) (.list ((entries d).map fillD)) := gr.dp.up w_sub
      refine Evl.s_ret (v := .bl (isR d && allD (isB p) d)) (Evl.ev_is (ev_allQ (f := isP p) (d := .list ((entries d).map fillD)) (Evl.ev_var rfl) dt rfl ⟨_, fw⟩ (fun _ => rfl) fun x e H3 we e3 hd' => ev_spBpq (Evl.ev_var rfl) (Evl.ev_var rfl) hd' we) (congrArg V.bl ?_)) fun H3 e3 => k H3 ((e1.trans e2).trans e3)
      rw [z1]
      show ((entries d).map fillD).all (isP p) = (entries d).all (isB p)
      rw [List.all_map]
      apply Bool.eq_iff_iff.mpr
      rw [List.all_eq_true, List.all_eq_true]
      exact ⟨fun q x hx => by rw [← isP_fill (row x hx)]; exact q x hx, fun q x hx => by
        show isP p (fillD x) = true
        rw [isP_fill (row x hx)]
        exact q x hx⟩
end
end U

set_option Elab.async false
set_option linter.all false
set_option maxRecDepth 100000
set_option maxHeartbeats 2000000
/-! list(zip(a, b)), each a list or a tuple: the reading, and what is walked. The rule itself is still to be proved. -/
namespace U
open PySem PySem.Spec PyProof.Rows L2
open Evl (Ex)
def tZipL (K : PySem.W.Frag) (ta tb : TE) : TE := fun σ H Q => ta σ H fun x H1 => tb σ H1 fun y H2 => ∃ a b xs ys, x = .ref a ∧ y = .ref b ∧ (SqL K H2 a xs ∨ SqT K H2 a xs) ∧ (SqL K H2 b ys ∨ SqT K H2 b ys) ∧ xs.length ≤ 1000 ∧
  ∀ p H3 (ps : List Addr), H2 p = none → Ex H2 H3 → H3 p = some (.lst (ps.map V.ref)) → ps.length = min xs.length ys.length → (∀ (i : Nat) u, ps[i]? = some u → ∃ x y, xs[i]? = some x ∧ ys[i]? = some y ∧ H3 u = some (.tup [x, y])) → Q (.ref p) H3
/-- the rule, to be proved -/
def ZipRule (mg : Str → Option Value) : Prop := ∀ (X : Cx) (e1 e2 : Expr) (ta tb : TE) (p1 p2 q1 q2 : Pos), X.mg = mg → X.calm = true → Room 2 X.A → X.mg "list" = none → X.mg "zip" = none → Gl X "list" → Gl X "zip" → PE X e1 ta → PE X e2 tb →
  starEach [e1, e2] X.env = (false, eval e1 X.env) :: starEach [e2] X.env → starEach [e2] X.env = (false, eval e2 X.env) :: starEach [] X.env →
  starEach [.Call (.Name "zip" p2) [e1, e2] [] q2] X.env = (false, eval (.Call (.Name "zip" p2) [e1, e2] [] q2) X.env) :: starEach [] X.env →
  PE X (.Call (.Name "list" p1) [.Call (.Name "zip" p2) [e1, e2] [] q2] [] q1) (tZipL X.K ta tb)
section
variable {K : PySem.W.Frag} {σ : L2.St} {H : Hp} {a : Addr} {xs ys : List V}
theorem el_prB {tl te : TE} {ps : List Addr} {j1 j2 : Nat} {vs : List Nat} {g : Nat → Bool} (h : Evl.Ev tl σ H (.ref a)) (ha : H a = some (.lst (ps.map V.ref))) (hz : ps.length ≤ 40000)
    (hp : ∀ (i : Nat) u, ps[i]? = some u → ∃ x y, xs[i]? = some x ∧ ys[i]? = some y ∧ H u = some (.tup [x, y])) (hw : ∀ x y, wipe (((wipe σ vs).set j1 (some x)).set j2 (some y)) vs = wipe σ vs)
    (he : ∀ (i : Nat) (x y : V) H1, i < ps.length → Ex H H1 → xs[i]? = some x → ys[i]? = some y → Evl.Ev te (((wipe σ vs).set j1 (some x)).set j2 (some y)) H1 (.bl (g i))) :
    Evl.EvL (tLc (iSeq K tl) (gTup K 2 (gCons (gName j1) (gCons (gName j2) gNil))) tYes te vs) σ H (((List.range ps.length).map g).map V.bl) := fun H0 e0 Q q => h H0 e0 _ fun H1 e1 => by
  let w : Nat → V := fun i => .bl (g i)
  have turn : ∀ (Dl : Addr) (i : Nat) (x : V) (H2 H3 : Hp), i < (ps.map V.ref).length → Cm H1 w Dl i H2 → YAt (ps.map V.ref) i H2 x H3 → gTup K 2 (gCons (gName j1) (gCons (gName j2) gNil)) x (wipe σ vs) H3 fun σ2 H2 => wipe σ2 vs = wipe σ vs ∧ tYes σ2 H2 fun b H3 =>
      if b = true then te σ2 H3 fun y H4 => ∃ acc, H4 Dl = some (.lst acc) ∧ acc.length < sizeLine ∧ Cm H1 w Dl (i + 1) (upd H4 Dl (.lst (acc ++ [y]))) else Cm H1 w Dl (i + 1) H3 := by
    intro Dl i x H2 H3 hi p yp
    obtain ⟨rfl, hu⟩ := yp
    rw [List.length_map] at hi
    obtain ⟨u, hu1, rfl⟩ : ∃ u, ps[i]? = some u ∧ x = .ref u := by
      rw [List.getElem?_map] at hu
      obtain ⟨u, h1, h2⟩ := Option.map_eq_some_iff.mp hu
      exact ⟨u, h1, h2.symm⟩
    obtain ⟨x1, y1, h1, h2, h3⟩ := hp i u hu1
    have eA := (e0.trans e1).trans p.2.1
    refine ⟨u, [x1, y1], rfl, SqT.of (eA _ _ h3), rfl, x1, [y1], rfl, y1, [], rfl, rfl, hw x1 y1, ?_⟩
    exact yes_lc (A := fun H3 => te ((List.set (wipe σ vs) j1 (some x1)).set j2 (some y1)) H3 fun y H4 => ∃ acc, H4 Dl = some (.lst acc) ∧ acc.length < sizeLine ∧ Cm H1 w Dl (i + 1) (upd H4 Dl (.lst (acc ++ [y])))) (B := fun H3 => Cm H1 w Dl (i + 1) H3) <| cm_turn p (by omega) _ (Ex.refl _) (he i x1 y1 _ hi (e0.trans e1) h1 h2)
  have fin : ∀ Dl H2, Cm H1 w Dl (ps.map V.ref).length H2 → Q (.ref Dl) H2 := fun Dl H2 p => by
    obtain ⟨p1, p2, p3⟩ := p
    refine q Dl H2 (Evl.fresh_back e1 p1) (e1.trans p2) ?_
    rw [List.length_map] at p3
    rw [List.map_map]
    exact p3
  have x1 : SqL K H1 a (ps.map V.ref) := SqL.of ((e0.trans e1) _ _ ha)
  refine ⟨a, rfl, .inl ⟨⟨_, x1⟩, fun Dl hD => ?_⟩⟩
  exact lc_it (walk_list (xs := ps.map V.ref)) (Cm H1 w Dl) (cm_0 hD) (fun i H2 _ p => Evl.ex_l p.2.1 x1) (fun i x H2 H3 hi p y => turn Dl i x H2 H3 hi p y) (fun H2 p => fin Dl H2 p)
end
end U

set_option Elab.async false
set_option linter.all false
set_option maxRecDepth 100000
set_option maxHeartbeats 2000000
/-! a zip of iterators of any kind whose pairs are kept: its next, its state, a list grown by it -/
namespace U
open PySem PySem.Spec
section
variable {prog : Program} {w : World} {A : Around} {E : Value → Shared → Prop} {s : Shared} {z TI TO T i1 i2 : Addr} {fp1 fp2 : List Addr} {n1 n2 i : Nat} {P1 P2 : Nat → Value → Prop} {St1 St2 : Nat → Heap → Prop}
theorem zh_item {f : Bool} {oT : Obj} {Q : Value → Shared → Prop} (S : ZipSep2 z TI TO i1 i2 fp1 fp2) (D1 : Draws prog w A i1 fp1 n1 P1 St1) (D2 : Draws prog w A i2 fp2 n2 P2 St2)
    (hz : IsZipHeld s.heap z TI TO T f) (hT : s.heap.get? T = some oT) (hTI : IsTupOf2 s.heap TI (.ref i1) (.ref i2)) (t1 : St1 i s.heap) (t2 : St2 i s.heap) (lt1 : i < n1) (lt2 : i < n2)
    (fin : ∀ x y h' tk, P1 i x → P2 i y → IsZipHeld h' z TI TO T true → St1 (i + 1) h' → St2 (i + 1) h' → IsTupOf2 h' s.heap.objs.size x y → h'.objs.size = s.heap.objs.size + 1 →
      (∀ c o, c ≠ z → c ≠ i1 → c ≠ i2 → s.heap.get? c = some o → h'.get? c = some o) → Q (.ref s.heap.objs.size) { s with heap := h', toks := tk }) :
    wpAny (model prog w) A (Builtin.«zip.__next__» ⟨[.ref z], []⟩) (fun r s' => ∃ v, r = .done (.ret v) ∧ Q v s') E s := by
  obtain ⟨hp, gs, dr, tk0, os⟩ := s
  show wpAny _ _ (field (.ref z) 2 >>= _) _ _ _
  refine wpAny_bind (wpAny_field hz rfl (x := .bool false) rfl ?_)
  show wpAny _ _ (field (.ref z) 3 >>= _) _ _ _
  refine wpAny_bind (wpAny_field hz rfl (x := .ref TI) rfl (wpAny_bind (wpAny_seqItems hTI rfl ?_)))
  refine wpAny_bind (m := Builtin.SmallTypes.ownedTupleIsFree (.ref z)) (wpAny_tupleHeld_zip hz hT fun ha za sa => ?_)
  replace sa : Heap.SameBut z hp ha := sa
  rw [if_neg Bool.false_ne_true]
  refine wpAny_bind ?_
  rw [← Array.forIn_toList]
  simp only [List.forIn_cons, List.forIn_nil]
  refine wpAny_bind (wpAny_bind (wpAny_holding ?_))
  show wpAny _ _ (Builtin.SmallTypes.nextOf (.ref i1) >>= _) _ _ ⟨ha, gs, dr, tk0, os⟩
  refine wpAny_bind (D1.item i _ _ _ lt1 (D1.over t1 sa S.zf1) fun x hb tk1 p1 u1 sb => wpAny_pure (wpAny_pure ?_))
  replace sb : Heap.SameBut i1 ha hb := sb
  refine wpAny_bind (wpAny_bind (wpAny_holding ?_))
  show wpAny _ _ (Builtin.SmallTypes.nextOf (.ref i2) >>= _) _ _ ⟨hb, gs, dr, tk1, os⟩
  refine wpAny_bind (D2.item i _ _ _ lt2 (D2.over (D2.over t2 sa S.zf2) sb S.sep1_2) fun y hc tk2 p2 u2 sc => wpAny_pure (wpAny_pure (wpAny_pure ?_)))
  replace sc : Heap.SameBut i2 hb hc := sc
  show wpAny _ _ (newTuple [x, y] >>= _) _ _ ⟨hc, gs, dr, tk2, os⟩
  refine wpAny_bind (wpAny_newTuple ?_)
  have size : hc.objs.size = hp.objs.size := sc.1.trans (sb.1.trans sa.1)
  have kz : IsZipHeld hc z TI TO T true := sc.extBut _ _ S.zi2 (sb.extBut _ _ S.zi1 za)
  have kk : ∀ c o, c ≠ z → c ≠ i1 → c ≠ i2 → hp.get? c = some o → hc.get? c = some o := fun c o c1 c2 c3 e => sc.extBut _ _ c3 (sb.extBut _ _ c2 (sa.extBut _ _ c1 e))
  have up : ∀ b o, hc.get? b = some o → (hc.push { cls := .type "tuple", data := .seq #[x, y] }).get? b = some o := fun b o e => Heap.get?_push_of_some _ e
  have pr : IsTupOf2 (hc.push { cls := .type "tuple", data := .seq #[x, y] }) hc.objs.size x y := Heap.get?_push_size _ rfl
  have sz : (hc.push { cls := .type "tuple", data := .seq #[x, y] }).objs.size = hc.objs.size + 1 := Heap.size_push ..
  refine wpAny_pure ⟨_, rfl, ?_⟩
  show Q (.ref hc.objs.size) _
  rw [size] at pr sz ⊢
  exact fin x y _ tk2 p1 p2 (up _ _ kz) (D1.frame _ _ _ (D1.over u1 sc S.sep2_1) fun b _ o e => up b o e) (D2.frame _ _ _ u2 fun b _ o e => up b o e) pr sz fun c o c1 c2 c3 e => up c o (kk c o c1 c2 c3 e)
theorem zh_end {f : Bool} {oT : Obj} {Q : Fin → Shared → Prop} (S : ZipSep2 z TI TO i1 i2 fp1 fp2) (D1 : Draws prog w A i1 fp1 n1 P1 St1) (D2 : Draws prog w A i2 fp2 n2 P2 St2)
    (hz : IsZipHeld s.heap z TI TO T f) (hT : s.heap.get? T = some oT) (hTI : IsTupOf2 s.heap TI (.ref i1) (.ref i2)) (t1 : St1 i s.heap) (t2 : St2 i s.heap) (le1 : i ≤ n1) (le2 : i ≤ n2) (hend : i = n1 ∨ i = n2)
    (out : ∀ h' tk e, (∀ c o, c ≠ z → c ≠ i1 → c ≠ i2 → s.heap.get? c = some o → h'.get? c = some o) → (∃ o, h'.get? e = some o ∧ o.cls = .type "StopIteration") → E (.ref e) { s with heap := h', toks := tk }) :
    wpAny (model prog w) A (Builtin.«zip.__next__» ⟨[.ref z], []⟩) Q E s := by
  obtain ⟨hp, gs, dr, tk0, os⟩ := s
  show wpAny _ _ (field (.ref z) 2 >>= _) _ _ _
  refine wpAny_bind (wpAny_field hz rfl (x := .bool false) rfl ?_)
  show wpAny _ _ (field (.ref z) 3 >>= _) _ _ _
  refine wpAny_bind (wpAny_field hz rfl (x := .ref TI) rfl (wpAny_bind (wpAny_seqItems hTI rfl ?_)))
  refine wpAny_bind (m := Builtin.SmallTypes.ownedTupleIsFree (.ref z)) (wpAny_tupleHeld_zip hz hT fun ha za sa => ?_)
  replace sa : Heap.SameBut z hp ha := sa
  rw [if_neg Bool.false_ne_true]
  refine wpAny_bind ?_
  rw [← Array.forIn_toList]
  simp only [List.forIn_cons, List.forIn_nil]
  refine wpAny_bind (wpAny_bind (wpAny_holding ?_))
  show wpAny _ _ (Builtin.SmallTypes.nextOf (.ref i1) >>= _) _ _ ⟨ha, gs, dr, tk0, os⟩
  rcases Nat.lt_or_ge i n1 with lt1 | ge1
  · refine wpAny_bind (D1.item i _ _ _ lt1 (D1.over t1 sa S.zf1) fun x hb tk1 p1 u1 sb => wpAny_pure (wpAny_pure ?_))
    replace sb : Heap.SameBut i1 ha hb := sb
    refine wpAny_bind (wpAny_bind (wpAny_holding ?_))
    show wpAny _ _ (Builtin.SmallTypes.nextOf (.ref i2) >>= _) _ _ ⟨hb, gs, dr, tk1, os⟩
    have e2 : i = n2 := by omega
    subst e2
    refine wpAny_bind (D2.done _ _ _ (D2.over (D2.over t2 sa S.zf2) sb S.sep1_2) fun hc e kc he => ?_)
    exact out hc tk1 e (fun c o c1 c2 c3 q => kc _ _ c3 (sb.extBut _ _ c2 (sa.extBut _ _ c1 q))) he
  · have e1 : i = n1 := by omega
    subst e1
    refine wpAny_bind (D1.done _ _ _ (D1.over t1 sa S.zf1) fun hb e kb he => ?_)
    exact out hb tk0 e (fun c o c1 c2 _ q => kb _ _ c2 (sa.extBut _ _ c1 q)) he
/-- at turn i: fresh, or a pair of it is kept -/
def ZAt (h : Heap) (z TI TO i1 i2 L : Addr) (i : Nat) : Prop := IsTupOf2 h TI (.ref i1) (.ref i2) ∧ ((i = 0 ∧ IsZip h z TI TO .none ∧ ∃ a b, IsTupOf2 h TO a b) ∨ ∃ T f oT, IsZipHeld h z TI TO T f ∧ h.get? T = some oT ∧ L < T)

theorem ZAt.keep {h h' : Heap} {L : Addr} (q : ZAt h z TI TO i1 i2 L i) (k : ∀ b o, b ≠ L → h.get? b = some o → h'.get? b = some o) (nz : z ≠ L) (nI : TI ≠ L) (nO : TO ≠ L) : ZAt h' z TI TO i1 i2 L i := by
  obtain ⟨q0, q⟩ := q
  refine ⟨k _ _ nI q0, ?_⟩
  rcases q with ⟨e, a, x, y, b⟩ | ⟨T, f, oT, a, b, c⟩
  · exact .inl ⟨e, k _ _ nz a, x, y, k _ _ nO b⟩
  · exact .inr ⟨T, f, oT, k _ _ nz a, k _ _ (Nat.ne_of_gt c) b, c⟩
theorem zs_item {L : Addr} {Q : Option Value → Shared → Prop} (S : ZipSep2 z TI TO i1 i2 fp1 fp2) (D1 : Draws prog w A.in1 i1 fp1 n1 P1 St1) (D2 : Draws prog w A.in1 i2 fp2 n2 P2 St2)
    (q : ZAt s.heap z TI TO i1 i2 L i) (hL : L < s.heap.objs.size) (lz : z < L) (l1 : i1 < L) (l2 : i2 < L) (t1 : St1 i s.heap) (t2 : St2 i s.heap) (lt1 : i < n1) (lt2 : i < n2)
    (fin : ∀ x y h' tk, P1 i x → P2 i y → ZAt h' z TI TO i1 i2 L (i + 1) → St1 (i + 1) h' → St2 (i + 1) h' → IsTupOf2 h' s.heap.objs.size x y →
      (∀ c o, c ≠ z → c ≠ TO → c ≠ i1 → c ≠ i2 → s.heap.get? c = some o → h'.get? c = some o) → Q (some (.ref s.heap.objs.size)) { s with heap := h', toks := tk }) :
    wpAny (model prog w) A (pyNext (.ref z)) Q E s := by
  obtain ⟨hTI, q⟩ := q
  rcases q with ⟨_, hz, a, b, hTO⟩ | ⟨T, f, oT, hz, hT, nL⟩
  · refine wpAny_pyNext_zipD2_item S D1 D2 hz hTI hTO t1 t2 lt1 lt2 fun x y h' tk p1 p2 z' o' u1 u2 pr sz k => ?_
    exact fin x y h' tk p1 p2 ⟨k _ _ S.TIz S.TITO S.TIi1 S.TIi2 hTI, .inr ⟨_, false, _, z', pr, hL⟩⟩ u1 u2 pr k
  · have ty : s.TypeIs (.ref z) "zip" := ⟨_, hz, rfl⟩
    unfold pyNext
    refine wpAny_bind (wpAny_attempt (wpAny_callSpecial?_slot (name := Str.ofString "__next__") ty F.slot_zip_next (wpAny_call_entry F.slot_zip_next ty F.entry_zip_next ?_ (F.args_zip_next_1 _))))
    refine zh_item S D1 D2 hz hT hTI t1 t2 lt1 lt2 fun x y h' tk p1 p2 z' u1 u2 pr sz k => wpAny_pure ?_
    exact fin x y h' tk p1 p2 ⟨k _ _ S.TIz S.TIi1 S.TIi2 hTI, .inr ⟨_, true, _, z', k _ _ (Nat.ne_of_gt (Nat.lt_trans lz nL)) (Nat.ne_of_gt (Nat.lt_trans l1 nL)) (Nat.ne_of_gt (Nat.lt_trans l2 nL)) hT, nL⟩⟩ u1 u2 pr fun c o c1 _ c3 c4 e => k c o c1 c3 c4 e
theorem zs_end {L : Addr} {Q : Option Value → Shared → Prop} (S : ZipSep2 z TI TO i1 i2 fp1 fp2) (D1 : Draws prog w A.in1 i1 fp1 n1 P1 St1) (D2 : Draws prog w A.in1 i2 fp2 n2 P2 St2)
    (q : ZAt s.heap z TI TO i1 i2 L i) (t1 : St1 i s.heap) (t2 : St2 i s.heap) (le1 : i ≤ n1) (le2 : i ≤ n2) (hend : i = n1 ∨ i = n2)
    (fin : ∀ h' tk, (∀ c o, c ≠ z → c ≠ TO → c ≠ i1 → c ≠ i2 → s.heap.get? c = some o → h'.get? c = some o) → Q none { s with heap := h', toks := tk }) :
    wpAny (model prog w) A (pyNext (.ref z)) Q E s := by
  obtain ⟨hTI, q⟩ := q
  rcases q with ⟨_, hz, a, b, hTO⟩ | ⟨T, f, oT, hz, hT, nL⟩
  · exact wpAny_pyNext_zipD2_end S D1 D2 hz hTI hTO t1 t2 le1 le2 hend fin
  · have ty : s.TypeIs (.ref z) "zip" := ⟨_, hz, rfl⟩
    unfold pyNext
    refine wpAny_bind (wpAny_attempt (wpAny_callSpecial?_slot (name := Str.ofString "__next__") ty F.slot_zip_next (wpAny_call_entry F.slot_zip_next ty F.entry_zip_next ?_ (F.args_zip_next_1 _))))
    refine zh_end S D1 D2 hz hT hTI t1 t2 le1 le2 hend fun h' tk e k he => ?_
    obtain ⟨o, ho, hc⟩ := he
    refine wpAny_bind (wpAny_isInstance (T := "StopIteration") (b := true) ⟨o, ho, hc⟩ isSubtype_stop ?_)
    exact wpAny_pure (fin _ _ fun c o c1 _ c3 c4 q => k c o c1 c3 c4 q)
end
/-- pairs laid behind lo, one after another -/
structure Prs (P1 P2 : Nat → Value → Prop) (lo : Addr) (h : Heap) (as : List Addr) : Prop where
  rise : as.Pairwise (· < ·)
  above : ∀ a ∈ as, lo < a
  pairs : ∀ (j : Nat) (a : Addr), as[j]? = some a → ∃ x y, P1 j x ∧ P2 j y ∧ IsTupOf2 h a x y
section
variable {prog : Program} {w : World} {A : Around} {s : Shared} {R : Result → Shared → Prop} {z TI TO i1 i2 S : Addr} {fp1 fp2 : List Addr} {n1 n2 : Nat} {P1 P2 : Nat → Value → Prop} {St1 St2 : Nat → Heap → Prop}
theorem zs_loop (Z : ZipSep2 z TI TO i1 i2 fp1 fp2) (D1 : Draws prog w A.in1.in1 i1 fp1 n1 P1 St1) (D2 : Draws prog w A.in1.in1 i2 fp2 n2 P2 St2) (low : ∀ b, b = z ∨ b = TI ∨ b = TO ∨ b = i1 ∨ b = i2 ∨ b ∈ fp1 ∨ b ∈ fp2 → b < S) (hn : n1 ≤ sizeLine) (res : Value) {h0 : Heap}
    (fin : ∀ h' tk acc c as, (∀ b o, b ≠ S → b ≠ z → b ≠ TO → b ≠ i1 → b ≠ i2 → h0.get? b = some o → h'.get? b = some o) → h'.get? S = some { cls := .type "list", dict := none, data := .seq acc c, slots := #[] } → as.length = min n1 n2 → Prs P1 P2 S h' as →
      acc.toList = as.map Value.ref → R (.ok (.ret res)) { s with heap := h', toks := tk }) :
    ∀ (k i : Nat) (h : Heap) (tk c : Nat) (acc : Array Value) (as : List Addr), min n1 n2 - i = k → i ≤ min n1 n2 → ZAt h z TI TO i1 i2 S i → St1 i h → St2 i h → (∀ b o, b ≠ S → b ≠ z → b ≠ TO → b ≠ i1 → b ≠ i2 → h0.get? b = some o → h.get? b = some o) →
      h.get? S = some { cls := .type "list", dict := none, data := .seq acc c, slots := #[] } → acc.toList = as.map Value.ref → as.length = i → Prs P1 P2 S h as →
      codeAny (model prog w) A (.builtin "list.extend.loop" ⟨[.ref S, .ref z, res], []⟩) R { s with heap := h, toks := tk } := by
  have lz := low z (.inl rfl)
  have lTI := low TI (.inr (.inl rfl))
  have lTO := low TO (.inr (.inr (.inl rfl)))
  have l1 := low i1 (.inr (.inr (.inr (.inl rfl))))
  have l2 := low i2 (.inr (.inr (.inr (.inr (.inl rfl)))))
  intro k
  induction k with
  | zero =>
    intro i h tk c acc as hk hi q t1 t2 keep hS hacc hal hG
    have hin : i = min n1 n2 := by omega
    refine codeAny_builtin F.entry_extend_loop ?_
    rw [Around.under_plainId F.plain_extend_loop _]
    show wpAny _ A.in1 (pyNext (.ref z) >>= _) _ _ _
    refine wpAny_bind (zs_end (s := { s with heap := h, toks := tk }) (A := A.in1) Z D1 D2 q t1 t2 (by omega) (by omega) (by omega) fun h' tk' kp => ?_)
    refine wpAny_pure (fin h' tk' acc c as (fun b o b0 b1 b2 b3 b4 e => kp b o b1 b2 b3 b4 (keep b o b0 b1 b2 b3 b4 e)) (kp S _ (Nat.ne_of_gt lz) (Nat.ne_of_gt lTO) (Nat.ne_of_gt l1) (Nat.ne_of_gt l2) hS) (by omega) ⟨hG.rise, hG.above, fun j a hj => ?_⟩ hacc)
    obtain ⟨x, y, e1, e2, e3⟩ := hG.pairs j a hj
    have la := hG.above a (List.mem_of_getElem? hj)
    exact ⟨x, y, e1, e2, kp a _ (Nat.ne_of_gt (Nat.lt_trans lz la)) (Nat.ne_of_gt (Nat.lt_trans lTO la)) (Nat.ne_of_gt (Nat.lt_trans l1 la)) (Nat.ne_of_gt (Nat.lt_trans l2 la)) e3⟩
  | succ k ih =>
    intro i h tk c acc as hk hi q t1 t2 keep hS hacc hal hG
    have hlt : i < min n1 n2 := by omega
    have hsz : acc.size = i := by rw [← Array.length_toList, hacc, List.length_map, hal]
    have hSl : S < h.objs.size := Heap.lt_size hS
    refine codeAny_builtin F.entry_extend_loop ?_
    rw [Around.under_plainId F.plain_extend_loop _]
    show wpAny _ A.in1 (pyNext (.ref z) >>= _) _ _ _
    refine wpAny_bind (zs_item (s := { s with heap := h, toks := tk }) (A := A.in1) (L := S) Z D1 D2 q hSl lz l1 l2 t1 t2 (by omega) (by omega) fun x y h' tk' p1 p2 q' u1 u2 pr kp => ?_)
    dsimp only at pr kp ⊢
    have hS' := kp S _ (Nat.ne_of_gt lz) (Nat.ne_of_gt lTO) (Nat.ne_of_gt l1) (Nat.ne_of_gt l2) hS
    have up : ∀ b o, b ≠ S → h'.get? b = some o → (h'.update S (Obj.mapSeq (·.push (Value.ref h.objs.size)))).get? b = some o := fun b o nb e => (Heap.get?_update_other _ _ (Ne.symm nb)).trans e
    have uf : ∀ b, b < S → ∀ o, h'.get? b = some o → (h'.update S (Obj.mapSeq (·.push (Value.ref h.objs.size)))).get? b = some o := fun b lb o e => up b o (Nat.ne_of_lt lb) e
    show wpAny _ A.in1 (updateSeq S (·.push (Value.ref h.objs.size)) >>= _) _ _ _
    refine wpAny_bind ?_
    refine wpAny_updateSeq hS' rfl (wpAny_pure ⟨plainId_quiet F.plain_extend_loop _, ih (i + 1) _ tk' _ (acc.push (Value.ref h.objs.size)) (as ++ [h.objs.size]) (by omega) hlt (q'.keep up (Nat.ne_of_lt lz) (Nat.ne_of_lt lTI) (Nat.ne_of_lt lTO))
      (D1.frame _ _ _ u1 fun b hb => uf b (low b (.inr (.inr (.inr (.inr (.inr (.inl hb)))))))) (D2.frame _ _ _ u2 fun b hb => uf b (low b (.inr (.inr (.inr (.inr (.inr (.inr hb))))))))
      (fun b o b0 b1 b2 b3 b4 e => up b o b0 (kp b o b1 b2 b3 b4 (keep b o b0 b1 b2 b3 b4 e))) (Heap.get?_update_self _ hS' rfl) (by rw [Array.toList_push, hacc, List.map_append]; rfl) (by rw [List.length_append, hal]; rfl) ⟨?_, ?_, ?_⟩⟩) (by rw [hsz]; omega) (by show (acc.push (Value.ref h.objs.size)).size ≤ sizeLine + 1; rw [Array.size_push, hsz]; omega)
    · refine List.pairwise_append.mpr ⟨hG.rise, List.pairwise_singleton _ _, fun a ha b hb => ?_⟩
      rw [List.mem_singleton.mp hb]
      obtain ⟨j, hj⟩ := List.mem_iff_getElem?.mp ha
      obtain ⟨_, _, _, _, e⟩ := hG.pairs j a hj
      exact Heap.lt_size e
    · intro a ha
      rcases List.mem_append.mp ha with ha | ha
      · exact hG.above a ha
      · rw [List.mem_singleton.mp ha]; exact hSl
    · intro j b hj
      rcases Nat.lt_trichotomy j as.length with g | g | g
      · rw [List.getElem?_append_left g] at hj
        obtain ⟨x', y', e1, e2, e3⟩ := hG.pairs j b hj
        have lb := hG.above b (List.mem_of_getElem? hj)
        exact ⟨x', y', e1, e2, up b _ (Nat.ne_of_gt lb) (kp b _ (Nat.ne_of_gt (Nat.lt_trans lz lb)) (Nat.ne_of_gt (Nat.lt_trans lTO lb)) (Nat.ne_of_gt (Nat.lt_trans l1 lb)) (Nat.ne_of_gt (Nat.lt_trans l2 lb)) e3)⟩
      · subst g
        have eb : h.objs.size = b := by simpa using hj
        subst eb
        exact ⟨x, y, by rw [hal]; exact p1, by rw [hal]; exact p2, up _ _ (Nat.ne_of_gt hSl) pr⟩
      · have hnone : (as ++ [h.objs.size])[j]? = none := List.getElem?_eq_none (by rw [List.length_append, List.length_singleton]; omega)
        rw [hnone] at hj; cases hj
end
end U

set_option Elab.async false
set_option linter.all false
set_option maxRecDepth 100000
set_option maxHeartbeats 2000000
/-! list(zip(a, b)): the call, and the rule -/
namespace U
open PySem PySem.Spec PyProof.Rows L2
theorem zip_lenless : typeLookup (.type "zip") "__len__" = pure none := am_miss_of_fast (by decide +kernel)
theorem zip_hintless : typeLookup (.type "zip") "__length_hint__" = pure none := am_miss_of_fast (by decide +kernel)
section
variable {prog : Program} {w : World} {A : Around} {E : Value → Shared → Prop} {s : Shared} {R : Result → Shared → Prop} {z TI TO i1 i2 S : Addr} {fp1 fp2 : List Addr} {n1 n2 : Nat} {P1 P2 : Nat → Value → Prop} {St1 St2 : Nat → Heap → Prop}
theorem zs_extend (hh : A.handled = none) (Z : ZipSep2 z TI TO i1 i2 fp1 fp2) (D1 : Draws prog w A.in1.in1 i1 fp1 n1 P1 St1) (D2 : Draws prog w A.in1.in1 i2 fp2 n2 P2 St2) (low : ∀ b, b = z ∨ b = TI ∨ b = TO ∨ b = i1 ∨ b = i2 ∨ b ∈ fp1 ∨ b ∈ fp2 → b < S) (hn : n1 ≤ sizeLine) (res : Value) (c0 : Nat)
    (hz : IsZip s.heap z TI TO .none) (hTI : IsTupOf2 s.heap TI (.ref i1) (.ref i2)) (hTO : ∃ a b, IsTupOf2 s.heap TO a b) (t1 : St1 0 s.heap) (t2 : St2 0 s.heap) (hS : s.heap.get? S = some { cls := .type "list", data := .seq #[] c0 })
    (fin : ∀ h' tk acc c as, (∀ b o, b ≠ S → b ≠ z → b ≠ TO → b ≠ i1 → b ≠ i2 → s.heap.get? b = some o → h'.get? b = some o) → h'.get? S = some { cls := .type "list", dict := none, data := .seq acc c, slots := #[] } → as.length = min n1 n2 → Prs P1 P2 S h' as →
      acc.toList = as.map Value.ref → R (.ok (.ret res)) { s with heap := h', toks := tk }) :
    wpAny (model prog w) A.in1 (Builtin.List.listExtendWith (.ref S) (.ref z) res)
      (fun r s' => match r with | .done f => R (.ok f) s' | .again c' => c'.quiet = true ∧ codeAny (model prog w) A c' R s') (fun e s' => R (.error e) s') s := by
  have lz := low z (.inl rfl)
  have ty : s.TypeIs (.ref z) "zip" := ⟨_, hz, rfl⟩
  have run : ∀ (h : Heap) (tk c1 : Nat), (∀ b o, b ≠ S → s.heap.get? b = some o → h.get? b = some o) → h.get? S = some { cls := .type "list", data := .seq #[] c1 } → codeAny (model prog w) A (.builtin "list.extend.loop" ⟨[.ref S, .ref z, res], []⟩) R { s with heap := h, toks := tk } := by
    intro h tk c1 k e
    have kl : ∀ b, b < S → ∀ o, s.heap.get? b = some o → h.get? b = some o := fun b lb o q => k b o (Nat.ne_of_lt lb) q
    refine zs_loop (s := s) (h0 := s.heap) Z D1 D2 low hn res fin _ 0 h tk c1 #[] [] rfl (Nat.zero_le _) ⟨kl _ (low _ (by simp)) _ hTI, .inl ⟨rfl, kl _ lz _ hz, ?_⟩⟩ (D1.frame _ _ _ t1 fun b hb => kl b (low b (by simp [hb]))) (D2.frame _ _ _ t2 fun b hb => kl b (low b (by simp [hb])))
      (fun b o b0 _ _ _ _ q => k b o b0 q) e rfl rfl ⟨List.Pairwise.nil, (fun _ q => nomatch q), fun j a q => by simp at q⟩
    obtain ⟨a, b, q⟩ := hTO
    exact ⟨a, b, kl _ (low _ (by simp)) _ q⟩
  unfold Builtin.List.listExtendWith
  refine wpAny_bind (wpAny_typeOf ty ?_)
  have e1 : Builtin.List.listSameRef (.ref S) (.ref z) = false := by simp [Builtin.List.listSameRef, Nat.ne_of_gt lz]
  have e2 : (Value.type "zip" == Value.type "list") = false := by decide
  have e3 : (Value.type "zip" == Value.type "tuple") = false := by decide
  simp only [e1, e2, e3, Bool.or_false, Bool.false_eq_true, if_false]
  refine wpAny_bind (wpAny_pyIter_zip hz ?_)
  refine wpAny_bind (wpAny_holding ?_)
  unfold Builtin.List.listLengthHint
  refine wpAny_bind (wpAny_specialOf ty zip_lenless ?_)
  show wpAny _ A.in1 (specialOf (Value.ref z) (Str.ofString "__length_hint__") >>= _) _ _ _
  refine wpAny_bind (wpAny_specialOf ty zip_hintless ?_)
  refine wpAny_pure ?_
  refine wpAny_ite_split (fun _ => ?_) (fun _ => wpAny_pure ⟨plainId_quiet F.plain_extend_loop _, run _ _ c0 (fun b o _ e => e) hS⟩)
  refine wpAny_bind (wpAny_rule (wpAny_bind ?_))
  show wpAny _ A.in1 (updateSeq S (·.push .none) >>= fun _ => updateSeq S (·.pop)) _ _ _
  refine wpAny_bind (wpAny_updateSeq hS rfl ?_)
  have g1 := Heap.get?_update_self (Obj.mapSeq (·.push Value.none)) hS rfl
  refine wpAny_updateSeq (hz := by seq_fits) g1 rfl ?_
  have g2 := Heap.get?_update_self (Obj.mapSeq (·.pop)) g1 rfl
  refine wpAny_pure ⟨plainId_quiet F.plain_extend_loop _, run _ _ _ (fun b o nb e => ?_) g2⟩
  exact (Heap.get?_update_other _ _ (Ne.symm nb)).trans ((Heap.get?_update_other _ _ (Ne.symm nb)).trans e)
/-- list(z) -/
theorem zs_call {Q : Value → Shared → Prop} (hh : A.handled = none) (Z : ZipSep2 z TI TO i1 i2 fp1 fp2) (D1 : Draws prog w A.in1.in1.in1 i1 fp1 n1 P1 St1) (D2 : Draws prog w A.in1.in1.in1 i2 fp2 n2 P2 St2) (low : ∀ b, b = z ∨ b = TI ∨ b = TO ∨ b = i1 ∨ b = i2 ∨ b ∈ fp1 ∨ b ∈ fp2 → b < s.heap.objs.size) (hn : n1 ≤ sizeLine)
    (hz : IsZip s.heap z TI TO .none) (hTI : IsTupOf2 s.heap TI (.ref i1) (.ref i2)) (hTO : ∃ a b, IsTupOf2 s.heap TO a b) (t1 : St1 0 s.heap) (t2 : St2 0 s.heap)
    (fin : ∀ h' tk acc c as, (∀ b o, b ≠ z → b ≠ TO → b ≠ i1 → b ≠ i2 → s.heap.get? b = some o → h'.get? b = some o) → h'.get? s.heap.objs.size = some { cls := .type "list", dict := none, data := .seq acc c, slots := #[] } → as.length = min n1 n2 → Prs P1 P2 s.heap.objs.size h' as →
      acc.toList = as.map Value.ref → Q (.ref s.heap.objs.size) { s with heap := h', toks := tk }) :
    wpAny (model prog w) A (call (.type "list") [.ref z]) Q E s := by
  refine callType_codes (Q₁ := fun obj s1 => obj = .ref s.heap.objs.size ∧ s1 = { s with heap := s.heap.push { cls := .type "list", data := .seq #[] } }) F.called_list (F.typeCall_list_1 _) F.entry_list_init (code_list_new _ ⟨rfl, rfl⟩) fun obj s1 q => ?_
  obtain ⟨rfl, rfl⟩ := q
  have hS : (s.heap.push { cls := .type "list", data := .seq #[] }).get? s.heap.objs.size = some { cls := .type "list", data := .seq #[] } := Heap.get?_push_size _ rfl
  refine ⟨⟨_, hS, rfl⟩, F.args_list_init_2 _ _, ?_⟩
  show wpAny _ A.in1.in1 (do let old ← Builtin.List.listItems (.ref s.heap.objs.size); Builtin.List.listUpdate (.ref s.heap.objs.size) (fun _ => #[]); letGo old.toList.reverse; Builtin.List.listExtendWith (.ref s.heap.objs.size) (.ref z) .none) _ _ _
  refine wpAny_bind ?_
  unfold Builtin.List.listItems
  refine wpAny_bind (wpAny_seqItems hS rfl (wpAny_pure ?_))
  show wpAny _ A.in1.in1 (updateSeq s.heap.objs.size (fun _ => #[]) >>= fun _ => letGo (#[] : Array Value).toList.reverse >>= fun _ => Builtin.List.listExtendWith (.ref s.heap.objs.size) (.ref z) .none) _ _ _
  refine wpAny_bind (wpAny_updateSeq hS rfl ?_)
  have hS2 := Heap.get?_update_self (Obj.mapSeq (fun _ => (#[] : Array Value))) hS rfl
  refine wpAny_bind (wpAny_letGo ?_)
  have up : ∀ b o, s.heap.get? b = some o → ((s.heap.push { cls := .type "list", data := .seq #[] }).update s.heap.objs.size (Obj.mapSeq (fun _ => (#[] : Array Value)))).get? b = some o := fun b o e =>
    (Heap.get?_update_other _ _ (Ne.symm (Nat.ne_of_lt (Heap.lt_size e)))).trans (Heap.get?_push_of_some _ e)
  refine zs_extend (s := { s with heap := (s.heap.push { cls := .type "list", data := .seq #[] }).update s.heap.objs.size (Obj.mapSeq (fun _ => (#[] : Array Value))) }) (A := A.in1) hh Z D1 D2 low hn .none _ (up _ _ hz) (up _ _ hTI) (let ⟨a, b, q⟩ := hTO; ⟨a, b, up _ _ q⟩) (D1.frame _ _ _ t1 fun b _ => up b) (D2.frame _ _ _ t2 fun b _ => up b) hS2 fun h' tk acc c as k e l g q => ?_
  exact ⟨rfl, fin h' tk acc c as (fun b o b1 b2 b3 b4 x => k b o (Nat.ne_of_lt (Heap.lt_size x)) b1 b2 b3 b4 (up b o x)) e l g q⟩
end
end U

set_option Elab.async false
set_option linter.all false
set_option maxRecDepth 100000
set_option maxHeartbeats 2000000
namespace U
open PySem PySem.Spec PyProof.Rows L2
open Evl (Ex)
/-- what a list or a tuple is for a zip -/
theorem zip_side {X : Cx} {pins : List (Addr × Obj)} {σ : L2.St} {H : Hp} {s : Shared} {l : Addr} {xs : List V} (I : Inv X pins σ H s) (h : SqL X.K H l xs ∨ SqT X.K H l xs) :
    ∃ (ob : Obj) (Hb : Heap → Prop) (its : List Value), Vals xs its ∧ Begins (.ref l) ob Hb ∧ Hb s.heap ∧ l < s.heap.objs.size ∧ ∀ (it : Addr) (A : Around), A.handled = none → l ≠ it →
      ∃ St : Nat → Heap → Prop, Draws X.prog X.w A it [it, l] its.toArray.size (fun i v => its.toArray[i]? = some v) St ∧ ∀ g : Heap, g.get? it = some ob → (∀ b o, s.heap.get? b = some o → g.get? b = some o) → St 0 g := by
  rcases h with h | h
  · obtain ⟨its, rv, p, _⟩ := I.list h
    refine ⟨_, _, its, rv, begins_list l its.toArray, p.isList, p.lt, fun it A hh ne => ⟨_, Draws.list hh it l ne its.toArray, fun g e k => ⟨⟨_, e, rfl, rfl⟩, p.isList.at fun o q => k l o q⟩⟩⟩
  · obtain ⟨its, rv, p, _⟩ := I.tuple h
    have p' : s.heap.IsTuple l its.toArray := p
    refine ⟨_, _, its, rv, begins_tuple l its.toArray, p', ?_, fun it A hh ne => ⟨_, Draws.tuple hh it l ne its.toArray, fun g e k => ⟨⟨_, e, rfl, rfl⟩, p'.at fun o q => k l o q⟩⟩⟩
    obtain ⟨o, ho, _⟩ := id p'
    exact Heap.lt_size ho
def putP : Hp → List Addr → Nat → (Nat → V × V) → Hp
  | H, [], _, _ => H
  | H, a :: as, i, f => putP (upd H a (.tup [(f i).1, (f i).2])) as (i + 1) f
theorem putP_off {b : Addr} {f : Nat → V × V} : ∀ (as : List Addr) (i : Nat) (H : Hp), b ∉ as → putP H as i f b = H b
  | [], _, _, _ => rfl
  | a :: as, i, H, h => by
    show putP (upd H a _) as (i + 1) f b = H b
    rw [putP_off as _ _ (fun z => h (List.mem_cons_of_mem _ z)), upd_ne (fun z => h (by rw [z]; exact List.mem_cons_self))]
theorem putP_at {f : Nat → V × V} : ∀ (as : List Addr) (i : Nat) (H : Hp), as.Nodup → ∀ (j : Nat) (a : Addr), as[j]? = some a → putP H as i f a = some (.tup [(f (i + j)).1, (f (i + j)).2])
  | [], _, _, _, j, a, h => by simp at h
  | b :: as, i, H, n, 0, a, h => by
    have e : b = a := by simpa using h
    subst e
    show putP (upd H b _) as (i + 1) f b = _
    rw [putP_off as _ _ (List.nodup_cons.mp n).1, upd_same]
    rfl
  | b :: as, i, H, n, j + 1, a, h => by
    have := putP_at (f := f) as (i + 1) (upd H b (.tup [(f i).1, (f i).2])) (List.nodup_cons.mp n).2 j a (by simpa using h)
    rw [show i + (j + 1) = i + 1 + j from by omega]
    exact this
def ZipK (K : PySem.W.Frag) (Q : VK) : List V → Hp → Prop
  | [x, y], H2 => ∃ a b xs ys, x = .ref a ∧ y = .ref b ∧ (SqL K H2 a xs ∨ SqT K H2 a xs) ∧ (SqL K H2 b ys ∨ SqT K H2 b ys) ∧ xs.length ≤ 1000 ∧
    ∀ p H3 (ps : List Addr), H2 p = none → Ex H2 H3 → H3 p = some (.lst (ps.map V.ref)) → ps.length = min xs.length ys.length → (∀ (i : Nat) u, ps[i]? = some u → ∃ x y, xs[i]? = some x ∧ ys[i]? = some y ∧ H3 u = some (.tup [x, y])) → Q (.ref p) H3
  | _, _ => False
theorem zip_args {K : PySem.W.Frag} {ta tb : TE} {σ : L2.St} {H : Hp} {Q : VK} (h : tZipL K ta tb σ H Q) : tCons ta (tCons tb tNil) σ H (ZipK K Q) := h
theorem zipK_two {K : PySem.W.Frag} {Q : VK} {vs : List V} {us : List Value} {H : Hp} (h : ZipK K Q vs H) (r : Vals vs us) : ∃ a b xs ys, vs = [.ref a, .ref b] ∧ us = [.ref a, .ref b] ∧ (SqL K H a xs ∨ SqT K H a xs) ∧ (SqL K H b ys ∨ SqT K H b ys) ∧ xs.length ≤ 1000 ∧
    ∀ p H3 (ps : List Addr), H p = none → Ex H H3 → H3 p = some (.lst (ps.map V.ref)) → ps.length = min xs.length ys.length → (∀ (i : Nat) u, ps[i]? = some u → ∃ x y, xs[i]? = some x ∧ ys[i]? = some y ∧ H3 u = some (.tup [x, y])) → Q (.ref p) H3 := by
  match vs, us, h, r with
  | [], _, h, _ => exact h.elim
  | [_], _, h, _ => exact h.elim
  | _ :: _ :: _ :: _, _, h, _ => exact h.elim
  | [_, _], _, h, .cons ra (.cons rb .nil) =>
    obtain ⟨a, b, xs, ys, ex, ey, q⟩ := h
    subst ex ey
    cases ra
    cases rb
    exact ⟨a, b, xs, ys, rfl, rfl, q⟩
theorem zip_sep (I l1 l2 : Nat) (h1 : l1 < I) (h2 : l2 < I) : ZipSep2 (I + 4) (I + 2) (I + 3) I (I + 1) [I, l1] [I + 1, l2] := by
  have w : ∀ {m n : Nat}, (m < n ∨ n < m) → (show Addr from m) ≠ n := fun h e => by
    have e' : (show Nat from _) = _ := e
    rcases h with h | h
    · exact Nat.ne_of_lt h e
    · exact Nat.ne_of_gt h e
  constructor <;> (try simp only [List.mem_cons, List.mem_nil_iff, List.not_mem_nil, or_false, not_or, true_or]) <;> (try constructor) <;> (refine w ?_; omega)
theorem gD {xs : List V} {i : Nat} (h : i < xs.length) : xs.getD i .non = xs[i] := by simp [List.getD, h]
theorem zip_rule {mg : Str → Option Value} : ZipRule mg := by
  intro X e1 e2 ta tb p1 p2 q1 q2 hmg hc hr ml mz gl gz h1 h2 hs1 hs2 hs3
  refine ⟨fun pins s σ H Q I hq => ?_⟩
  refine wpAny_Call_Name_kw (ld_blt I gl ml PyProof.Rows.boot_list ?_)
  refine PyProof.Rows.callWith_type1 ?_ hs3 rfl
  rw [hs3]
  show wpAny _ _ (spliced ((false, eval (.Call (.Name "zip" p2) [e1, e2] [] q2) X.env) :: backTo q1 (starEach [] X.env))) _ _ s
  refine Calls.spliced_cons ?_
  have pa : PA X [e1, e2] (tCons ta (tCons tb tNil)) := pa_cons h1 (pa_cons h2 pa_nil hs2) hs1
  refine wpAny_Call_Name_kw (ld_blt I gz mz PyProof.Rows.boot_zip ?_)
  refine PyProof.Rows.callWith_type1 (thn (pa.run q2 pins s σ H (ZipK X.K Q) I (zip_args hq)) fun us s1 ⟨vs, H1, I1, r1, q1⟩ => ?_) hs1 (by rw [hs2]; rfl)
  obtain ⟨a, b, xs, ys, e1, e2, qa, qb, lx, q⟩ := zipK_two q1 r1
  subst e1 e2
  obtain ⟨o1, B1, its1, rv1, b1, hb1, la, dr1⟩ := zip_side I1 qa
  obtain ⟨o2, B2, its2, rv2, b2, hb2, lb, dr2⟩ := zip_side I1 qb
  refine zip_begins2 b1 b2 hb1 hb2 fun h' hz hTI hTO g1 g2 hsz hk => ?_
  have I2 : Inv X pins σ H1 { s1 with heap := h' } := I1.kept (t' := s1.toks) hk
  refine Calls.spliced_nil ?_
  have hh : X.A.in1.in1.in1.handled = none := I1.ok.hd hc
  obtain ⟨St1, D1, z1⟩ := dr1 s1.heap.objs.size X.A.in1.in1.in1 hh (Nat.ne_of_lt la)
  obtain ⟨St2, D2, z2⟩ := dr2 (s1.heap.objs.size + 1) X.A.in1.in1.in1 hh (Nat.ne_of_lt (Nat.lt_succ_of_lt lb))
  have S := zip_sep s1.heap.objs.size a b la lb
  refine zs_call (s := { s1 with heap := h' }) (I1.ok.hd hc) S D1 D2 ?_ ?_ hz hTI ⟨_, _, hTO⟩ (z1 h' g1 hk) (z2 h' g2 hk) fun h2 tk acc cp as kp hS hl hG hacc => ?_
  · intro c e
    show c < h'.objs.size
    rw [hsz]
    have z : ∀ {m n : Nat}, m < n → (show Addr from m) < n := fun h => h
    simp only [List.mem_cons, List.mem_nil_iff, List.not_mem_nil, or_false] at e
    have l5 : s1.heap.objs.size < s1.heap.objs.size + 5 := Nat.lt_add_of_pos_right (by decide)
    rcases e with e | e | e | e | e | (e | e) | e | e
    · rw [e]; exact Nat.add_lt_add_left (by decide) _
    · rw [e]; exact Nat.add_lt_add_left (by decide) _
    · rw [e]; exact Nat.add_lt_add_left (by decide) _
    · rw [e]; exact l5
    · rw [e]; exact Nat.add_lt_add_left (by decide) _
    · rw [e]; exact l5
    · rw [e]; exact Nat.lt_trans la l5
    · rw [e]; exact Nat.add_lt_add_left (by decide) _
    · rw [e]; exact Nat.lt_trans lb l5
  · have := rv1.length
    show its1.toArray.size ≤ sizeLine
    rw [sizeLine_eq]
    simp
    omega
  have n1 := rv1.length
  have n2 := rv2.length
  have hl' : as.length = min xs.length ys.length := by rw [hl]; simp; omega
  dsimp only at hS hG kp
  let f : Nat → V × V := fun i => (xs.getD i .non, ys.getD i .non)
  let H' : Hp := putP (upd H1 h'.objs.size (.lst (as.map V.ref))) as 0 f
  have nd : as.Nodup := List.Pairwise.imp (fun {a b} (h : a < b) => Nat.ne_of_lt h) hG.rise
  have nS : h'.objs.size ∉ as := fun z => Nat.lt_irrefl _ (hG.above _ z)
  have newS : H1 h'.objs.size = none := I2.hok.fresh (Nat.le_refl _)
  have new : ∀ t ∈ as, H1 t = none := fun t ht => I2.hok.fresh (Nat.le_of_lt (hG.above t ht))
  have atP : ∀ (j : Nat) (t : Addr), as[j]? = some t → H' t = some (.tup [xs.getD j .non, ys.getD j .non]) := fun j t ht => by
    have := putP_at (f := f) as 0 (upd H1 h'.objs.size (.lst (as.map V.ref))) nd j t ht
    rw [Nat.zero_add] at this
    exact this
  have atS : H' h'.objs.size = some (.lst (as.map V.ref)) := by
    show putP _ as 0 f h'.objs.size = _
    rw [putP_off as _ _ nS, upd_same]
  have off : ∀ c, c ∉ as → c ≠ h'.objs.size → H' c = H1 c := fun c c1 c2 => by
    show putP _ as 0 f c = _
    rw [putP_off as _ _ c1, upd_ne c2]
  have up : ∀ c u, H1 c = some u → H' c = some u := fun c u e => by
    rw [off c (fun z => by rw [new c z] at e; cases e) (fun z => by rw [z, newS] at e; cases e)]
    exact e
  have low : ∀ c o, h'.get? c = some o → c ∉ as ∧ c ≠ h'.objs.size := fun c o e => ⟨fun z => absurd (Heap.lt_size e) (Nat.not_lt.mpr (Nat.le_of_lt (hG.above c z))), Nat.ne_of_lt (Heap.lt_size e)⟩
  have fp : ∀ c ∈ [s1.heap.objs.size + 4, s1.heap.objs.size + 3, s1.heap.objs.size, s1.heap.objs.size + 1], FpOk X pins H1 c := fun c hc' => by
    have e' : c = s1.heap.objs.size + 4 ∨ c = s1.heap.objs.size + 3 ∨ c = s1.heap.objs.size ∨ c = s1.heap.objs.size + 1 := by simpa using hc'
    have le : s1.heap.objs.size ≤ c := by
      rcases e' with z | z | z | z
      · rw [z]; exact Nat.le_add_right _ _
      · rw [z]; exact Nat.le_add_right _ _
      · rw [z]; exact Nat.le_refl _
      · rw [z]; exact Nat.le_add_right _ _
    exact I1.fpOk le (I1.hok.fresh le)
  have kp' : ∀ c o, c ∉ [s1.heap.objs.size + 4, s1.heap.objs.size + 3, s1.heap.objs.size, s1.heap.objs.size + 1] → h'.get? c = some o → h2.get? c = some o := fun c o nc e =>
    kp c o (fun z => nc (by rw [z]; simp)) (fun z => nc (by rw [z]; simp)) (fun z => nc (by rw [z]; simp)) (fun z => nc (by rw [z]; simp)) e
  have nit : ∀ c u, H1 c = some u → c ∉ [s1.heap.objs.size + 4, s1.heap.objs.size + 3, s1.heap.objs.size, s1.heap.objs.size + 1] := fun c u e z => by
    have := (fp c z).1
    rw [this] at e
    cases e
  have J : Inv X pins σ H' { s1 with heap := h2, toks := tk } := by
    refine I2.call' (s' := { s1 with heap := h2, toks := tk }) (ch := [s1.heap.objs.size + 4, s1.heap.objs.size + 3, s1.heap.objs.size, s1.heap.objs.size + 1]) rfl
      ⟨fun c o e _ _ nc => kp' c o nc e, fun c o e _ _ nc => ⟨o.slots, kp' c o nc e⟩, fun c o e n _ => ?_, fun c o e nc => ⟨o, kp' c o nc e⟩, fun c _ e => up c _ e, fun c _ _ e => up c _ e, fun c ps e => ⟨#[], by rw [up c _ e]; simp⟩⟩ (fun c u e => ?_) I2.bare fun c hc' => ⟨(fp c hc').2.2.2.1, (fp c hc').2.1, (fp c hc').2.2.2.2.1, (fp c hc').2.2.2.2.2⟩
    · obtain ⟨z1, z2⟩ := low c o e
      rw [off c z1 z2]
      exact n
    · by_cases hb : c ∈ as
      · obtain ⟨j, ej⟩ := List.mem_iff_getElem?.mp hb
        have lt : j < as.length := (List.getElem?_eq_some_iff.mp ej).1
        rw [atP j c ej] at e
        cases e
        obtain ⟨u1, u2, f1, f2, f3⟩ := hG.pairs j c ej
        have lx : j < xs.length := by omega
        have ly : j < ys.length := by omega
        obtain ⟨w1, g1, r1⟩ := rv1.get (List.getElem?_eq_getElem lx)
        obtain ⟨w2, g2, r2⟩ := rv2.get (List.getElem?_eq_getElem ly)
        have d1 : w1 = u1 := by
          have : its1[j]? = some u1 := by simpa using f1
          rw [g1] at this
          exact Option.some.inj this
        have d2 : w2 = u2 := by
          have : its2[j]? = some u2 := by simpa using f2
          rw [g2] at this
          exact Option.some.inj this
        subst d1 d2
        refine ⟨by show 2 ≤ sizeLine; decide, [w1, w2], .cons ?_ (.cons ?_ .nil), ⟨_, f3, rfl, _, rfl⟩⟩
        · rw [gD lx]; exact r1
        · rw [gD ly]; exact r2
      · by_cases hb2 : c = h'.objs.size
        · rw [hb2] at e ⊢
          rw [atS] at e
          cases e
          refine ⟨by rw [List.length_map, sizeLine_eq]; omega, acc.toList, cp, by rw [hacc]; exact LiI.vals_refs as, ?_⟩
          rw [Array.toArray_toList]
          exact hS
        · rw [off c hb hb2] at e
          refine (I2.hok c u e).stay (fun d v y q => kp' d v ?_ q) (fun d y => up d _ y) fun d xs y => up d _ y
          rcases y with y | y
          · rw [y]; exact nit c u e
          · exact nit d _ y
  exact ⟨.ref h'.objs.size, H', J, rfl, q _ H' as newS up atS hl' fun i u e => by
    have lt : i < as.length := (List.getElem?_eq_some_iff.mp e).1
    have lx : i < xs.length := by omega
    have ly : i < ys.length := by omega
    refine ⟨xs[i], ys[i], List.getElem?_eq_getElem lx, List.getElem?_eq_getElem ly, ?_⟩
    rw [atP i u e, gD lx, gD ly]⟩
end U

set_option Elab.async false
set_option linter.all false
set_option maxRecDepth 100000
set_option maxHeartbeats 4000000
/-! t[::-1] of a pair. -/
namespace HT
open PySem PySem.Spec PyProof.Rows L2 PySem.W PySem.Calls
section
variable {prog : Program} {w : World} {A : Around} {E : Value → Shared → Prop} {s : Shared}
theorem sliceApplied_rev2 {sl : Addr} {vl vu vs : Value} {Q : Int × Int × Nat → Shared → Prop} (hs : s.heap.IsSliceOf sl vl vu vs) (pl : IsPart vl none) (pu : IsPart vu none) (ps : IsPart vs (some (-1)))
    (h : Q ((1 : Int), -1, 2) s) : wpAny (model prog w) A (Builtin.Slice.sliceApplied (.ref sl) (pure (2 : Int))) Q E s := by
  obtain ⟨os, hos, hcs, hds⟩ := id hs
  unfold Builtin.Slice.sliceApplied Builtin.Slice.sliceFields
  refine wpAny_bind (wpAny_bind (wpAny_field hos hds (x := vl) rfl (wpAny_bind (wpAny_field hos hds (x := vu) rfl (wpAny_bind (wpAny_field hos hds (x := vs) rfl (wpAny_pure ?_)))))))
  refine wpAny_bind (slicePart_ ps ?_)
  show wpAny _ _ (if ((-1 : Int) == 0) = true then _ else _) _ _ s
  rw [if_neg (by decide)]
  refine wpAny_bind (slicePart_ pl (wpAny_bind (slicePart_ pu (wpAny_bind (wpAny_pure ?_)))))
  exact wpAny_pure h
theorem getItem_tuple_rev2 {t sl : Addr} {a b : Value} {vl vu vs : Value} {Q : Value → Shared → Prop} (ht : IsTup s.heap t #[a, b]) (hs : s.heap.IsSliceOf sl vl vu vs) (pl : IsPart vl none) (pu : IsPart vu none) (ps : IsPart vs (some (-1)))
    (h : Q (.ref s.heap.objs.size) { s with heap := s.heap.push { cls := .type "tuple", data := .seq #[b, a] } }) : wpAny (model prog w) A (getItem (.ref t) (.ref sl)) Q E s := by
  obtain ⟨os, hos, hcs, hds⟩ := id hs
  have hTs : s.TypeIs (.ref sl) "slice" := ⟨os, hos, hcs⟩
  unfold getItem
  try with_reducible refine wpAny_holding ?_
  first | refine wpAny_bind (wpAny_pure ?_) | skip
  refine wpAny_bind (wpAny_sequenceKey ht.typeIs (by decide) ?_)
  refine wpAny_bind (wpAny_callSpecial?_slot (name := Str.ofString "__getitem__") ht.typeIs PyProof.Rows.slot_tuple_getitem
    (wpAny_call_entry PyProof.Rows.slot_tuple_getitem ht.typeIs entry_tuple_getitem ?_ (args_tuple_getitem _ _)))
  show wpAny _ _ (Builtin.Tuple.tupleItemsOf (.ref t) >>= _) _ _ s
  refine wpAny_bind (tupleItemsOf_ ht ?_)
  refine wpAny_bind (wpAny_typeOf hTs ?_)
  rw [if_pos (by decide)]
  refine wpAny_bind (sliceApplied_rev2 hs pl pu ps ?_)
  show wpAny _ _ (if ((1 : Int) == 0 && (-1 : Int) == 1 && (2 == 2)) = true then _ else _) _ _ s
  rw [if_neg (by decide)]
  have hz : sizeOk (.seq #[b, a]) := by show 2 ≤ sizeLine; decide
  first
    | exact wpAny_bind (m := Builtin.Tuple.tupleExact _) (wpAny_newObj_type (wpAny_pure ⟨_, rfl, wpAny_pure h⟩) hz)
    | exact wpAny_bind (m := Builtin.Tuple.tupleExact _) (wpAny_newObj_type (wpAny_bind (wpAny_pure (wpAny_pure ⟨_, rfl, wpAny_pure h⟩))) hz)
    | exact wpAny_bind (wpAny_bind (m := Builtin.Tuple.tupleExact _) (wpAny_newObj_type (wpAny_pure (wpAny_pure ⟨_, rfl, wpAny_pure h⟩)) hz))
end
end HT
namespace L2
open PySem PySem.Spec PyProof.Rows
/-- t[::-1], t a pair -/
def tRevT (K : PySem.W.Frag) (te : TE) : TE := fun σ H Q => te σ H fun x H1 => ∃ a u v, x = .ref a ∧ SqT K H1 a [u, v] ∧ ∀ p, H1 p = none → Q (.ref p) (upd H1 p (.tup [v, u]))
section
variable {X : Cx}
theorem pe_revT {e : Expr} {te : TE} {k : Nat} {p1 p2 p3 pos : Pos} (he : PE X e te) : PE X (.Subscript e (.Slice none none (some (.UnaryOp .USub (.Constant (.int 1) k p1) p2)) p3) pos) (tRevT X.K te) := by
  refine ⟨fun pins s σ H Q I h => ?_⟩
  refine Subscript_ (thn (he.run pins s σ H _ I h) fun v s1 ⟨x, H1, I1, r1, q1⟩ => ?_)
  obtain ⟨a, u1, u2, ex, hx, q⟩ := q1
  subst ex
  cases r1
  have hst : PO X (some (.UnaryOp .USub (.Constant (.int 1) k p1) p2)) (tPart (tUn (rU fun i => .int (-i)) (tC (.int 1)))) := po_some (pe_un un_neg pe_int)
  refine wpAny_Slice (thn (po_none.run pins s1 σ H1 (fun o H2 => o = none ∧ H2 = H1) I1 ⟨rfl, rfl⟩) fun vl s2 ⟨l, H2, I2, pl, el, e2⟩ => ?_)
  subst el e2
  refine thn (po_none.run pins s2 σ H2 (fun o H3 => o = none ∧ H3 = H2) I2 ⟨rfl, rfl⟩) fun vu s3 ⟨u, H3, I3, pu, eu, e3⟩ => ?_
  subst eu e3
  refine thn (hst.run pins s3 σ H3 (fun o H4 => o = some (-1) ∧ H4 = H3) I3 ⟨1, rfl, -1, rfl, rfl, rfl⟩) fun vs s4 ⟨o, H4, I4, ps, eo, e4⟩ => ?_
  subst eo e4
  have I5 : Inv X pins σ H4 { s4 with heap := s4.heap.push { cls := .type "slice", data := .fields #[vl, vu, vs] } } := I4.kept (t' := s4.toks) fun b ob q => Heap.get?_push_of_some _ q
  obtain ⟨its, r, ht, hz⟩ := I5.tuple hx
  obtain ⟨w1, w2, rfl, r1, r2⟩ : ∃ w1 w2, its = [w1, w2] ∧ RelV u1 w1 ∧ RelV u2 w2 := by
    cases r with
    | cons h1 r =>
      cases r with
      | cons h2 r =>
        cases r
        exact ⟨_, _, rfl, h1, h2⟩
  show wpAny (model X.prog X.w) X.A (subscriptTail e (.Slice none none (some (.UnaryOp .USub (.Constant (.int 1) k p1) p2)) p3) (.ref a) (.ref s4.heap.objs.size)) (EP X pins σ Q) X.xe { s4 with heap := s4.heap.push { cls := .type "slice", data := .fields #[vl, vu, vs] } }
  refine tail_any (ops := [.ref a, .ref s4.heap.objs.size]) ht.typeIs PyProof.Rows.slot_tuple_getitem.lookup ?_ (by with_unfolding_all rfl)
  refine HT.getItem_tuple_rev2 ht (Heap.IsSliceOf.new _ vl vu vs) pl pu ps ?_
  refine ⟨.ref _, _, I5.laid (t' := s4.toks) (o := .tup [u2, u1]) (fun b ob q => Heap.get?_push_of_some _ q) (Nat.le_refl _) ?_, rfl, q _ (I5.hok.fresh (Nat.le_refl _))⟩
  exact ⟨by show 2 ≤ sizeLine; decide, _, .cons r2 (.cons r1 .nil), IsTup.new _ _⟩
end
end L2

set_option Elab.async false
set_option linter.all false
set_option maxRecDepth 100000
set_option maxHeartbeats 4000000
/-! set(xs) of a list of ints. -/
namespace HL
open PySem PySem.Spec PyProof.Rows L2 in
section
variable {P : Program} {w : World} {A : Around} {E : Value → Shared → Prop} {s : Shared} {l : Addr} {xs : Array Value} {Q : Value → Shared → Prop}
/-- the new set -/
abbrev eS (w : World) : Obj := { cls := .type "set", dict := none, data := .set #[] 0 (.fresh 0 0 (!w.params.followText "set-order")) }
theorem ints_val {ns : List Int} (hi : IntsAre xs.toList ns) (i : Nat) (v : Value) (hv : xs[i]? = some v) : ∃ k t, ns[i]? = some k ∧ v = .int k t := by
  have hz : xs.size = ns.length := by rw [← IntsAre.length hi, Array.length_toList]
  have hlt : i < ns.length := hz ▸ (Array.getElem?_eq_some_iff.mp hv).1
  obtain ⟨t, e⟩ := IntsAre.int_at hi i v (Array.getElem?_toList ▸ hv)
  exact ⟨ns[i], t, List.getElem?_eq_getElem hlt, by rw [e, List.getD_eq_getElem?_getD, List.getElem?_eq_getElem hlt]; rfl⟩
/-- what set.__init__ of it does -/
theorem set_init {ns : List Int} (hh : A.handled = none) (hl : s.heap.IsList l xs) (hi : IntsAre xs.toList ns) (hb : ns.length + 1 < scanBound) :
    codeAny (model P w) A (.call (.builtin "set.__init__") ⟨[.ref s.heap.objs.size, .ref l], []⟩)
      (wants (fun r s2 => r = .none ∧ ∃ (h' : Heap) (tk c : Nat), s2 = { s with heap := h', toks := tk } ∧ SetR w h' s.heap.objs.size (fun j => decide (j ∈ ns)) c ∧ c ≤ ns.length ∧ ∀ b o, s.heap.get? b = some o → h'.get? b = some o) E)
      { s with heap := s.heap.push (eS w) } := by
  have hz : xs.size = ns.length := by rw [← IntsAre.length hi, Array.length_toList]
  have z1 : (s.heap.push (eS w)).objs.size = s.heap.objs.size + 1 := Heap.size_push ..
  have one : (s.heap.push (eS w)).get? s.heap.objs.size = some (eS w) := Heap.get?_push_size _ rfl
  have hl1 : (s.heap.push (eS w)).IsList l xs := hl.push _
  obtain ⟨ol, hol, hcl, nl, hdl⟩ := id hl
  have lS : l < s.heap.objs.size := Heap.lt_size hol
  have nS : s.heap.objs.size ∉ [(s.heap.push (eS w)).objs.size, l] := by
    rw [z1]
    simp only [List.mem_cons, List.not_mem_nil, or_false]
    rintro (z | z)
    · exact Nat.succ_ne_self _ z.symm
    · exact Nat.ne_of_gt lS z
  have nI : l ≠ (s.heap.push (eS w)).objs.size := by
    rw [z1]
    exact Nat.ne_of_lt (Nat.lt_succ_of_lt lS)
  have ty : Shared.TypeIs { s with heap := s.heap.push (eS w) } (.ref s.heap.objs.size) "set" := ⟨_, one, rfl⟩
  obtain ⟨oc, odc, oda, osl⟩ := ol
  simp only at hcl hdl
  subst hcl hdl
  have q1 := F.sub_list_set
  have q2 := F.sub_list_frozenset
  have q3 : (Value.type "list" == Value.type "dict") = false := rfl
  have q4 := Heap.get?_push_of_some (eS w) hol
  refine codeAny_call_builtin F.called_set.init.plain F.entry_set_init (check_set_init_1 ty ?_)
  unfold Builtin.«set.__init__» noKeywords Builtin.Frozenset.updateFrom
  generalize g : pyIter = It
  wp_walk
  subst g
  refine wpAny_pyIter_list hl1 (wpAny_bind (wpAny_runValue ?_))
  have h0 : A.in1.in1.handled = none := by simp [hh]
  have two : ((s.heap.push (eS w)).push { cls := .type "list_iterator", data := .fields #[.ref l, .int 0 0] }).get? s.heap.objs.size = some (eS w) := Heap.get?_push_of_some _ one
  refine set_update_ints (Walks.list h0 _ l nI xs).toS s.heap.objs.size nS ns hz hb (ints_val hi) xs.size 0 _ (by omega) (Nat.zero_le _) ?h0 ?h1 ?h2
  case h0 => exact ⟨⟨_, Heap.get?_push_size _ rfl, rfl, rfl⟩, hl1.push _⟩
  case h1 => exact ⟨0, Nat.le_refl 0, setR_new_at two⟩
  rintro ⟨h', g2, d2, tk, o2⟩ c m hc R2
  obtain rfl : g2 = s.gens := m.gens
  obtain rfl : d2 = s.drawn := m.drawn
  obtain rfl : o2 = s.os := m.os
  refine wpAny_pure (wpAny_pure ⟨rfl, h', tk, c, rfl, R2, hz ▸ hc, fun b o e => ?_⟩)
  have lb := Heap.lt_size e
  exact m.heap b o (by
    rw [z1]
    simp only [List.mem_cons, List.not_mem_nil, or_false]
    rintro (z | z)
    · exact Nat.ne_of_lt lb z
    · exact Nat.ne_of_lt (Nat.lt_succ_of_lt lb) z) (Heap.get?_push_of_some _ (Heap.get?_push_of_some _ e))
/-- set(xs) -/
theorem set_call {ns : List Int} (hh : A.handled = none) (hl : s.heap.IsList l xs) (hi : IntsAre xs.toList ns) (hb : ns.length + 1 < scanBound)
    (h : ∀ (h' : Heap) (tk c : Nat), SetR w h' s.heap.objs.size (fun j => decide (j ∈ ns)) c → c ≤ ns.length → (∀ b o, s.heap.get? b = some o → h'.get? b = some o) → Q (.ref s.heap.objs.size) { s with heap := h', toks := tk }) :
    wpAny (model P w) A (call (.type "set") [.ref l]) Q E s := by
  obtain ⟨_, _, m1⟩ := F.called_set.mro
  have m2 := F.called_set.made; have m3 := F.called_set.sub
  have n1 := F.called_set.notType; have n2 := F.called_set.canCreate; have n3 := F.typeCall_set_1 (.ref l)
  refine wpAny_call (codeAny_of_tree (wpAny_pure (a := Fin.again _) ⟨Code.quiet_builtin _ (by decide +kernel), codeAny_builtin F.entry_type_call ?_⟩))
  rw [Around.under_plain (weight_type_call_type "set" [.ref l] []) rfl]
  repeat (any_goals (first | assumption | wp_step))
  refine codeAny_mono (code_set_led1 (.ref l) (E := E) (Q₁ := fun u t => u = .ref s.heap.objs.size ∧ t = { s with heap := s.heap.push (eS w) }) ⟨rfl, rfl⟩) fun r t hr => ?_
  match r, hr with
  | .error _, hr => exact hr
  | .ok .next, hr => exact hr.elim
  | .ok .brk, hr => exact hr.elim
  | .ok .cont, hr => exact hr.elim
  | .ok (.ret u), hr =>
    obtain ⟨rfl, rfl⟩ := hr
    have ty : Shared.TypeIs { s with heap := s.heap.push (eS w) } (.ref s.heap.objs.size) "set" := ⟨_, Heap.get?_push_size _ rfl, rfl⟩
    have i1 := F.called_set.init.lookup; have i2 := F.called_set.init.bind (.ref s.heap.objs.size)
    repeat (any_goals (first | assumption | wp_step))
    refine codeAny_mono (set_init (E := E) (by simp [hh]) hl hi hb) fun r t hr => ?_
    match r, hr with
    | .error _, hr => exact hr
    | .ok .next, hr => exact hr.elim
    | .ok .brk, hr => exact hr.elim
    | .ok .cont, hr => exact hr.elim
    | .ok (.ret u), hr =>
      obtain ⟨rfl, h', tk, c, rfl, R2, hc, k⟩ := hr
      repeat (any_goals (first | assumption | wp_step))
      exact h h' tk c R2 hc k
end
end HL
namespace L2
open PySem PySem.Spec PyProof.Rows
/-- set(xs), a list of fewer than 64 ints -/
def rSetI (K : PySem.W.Frag) (w : World) : List V → Hp → VK → Prop := fun xs H Q => ∃ (l : Addr) (ns : List Int), xs = [.ref l] ∧ SqL K H l (ns.map V.int) ∧ ns.length < 64 ∧ ∀ p c, H p = none → c ≤ ns.length → Q (.ref p) (upd H p (SetO w p (fun j => decide (j ∈ ns)) c))
theorem cr_setI {X : Cx} (hc : X.calm = true) : CallR X (.type "set") (rSetI X.K X.w) := by
  intro pins s σ H xs us Q I r h
  obtain ⟨l, ns, rfl, hq, hz, q⟩ := h
  rw [Vals.ref1 r]
  obtain ⟨its, rv, p, _⟩ := I.list hq
  refine HL.set_call (ns := ns) (I.ok.hd hc) p.isList (by simpa using ints_of_vals rv) (by unfold scanBound; omega) fun h' tk c R hcn k => ?_
  exact ⟨.ref _, _, I.laid (t' := tk) k (Nat.le_refl _) (setO_new R), rfl, q _ c (I.hok.fresh (Nat.le_refl _)) hcn⟩
end L2

set_option Elab.async false
set_option linter.all false
set_option maxRecDepth 100000
set_option maxHeartbeats 4000000
/-! rules as data -/
namespace U
open PySem PySem.Spec PyProof.Rows L2
open Evl (Ex)
section
def sq (t : Bool) (ds : List PyData) : PyData := if t then .tuple ds else .list ds
end
section
def oD : Option Int → PyData
  | none => .none
  | some i => .int i
end
section
def oV : Option Int → V
  | none => .non
  | some i => .int i
end
section
theorem oD_inv {K : PySem.W.Frag} {H : Hp} {v : V} {o : Option Int} (h : Dp K H v (oD o)) : v = oV o := by
  cases o <;> (cases h; rfl)
end
section
def smallE (x : List Int) : Prop := ∀ e ∈ x, -(2 ^ 64) < e ∧ e < 2 ^ 64
end
section
def rgD (t : Bool) (p : Option Int × Option Int) : PyData := sq t [oD p.1, oD p.2]
end
section
inductive Rl where
  | half (ws : List Int) (b : Int)
  | box (rs : List (Option Int × Option Int))
  | rise (cs : List (List (Option Int)))
  | flat (ps : List (List Int))
  | turns (f : Bool) (cs : List Int)
  | no (r : Rl)
  | both (r s : Rl)
  | either (r s : Rl)
  | first (r : Rl)
  | second (r : Rl)
end
section
def Bits (n : Nat) (r : List Int) : Prop := ∀ x ∈ r, x.natAbs < 2 ^ n
end
section
variable {P : Program} {w : World} {K : PySem.W.Frag} {mg : Str → Option Value} {base : Heap}
theorem dpi_inv {H : Hp} {vs : List V} {ns : List Int} (h : DpAll K H vs (ns.map PyData.int)) : vs = ns.map V.int := by
  induction ns generalizing vs with
  | nil =>
    cases h
    rfl
  | cons n ns ih =>
    cases h with
    | cons r rr =>
      cases r
      rw [ih rr]
      rfl
end
section
def rlD (t : Bool) : Rl → PyData
  | .half ws b => sq t [.str "half", sq t (ws.map .int), .int b]
  | .box rs => sq t [.str "box", sq t (rs.map (rgD t))]
  | .rise cs => sq t [.str "rise", sq t (cs.map fun c => sq t (c.map oD))]
  | .flat ps => sq t [.str "flat", sq t (ps.map fun y => sq t (y.map .int))]
  | .turns f cs => sq t [.str "turns", .bool f, sq t (cs.map .int)]
  | .no r => sq t [.str "not", rlD t r]
  | .both r s => sq t [.str "both", rlD t r, rlD t s]
  | .either r s => sq t [.str "either", rlD t r, rlD t s]
  | .first r => sq t [.str "first", rlD t r]
  | .second r => sq t [.str "second", rlD t r]
end
section
def okR (d : Nat) : Rl → Prop
  | .half ws b => ws.length = d ∧ smallE ws
  | .box rs => rs.length = d
  | .rise cs => (∀ c ∈ cs, c.length = d) ∧ cs.length ≤ 1000
  | .flat ps => (∀ y ∈ ps, y.length = d) ∧ ps.length ≤ 3 ∧ ∀ y ∈ ps, Bits 59 y
  | .turns f cs => d = 1 ∧ cs.length ≤ 1000
  | .no r => okR d r
  | .both r s => okR d r ∧ okR d s
  | .either r s => okR d r ∧ okR d s
  | .first r => okR d r
  | .second r => okR d r
end
section
def depR : Rl → Nat
  | .no r => depR r + 1
  | .both r s => max (depR r) (depR s) + 1
  | .either r s => max (depR r) (depR s) + 1
  | .first r => depR r + 1
  | .second r => depR r + 1
  | _ => 0
end
structure TxR (mg : Str → Option Value) : Prop extends TxF mg
section
variable {K : PySem.W.Frag} {σ : L2.St} {H : Hp} {ta tb te : TE} {xs ys : List V}
theorem el_cat (h1 : Evl.EvL ta σ H xs) (h2 : Evl.EvL tb σ H ys) (hz : xs.length + ys.length ≤ 10000) : Evl.EvL (tOp rCat ta tb) σ H (xs ++ ys) := fun H1 e Q q => h1 H1 e _ fun p1 H2 hp e2 hx => h2 H2 (e.trans e2) _ fun p2 H3 hp2 e3 hy =>
  ⟨p1, p2, xs, ys, rfl, rfl, e3 _ _ hx, hy, Evl.sz_of (by omega), fun r hr => q r _ (Evl.fresh_back (e2.trans e3) hr) ((e2.trans e3).trans (Ex.new hr)) upd_same⟩
end
section
variable {K : PySem.W.Frag} {σ : L2.St} {H : Hp} {ta tb te : TE} {xs ys : List V}
theorem el_listT {a : Addr} (h : Evl.Ev te σ H (.ref a)) (hx : SqL K H a xs ∨ SqT K H a xs) : Evl.EvL (tCB (fun xs H Q => ∃ p ys, xs = [.ref p] ∧ (SqL K H p ys ∨ SqT K H p ys) ∧ ∀ l, H l = none → Q (.ref l) (upd H l (.lst ys))) (tCons te tNil)) σ H xs := fun H1 e Q q => h H1 e _ fun H2 e2 =>
  ⟨a, xs, rfl, hx.imp (Evl.ex_l (e.trans e2)) (Evl.ex_t (e.trans e2)), fun r hr => q r _ (Evl.fresh_back e2 hr) (e2.trans (Ex.new hr)) upd_same⟩
end
section
variable {K : PySem.W.Frag} {σ : L2.St} {H : Hp} {ta tb te : TE} {xs ys : List V}
theorem ev_int1 {b : Bool} (h : Evl.Ev te σ H (.bl b)) : Evl.Ev (tCB (fun xs H Q => (∃ i, xs = [.int i] ∧ Q (.int i) H) ∨ ∃ k, xs = [.bl k] ∧ Q (.int (if k then 1 else 0)) H) (tCons te tNil)) σ H (.int (if b then 1 else 0)) := fun H1 e Q q => h H1 e _ fun H2 e2 => .inr ⟨b, rfl, q H2 e2⟩
end
section
variable {P : Program} {w : World} {K : PySem.W.Frag} {mg : Str → Option Value} {base : Heap}
theorem ne_of_none' {H : Hp} {a b : Addr} (h : H a = none) (h2 : H b ≠ none) : a ≠ b := fun e => h2 (by rw [← e]; exact h)
end
section
variable {P : Program} {w : World} {K : PySem.W.Frag} {mg : Str → Option Value} {base : Heap}
theorem gr_in {K : PySem.W.Frag} {L : List Addr} {H : Hp} {l t : Addr} {o : HO} {ds : List PyData} (h : Gr K L H t ds) (m : l ∈ L) : Gr K L (upd H l o) t ds := by
  obtain ⟨n, xs, h1, h2⟩ := h
  refine ⟨n, xs, by rw [upd_ne (fun z => n (by rw [z]; exact m))]; exact h1, ?_⟩
  rw [w_upd_in (List.mem_cons_of_mem _ m)]
  exact h2
end
end U

set_option Elab.async false
set_option linter.all false
set_option maxRecDepth 100000
set_option maxHeartbeats 4000000
namespace U
open PySem PySem.Spec PyProof.Rows L2
open Evl (Ex)
abbrev s_point : Stmt := top 33
abbrev sc_point_N : List Str := ["_law_draws", "_law_places", "_law_wide", "_law_k"]
theorem sc_point : FnScope sc_point_N ["_law_draws", "_law_places", "_law_wide"] (defScope s_point) := ⟨rfl, rfl, rfl, by decide +kernel, rfl, by decide +kernel, by decide +kernel⟩
abbrev s_corner : Stmt := top 39
abbrev sc_corner_N : List Str := ["_law_draws", "_law_places", "_law_wide", "_law_k"]
theorem sc_corner : FnScope sc_corner_N ["_law_draws", "_law_places", "_law_wide"] (defScope s_corner) := ⟨rfl, rfl, rfl, by decide +kernel, rfl, by decide +kernel, by decide +kernel⟩
abbrev s_range : Stmt := top 38
abbrev sc_range_N : List Str := ["_law_draws", "_law_wide", "_law_low", "_law_high"]
theorem sc_range : FnScope sc_range_N ["_law_draws", "_law_wide"] (defScope s_range) := ⟨rfl, rfl, rfl, by decide +kernel, rfl, by decide +kernel, by decide +kernel⟩
/-- a drawn point: its entries lie from -w to w -/
def spPoint (K : PySem.W.Frag) : Sp := fun vs H Q _ => ∃ (l : Addr) (p w : Int) (n : Nat) (L : List Addr), vs = [.ref l, .int p, .int w] ∧ Dr n H l ∧ n < 900000 ∧ l ∈ L ∧ Hid L H ∧ 1 ≤ p ∧ p ≤ 3 ∧ 0 ≤ w ∧ w ≤ 1000 ∧
  ∀ v ns H', ExB l H H' → Dr (n + 3) H' l → ((ns : List Int).length : Int) = p → (∀ y ∈ ns, -w ≤ y ∧ y ≤ w) → Dp K (W L H') v (.tuple (ns.map .int)) → Q v H'
def bO (w : Int) (o : Option Int) : Prop := ∀ i, o = some i → -w ≤ i ∧ i ≤ w
def spCorner (K : PySem.W.Frag) : Sp := fun vs H Q _ => ∃ (l : Addr) (p w : Int) (n : Nat) (L : List Addr), vs = [.ref l, .int p, .int w] ∧ Dr n H l ∧ n < 900000 ∧ l ∈ L ∧ Hid L H ∧ 1 ≤ p ∧ p ≤ 3 ∧ 0 ≤ w ∧ w ≤ 1000 ∧
  ∀ v c H', ExB l H H' → Dr (n + 6) H' l → ((c : List (Option Int)).length : Int) = p → (∀ o ∈ c, bO w o) → Dp K (W L H') v (.tuple (c.map oD)) → Q v H'
def spRange (K : PySem.W.Frag) : Sp := fun vs H Q _ => ∃ (l : Addr) (w : Int) (n : Nat) (L : List Addr), vs = [.ref l, .int w] ∧ Dr n H l ∧ n < 800000 ∧ l ∈ L ∧ Hid L H ∧ 0 ≤ w ∧ w ≤ 1000 ∧
  ∀ v o1 o2 H', ExB l H H' → Dr (n + 6) H' l → bO w o1 → bO w o2 → Dp K (W L H') v (rgD true (o1, o2)) → Q v H'
theorem dpa_intsL {K : PySem.W.Frag} {H : Hp} : ∀ ns : List Int, DpAll K H (ns.map V.int) (ns.map PyData.int)
  | [] => .nil
  | n :: ns => .cons (.int n) (dpa_intsL ns)
theorem dpa_opt {K : PySem.W.Frag} {H : Hp} : ∀ c : List (Option Int), DpAll K H (c.map oV) (c.map oD)
  | [] => .nil
  | none :: c => .cons .non (dpa_opt c)
  | some n :: c => .cons (.int n) (dpa_opt c)
section
variable {P : Program} {w : World} {K : PySem.W.Frag} {mg : Str → Option Value} {base : Heap}
/-- one draw -/
theorem draw_run {σ : L2.St} {H : Hp} {tm : TE} {l : Addr} {n : Nat} {many : Int} {Q : VK} (h0 : σ[0]? = some (some (.ref l))) (hd : Dr n H l) (hn : n < 1000000) (hm : Evl.Ev tm σ H (.int many)) (m0 : 0 < many) (m1 : many < 1073741824)
    (k : ∀ r H', 0 ≤ r → r < many → Dr (n + 1) H' l → ExB l H H' → Q (.int r) H') : tCallD spDraw (tCons (tVar 0) (tCons tm tNil)) σ H Q :=
  ⟨_, h0, hm H (Ex.refl H) _ fun H1 e1 => ⟨l, many, n, rfl, hd.ex e1, hn, m0, m1, fun r o r0 r1 hd' => k r _ r0 r1 hd' ((ExB.of e1).trans ExB.upd)⟩⟩
theorem ok_point {f : Addr} {fd : FuncData} (F : Fun K "_law_point" "_law_point" s_point f fd) (T : TxR mg) (D_draw : DefAt P w K mg base "_law_draw" 1 ["_law_draws", "_law_many"] spDraw) : FnOk P w K mg base CX0 2 f fd ["_law_draws", "_law_places", "_law_wide"] (spPoint K) := by
  refine F.ok sc_point (fun vs H Q E h => ?_) (fun cdv A outer s H vs Q E hr h => ?_)
  · obtain ⟨_, _, _, _, _, rfl, _⟩ := h
    rfl
  · obtain ⟨l, p, w, n, L, rfl, hd, hn, hl, hL, p1, p3, w0, w1, k⟩ := h
    refine ⟨_, (pss_one (ps_ret (pe_callTy call_tuple_of (by rfl) T.m_tuple (by decide +kernel) (pa_cons (pe_lc (own := [("_law_k", 3)]) (g := gName 3) (tt := tYes) (by rfl) sc_point.nd (pi_range1 (by rfl) T.m_range (pa_cons (pv 1) pa_nil)) (blkOk_by (N := sc_point_N) (sc := defScope s_point) (by decide +kernel)) (fun _ _ _ _ _ => (pg_name (i := 3) sc_point.nd rfl (by first | exact Or.inl rfl | exact Or.inr rfl))) (fun _ _ _ _ _ => pts_nil) (fun _ _ _ _ _ => (pe_op op_sub (pe_callD D_draw (by first | exact hr | exact hr.mono (by decide) | exact hr.mono (by omega)) (by rfl) (pa_cons (pv 0) (pa_cons (pe_op op_add (pe_op op_mul pe_int (pv 2)) pe_int) pa_nil))) (pv 2)))) pa_nil)))), ?_⟩
    refine ⟨_, rfl, p, rfl, by omega, by omega, fun Dl hD => ?_⟩
    have hDl : Dl ≠ l := fun e => hd.ne (by rw [← e]; exact hD)
    let Pv : Nat → Hp → Prop := fun i H' => ExB l H H' ∧ Dr (n + i) H' l ∧ ∃ ns : List Int, ns.length = i ∧ (∀ y ∈ ns, -w ≤ y ∧ y ≤ w) ∧ H' Dl = some (.lst (ns.map V.int))
    refine lc_range (lo := 0) (n := p.toNat) Pv ⟨ExB.of (Ex.new hD), hd.ex (Ex.new hD), [], rfl, (fun y hy => nomatch hy), upd_same⟩ (fun i H2 hi pv => ?_) (fun H2 pv => ?_)
    · obtain ⟨e2, hd2, ns, hns, hw, hl2⟩ := pv
      refine ⟨rfl, ?_⟩
      refine yes_lc (B := fun H3 => Pv (i + 1) H3) ?_
      refine draw_run (n := n + i) (many := 2 * w + 1) (by rfl) hd2 (by omega) (Evl.ev_op (Evl.ev_op Evl.ev_c (Evl.ev_var rfl) (Evl.rv_I (C := CMul) (g := fun i j => .int (i * j)) (i := 2) (j := w) (.inl ⟨by decide, by decide⟩))) Evl.ev_c (Evl.rv_I0 (g := fun i j => .int (i + j)))) (by omega) (by omega) fun r H3 r0 r1 hd3 e3 => ?_
      have h3 : H3 Dl = some (.lst (ns.map V.int)) := e3 Dl _ hDl hl2
      refine ⟨_, rfl, _, _, rfl, rfl, ns.map V.int, h3, Evl.sz_lt (by rw [List.length_map]; omega), ?_, ?_, ns ++ [r - w], ?_, ?_, ?_⟩
      · intro b o hb hbo
        have nb : b ≠ Dl := ne_of_none hbo hD
        rw [upd_ne nb]
        exact e3 b o hb (e2 b o hb hbo)
      · obtain ⟨x, y, z, q1, q2⟩ := hd3
        exact ⟨x, y, z, by rw [upd_ne (Ne.symm hDl)]; exact q1, q2⟩
      · rw [List.length_append, hns]
        rfl
      · intro y hy
        rcases List.mem_append.mp hy with q | q
        · exact hw y q
        · rw [List.mem_singleton.mp q]
          omega
      · rw [upd_same, List.map_append]
        rfl
    · obtain ⟨e2, hd2, ns, hns, hw, hl2⟩ := pv
      have hDL : Dl ∉ L := hid_not hL hD
      refine ⟨Dl, ns.map V.int, rfl, .inl ⟨SqL.of hl2, fun r hr => ?_⟩⟩
      have hLr : r ∉ L := fun m => (e2.hid hd2.ne hL) r m hr
      refine k _ ns _ (e2.trans (ExB.of (Ex.new hr))) ((hd2.ex (Ex.new hr)).up (by omega)) (by omega) hw (.tup (SqT.of (w_of hLr upd_same)) (dpa_intsL ns))
theorem ok_corner {f : Addr} {fd : FuncData} (F : Fun K "_law_corner" "_law_corner" s_corner f fd) (T : TxR mg) (D_draw : DefAt P w K mg base "_law_draw" 1 ["_law_draws", "_law_many"] spDraw) : FnOk P w K mg base CX0 2 f fd ["_law_draws", "_law_places", "_law_wide"] (spCorner K) := by
  refine F.ok sc_corner (fun vs H Q E h => ?_) (fun cdv A outer s H vs Q E hr h => ?_)
  · obtain ⟨_, _, _, _, _, rfl, _⟩ := h
    rfl
  · obtain ⟨l, p, w, n, L, rfl, hd, hn, hl, hL, p1, p3, w0, w1, k⟩ := h
    refine ⟨_, (pss_one (ps_ret (pe_callTy call_tuple_of (by rfl) T.m_tuple (by decide +kernel) (pa_cons (pe_lc (own := [("_law_k", 3)]) (g := gName 3) (tt := tYes) (by rfl) sc_corner.nd (pi_range1 (by rfl) T.m_range (pa_cons (pv 1) pa_nil)) (blkOk_by (N := sc_corner_N) (sc := defScope s_corner) (by decide +kernel)) (fun _ _ _ _ _ => (pg_name (i := 3) sc_corner.nd rfl (by first | exact Or.inl rfl | exact Or.inr rfl))) (fun _ _ _ _ _ => pts_nil) (fun _ _ _ _ _ => (pe_ifExp (pt_cmpR op_eq (pe_callD D_draw (by first | exact hr | exact hr.mono (by decide) | exact hr.mono (by omega)) (by rfl) (pa_cons (pv 0) (pa_cons pe_int pa_nil))) pe_int (nomark _)) pe_non (pe_op op_sub (pe_callD D_draw (by first | exact hr | exact hr.mono (by decide) | exact hr.mono (by omega)) (by rfl) (pa_cons (pv 0) (pa_cons (pe_op op_add (pe_op op_mul pe_int (pv 2)) pe_int) pa_nil))) (pv 2))))) pa_nil)))), ?_⟩
    refine ⟨_, rfl, p, rfl, by omega, by omega, fun Dl hD => ?_⟩
    have hDl : Dl ≠ l := fun e => hd.ne (by rw [← e]; exact hD)
    let Pv : Nat → Hp → Prop := fun i H' => ExB l H H' ∧ Dr (n + 2 * i) H' l ∧ ∃ c : List (Option Int), c.length = i ∧ (∀ o ∈ c, bO w o) ∧ H' Dl = some (.lst (c.map oV))
    refine lc_range (lo := 0) (n := p.toNat) Pv ⟨ExB.of (Ex.new hD), hd.ex (Ex.new hD), [], rfl, (fun o ho => nomatch ho), upd_same⟩ (fun i H2 hi pv => ?_) (fun H2 pv => ?_)
    · obtain ⟨e2, hd2, c, hc, hb, hl2⟩ := pv
      refine ⟨rfl, ?_⟩
      refine yes_lc (B := fun H3 => Pv (i + 1) H3) ?_
      have fin : ∀ (o : Option Int) (H3 : Hp), bO w o → ExB l H2 H3 → Dr (n + 2 * (i + 1)) H3 l → ∃ xs, H3 Dl = some (.lst xs) ∧ xs.length + 1 ≤ sizeLine ∧ Pv (i + 1) (upd H3 Dl (.lst (xs ++ [oV o]))) := fun o H3 ho e3 hd3 => by
        have h3 : H3 Dl = some (.lst (c.map oV)) := e3 Dl _ hDl hl2
        refine ⟨_, h3, Evl.sz_lt (by rw [List.length_map]; omega), ?_, ?_, c ++ [o], ?_, ?_, ?_⟩
        · intro b o hb hbo
          have nb : b ≠ Dl := ne_of_none hbo hD
          rw [upd_ne nb]
          exact e3 b o hb (e2 b o hb hbo)
        · obtain ⟨x, y, z, q1, q2⟩ := hd3
          exact ⟨x, y, z, by rw [upd_ne (Ne.symm hDl)]; exact q1, q2⟩
        · rw [List.length_append, hc]
          rfl
        · intro q hq
          rcases List.mem_append.mp hq with z | z
          · exact hb q z
          · rw [List.mem_singleton.mp z]
            exact ho
        · rw [upd_same, List.map_append]
          rfl
      refine draw_run (n := n + 2 * i) (many := 6) (by rfl) hd2 (by omega) Evl.ev_c (by decide) (by decide) fun r H3 r0 r1 hd3 e3 => ?_
      refine ⟨rfl, _, rfl, ?_⟩
      refine ite2 (fun hc => ?_) (fun hc => ?_)
      · exact fin none H3 (fun _ z => nomatch z) e3 (hd3.up (by omega))
      · refine draw_run (n := n + 2 * i + 1) (many := 2 * w + 1) (by rfl) hd3 (by omega) (Evl.ev_op (Evl.ev_op Evl.ev_c (Evl.ev_var rfl) (Evl.rv_I (C := CMul) (g := fun i j => .int (i * j)) (i := 2) (j := w) (.inl ⟨by decide, by decide⟩))) Evl.ev_c (Evl.rv_I0 (g := fun i j => .int (i + j)))) (by omega) (by omega) fun r2 H4 q0 q1 hd4 e4 => ?_
        refine ⟨_, rfl, _, _, rfl, rfl, ?_⟩
        exact fin (some (r2 - w)) H4 (fun i z => by cases z; omega) (e3.trans e4) (hd4.up (by omega))
    · obtain ⟨e2, hd2, c, hc, hb, hl2⟩ := pv
      have hDL : Dl ∉ L := hid_not hL hD
      refine ⟨Dl, c.map oV, rfl, .inl ⟨SqL.of hl2, fun r hr => ?_⟩⟩
      have hLr : r ∉ L := fun m => (e2.hid hd2.ne hL) r m hr
      refine k _ c _ (e2.trans (ExB.of (Ex.new hr))) ((hd2.ex (Ex.new hr)).up (by omega)) (by omega) hb (.tup (SqT.of (w_of hLr upd_same)) (dpa_opt c))
theorem bo_of {w a : Int} {o : Option Int} (h : o = none ∨ o = some a) (ha : -w ≤ a ∧ a ≤ w) : bO w o := fun i e => by
  rcases h with h | h
  · rw [h] at e
    cases e
  · rw [h] at e
    cases e
    exact ha
theorem opt_run {σ : L2.St} {H : Hp} {l : Addr} {n j : Nat} {a : Int} {Q : VK} (h0 : σ[0]? = some (some (.ref l))) (hj : σ[j]? = some (some (.int a))) (hd : Dr n H l) (hn : n < 1000000)
    (k : ∀ o H', (o = none ∨ o = some a) → ExB l H H' → Dr (n + 1) H' l → Q (oV o) H') : tIf (tTest (tOp rEq (tCallD spDraw (tCons (tVar 0) (tCons (tC (V.int 5)) tNil))) (tC (V.int 0)))) (tC V.non) (tVar j) σ H Q := by
  refine draw_run (n := n) (many := 5) h0 hd hn Evl.ev_c (by decide) (by decide) fun r H3 r0 r1 hd3 e3 => ?_
  refine ⟨rfl, _, rfl, ?_⟩
  refine ite2 (fun hc => ?_) (fun hc => ?_)
  · exact k none H3 (.inl rfl) e3 hd3
  · exact ⟨_, hj, k (some a) H3 (.inr rfl) e3 hd3⟩
theorem ok_range {f : Addr} {fd : FuncData} (F : Fun K "_law_range" "_law_range" s_range f fd) (T : TxR mg) (D_draw : DefAt P w K mg base "_law_draw" 1 ["_law_draws", "_law_many"] spDraw) (D_point : DefAt P w K mg base "_law_point" 2 ["_law_draws", "_law_places", "_law_wide"] (spPoint K)) : FnOk P w K mg base CX0 3 f fd ["_law_draws", "_law_wide"] (spRange K) := by
  refine F.ok sc_range (fun vs H Q E h => ?_) (fun cdv A outer s H vs Q E hr h => ?_)
  · obtain ⟨_, _, _, _, rfl, _⟩ := h
    rfl
  · obtain ⟨l, w, n, L, rfl, hd, hn, hl, hL, w0, w1, k⟩ := h
    refine ⟨_, (pss_cons (ps_asg (pe_callD D_point (by first | exact hr | exact hr.mono (by decide) | exact hr.mono (by omega)) (by rfl) (pa_cons (pv 0) (pa_cons pe_int (pa_cons (pv 1) pa_nil)))) (pg_tup (by rfl) (pgs_cons (pg_name (i := 2) sc_range.nd rfl (by first | exact Or.inl rfl | exact Or.inr rfl)) (pgs_cons (pg_name (i := 3) sc_range.nd rfl (by first | exact Or.inl rfl | exact Or.inr rfl)) pgs_nil))))
    (pss_cons (ps_if (PW.pt (pw_and (pt_cmpR op_gt (pe_callD D_draw (by first | exact hr | exact hr.mono (by decide) | exact hr.mono (by omega)) (by rfl) (pa_cons (pv 0) (pa_cons pe_int pa_nil))) pe_int (nomark _)) (pw_and1 (pt_cmpR op_gt (pv 2) (pv 3) (nomark _))))) (pss_one (ps_par (i := 2) (j := 3) (by rfl) sc_range.nd rfl rfl (by decide) rfl rfl (pa_cons (pv 3) (pa_cons (pv 2) pa_nil)) (by rfl))) pss_nil)
    (pss_one (ps_ret (pe_tup (pa_cons (pe_ifExp (pt_cmpR op_eq (pe_callD D_draw (by first | exact hr | exact hr.mono (by decide) | exact hr.mono (by omega)) (by rfl) (pa_cons (pv 0) (pa_cons pe_int pa_nil))) pe_int (nomark _)) pe_non (pv 2)) (pa_cons (pe_ifExp (pt_cmpR op_eq (pe_callD D_draw (by first | exact hr | exact hr.mono (by decide) | exact hr.mono (by omega)) (by rfl) (pa_cons (pv 0) (pa_cons pe_int pa_nil))) pe_int (nomark _)) pe_non (pv 3)) pa_nil))))))), ?_⟩
    refine ⟨_, rfl, _, rfl, l, 2, w, n, L, rfl, hd, by omega, hl, hL, by omega, by omega, w0, w1, fun v ns H1 e1 hd1 hns hw hv => ?_⟩
    obtain ⟨a, b, rfl⟩ : ∃ a b, ns = [a, b] := by
      match ns, hns with
      | [a, b], _ => exact ⟨a, b, rfl⟩
    have hab := hw a (by simp)
    have hb := hw b (by simp)
    have last : ∀ (a b : Int) (H2 : Hp), (-w ≤ a ∧ a ≤ w) → (-w ≤ b ∧ b ≤ w) → ExB l H1 H2 → Dr (n + 4) H2 l → tRet (tTup (tCons (tIf (tTest (tOp rEq (tCallD spDraw (tCons (tVar 0) (tCons (tC (V.int 5)) tNil))) (tC (V.int 0)))) (tC V.non) (tVar 2)) (tCons (tIf (tTest (tOp rEq (tCallD spDraw (tCons (tVar 0) (tCons (tC (V.int 5)) tNil))) (tC (V.int 0)))) (tC V.non) (tVar 3)) tNil)))
        { nx := fun x H' => Q V.non H', rt := Q } [some (.ref l), some (.int w), some (.int a), some (.int b)] H2 := fun a b H2 ha hb e2 hd2 => by
      refine opt_run (n := n + 4) (l := l) (a := a) (by rfl) (by rfl) hd2 (by omega) fun o1 H3 q1 e3 hd3 => ?_
      refine opt_run (n := n + 5) (l := l) (a := b) (by rfl) (by rfl) hd3 (by omega) fun o2 H4 q2 e4 hd4 => ?_
      refine ⟨by show 2 ≤ sizeLine; decide, fun r hr => ?_⟩
      have hLr : r ∉ L := fun m => ((((e1.trans e2).trans e3).trans e4).hid hd4.ne hL) r m hr
      refine k _ o1 o2 _ ((((e1.trans e2).trans e3).trans e4).trans (ExB.of (Ex.new hr))) (hd4.ex (Ex.new hr)) (bo_of q1 ha) (bo_of q2 hb) (.tup (SqT.of (w_of hLr upd_same)) (dpa_opt [o1, o2]))
    cases hv with
    | @tup p xs _ hs ha =>
      have ex := dpi_inv ha
      subst ex
      refine ⟨p, _, rfl, Evl.ex_t w_sub hs, rfl, .int a, [.int b], rfl, .int b, [], rfl, rfl, ?_⟩
      refine draw_run (n := n + 3) (many := 5) (by rfl) hd1 (by omega) Evl.ev_c (by decide) (by decide) fun r H2 r0 r1 hd2 e2 => ?_
      refine ⟨_, _, rfl, rfl, _, rfl, ?_⟩
      refine ite2 (fun hc => ?_) (fun hc => ?_)
      · refine ⟨_, rfl, _, rfl, _, _, rfl, rfl, _, rfl, ?_⟩
        refine ite2 (fun hc => ?_) (fun hc => ?_)
        · exact ⟨_, rfl, _, rfl, _, _, rfl, last b a H2 hb hab e2 hd2⟩
        · exact last a b H2 hab hb e2 hd2
      · exact last a b H2 hab hb e2 hd2
end
end U

set_option Elab.async false
set_option linter.all false
set_option maxRecDepth 100000
set_option maxHeartbeats 4000000
namespace U
open PySem PySem.Spec PyProof.Rows L2
open Evl (Ex)
abbrev s_plain : Stmt := top 34
abbrev sc_plain_N : List Str := ["_law_draws", "_law_places", "_law_word"]
theorem sc_plain : FnScope sc_plain_N ["_law_draws", "_law_places"] (defScope s_plain) := ⟨rfl, rfl, rfl, by decide +kernel, rfl, by decide +kernel, by decide +kernel⟩
abbrev s_part : Stmt := top 40
abbrev sc_part_N : List Str := ["_law_draws", "_law_places", "_law_word"]
theorem sc_part : FnScope sc_part_N ["_law_draws", "_law_places"] (defScope s_part) := ⟨rfl, rfl, rfl, by decide +kernel, rfl, by decide +kernel, by decide +kernel⟩
def spPlain (K : PySem.W.Frag) : Sp := fun vs H Q _ => ∃ (l : Addr) (p : Int) (n : Nat) (L : List Addr), vs = [.ref l, .int p] ∧ Dr n H l ∧ n < 900000 ∧ l ∈ L ∧ Hid L H ∧ 1 ≤ p ∧ p ≤ 3 ∧
  ∀ v k H', ExB l H H' → Dr (n + 2) H' l → okK p k → depK k = 0 → Dp K (W L H') v (kdD k) → Q v H'
section
variable {K : PySem.W.Frag} {σ : L2.St} {H : Hp} {ta tb te : TE} {xs ys : List V}
theorem el_rep {b : Bool} (h1 : Evl.EvL ta σ H xs) (h2 : Evl.Ev tb σ H (.int (if b then 1 else 0))) (hz : xs.length ≤ 1000) : Evl.EvL (tOp rRep ta tb) σ H (if b then xs else []) := fun H1 e Q q => h1 H1 e _ fun p1 H2 hp e2 hx => h2 H2 (e.trans e2) _ fun H3 e3 => by
  refine ⟨p1, _, xs, rfl, rfl, e3 _ _ hx, ?_, ?_, ?_, fun r hr => ?_⟩
  · cases b <;> decide
  · cases b <;> decide
  · cases b
    · exact Evl.sz_of (by show xs.length * 0 ≤ 100000; omega)
    · exact Evl.sz_of (by show xs.length * 1 ≤ 100000; omega)
  · refine q r _ (Evl.fresh_back (e2.trans e3) hr) ((e2.trans e3).trans (Ex.new hr)) ?_
    rw [upd_same]
    cases b
    · rfl
    · show some (HO.lst ([xs].flatten)) = _
      simp
end
section
variable {P : Program} {w : World} {K : PySem.W.Frag} {mg : Str → Option Value} {base : Heap}
def wsX (xs ys : List Str) (b : Bool) : List Str := xs ++ if b then ys else []
theorem wsX_map {xs ys : List Str} {b : Bool} : (wsX xs ys b).map V.str = xs.map V.str ++ if b then ys.map V.str else [] := by
  cases b <;> simp [wsX]
theorem dpa_strs {H : Hp} : ∀ ws : List Str, DpAll K H (ws.map V.str) (ws.map PyData.str)
  | [] => .nil
  | z :: ws => .cons (.str z) (dpa_strs ws)
theorem words_run {σ : L2.St} {H : Hp} {te : TE} {l : Addr} {n : Nat} {L : List Addr} {ws : List Str} {Q : VK} (h0 : σ[0]? = some (some (.ref l))) (hd : Dr n H l) (hn : n < 1000000) (hl : l ∈ L) (hL : Hid L H) (z0 : 0 < ws.length) (z1 : ws.length < 100) (hw : Evl.EvL te σ H (ws.map V.str))
    (k : ∀ z H', z ∈ ws → ExB l H H' → Dr (n + 1) H' l → Q (.str z) H') : tCallD (spPick K) (tCons (tVar 0) (tCons te tNil)) σ H Q :=
  ⟨_, h0, hw H (Ex.refl H) _ fun t H1 hn1 e1 ht => ⟨l, t, ws.map .str, n, L, rfl, hd.ex e1, hn, hl, .lst (SqL.of (w_of (hid_not hL hn1) ht)) (dpa_strs ws), by rw [List.length_map]; exact z0, by rw [List.length_map]; omega, fun v d o hm hv hd' => by
    obtain ⟨z, hz, rfl⟩ := List.mem_map.mp hm
    cases hv
    exact k z _ hz ((ExB.of e1).trans ExB.upd) hd'⟩⟩
theorem kind_ret {H : Hp} {l : Addr} {p : Int} {n : Nat} {L : List Addr} {z : Str} {Q : VK} {qn : L2.St → Hp → Prop} (hd : Dr n H l) (hn : n < 1000000) (hl : l ∈ L) (hL : Hid L H) (p1 : 1 ≤ p) (p3 : p ≤ 3) (hz : z = "halves" ∨ z = "boxes" ∨ z = "rising" ∨ z = "flats" ∨ z = "turns" ∧ p = 1)
    (k : ∀ v k H', ExB l H H' → Dr (n + 1) H' l → okK p k → depK k = 0 → Dp K (W L H') v (kdD k) → Q v H') :
    tRet (tIf (tTest (tOp rNe (tVar 2) (tC (V.str "turns")))) (tTup (tCons (tVar 2) (tCons (tVar 1) tNil))) (tTup (tCons (tVar 2) (tCons (tCallD spDraw (tCons (tVar 0) (tCons (tC (V.int 4)) tNil))) tNil))))
      { nx := qn, rt := Q } [some (.ref l), some (.int p), some (.str z)] H := by
  have two : ∀ (kd : Kd) (i : Int) (H2 : Hp), ExB l H H2 → Dr (n + 1) H2 l → okK p kd → depK kd = 0 → kdD kd = .tuple [.str z, .int i] → [V.str z, V.int i].length ≤ sizeLine ∧ ∀ r, H2 r = none → Q (.ref r) (upd H2 r (.tup [.str z, .int i])) := fun kd i H2 e2 hd2 ok dk e => by
    refine ⟨by show 2 ≤ sizeLine; decide, fun r hr => ?_⟩
    have hLr : r ∉ L := fun m => (e2.hid hd2.ne hL) r m hr
    refine k _ kd _ (e2.trans (ExB.of (Ex.new hr))) (hd2.ex (Ex.new hr)) ok dk ?_
    rw [e]
    exact .tup (SqT.of (w_of hLr upd_same)) (.cons (.str z) (.cons (.int i) .nil))
  refine ⟨_, rfl, rfl, _, rfl, ?_⟩
  rcases hz with h | h | h | h | ⟨h, hp⟩
  · subst h
    exact ⟨_, rfl, _, rfl, two (.halves p) p H (ExB.refl l H) (hd.up (by omega)) rfl rfl rfl⟩
  · subst h
    exact ⟨_, rfl, _, rfl, two (.boxes p) p H (ExB.refl l H) (hd.up (by omega)) rfl rfl rfl⟩
  · subst h
    exact ⟨_, rfl, _, rfl, two (.rising p) p H (ExB.refl l H) (hd.up (by omega)) rfl rfl rfl⟩
  · subst h
    exact ⟨_, rfl, _, rfl, two (.flats p) p H (ExB.refl l H) (hd.up (by omega)) rfl rfl rfl⟩
  · subst h
    refine ⟨_, rfl, ?_⟩
    refine draw_run (n := n) (many := 4) (by rfl) hd (by omega) Evl.ev_c (by decide) (by decide) fun r H3 r0 r1 hd3 e3 => ?_
    exact two (.turns r) r H3 e3 hd3 ⟨hp, r0, by omega⟩ rfl rfl
theorem ok_plain {f : Addr} {fd : FuncData} (F : Fun K "_law_plain" "_law_plain" s_plain f fd) (T : TxR mg) (D_draw : DefAt P w K mg base "_law_draw" 1 ["_law_draws", "_law_many"] spDraw) (D_pick : DefAt P w K mg base "_law_pick" 2 ["_law_draws", "_law_things"] (spPick K)) : FnOk P w K mg base CX0 3 f fd ["_law_draws", "_law_places"] (spPlain K) := by
  refine F.ok sc_plain (fun vs H Q E h => ?_) (fun cdv A outer s H vs Q E hr h => ?_)
  · obtain ⟨_, _, _, _, rfl, _⟩ := h
    rfl
  · obtain ⟨l, p, n, L, rfl, hd, hn, hl, hL, p1, p3, k⟩ := h
    refine ⟨_, (pss_cons (ps_set (i := 2) sc_plain.nd rfl (by first | exact Or.inl rfl | exact Or.inr rfl) (pe_callD D_pick (by first | exact hr | exact hr.mono (by decide) | exact hr.mono (by omega)) (by rfl) (pa_cons (pv 0) (pa_cons (pe_op op_cat (pe_lst (pa_cons pe_str (pa_cons pe_str (pa_cons pe_str (pa_cons pe_str pa_nil))))) (pe_op op_rep (pe_lst (pa_cons pe_str (pa_cons pe_str pa_nil))) (pe_callTy call_int1 (by rfl) T.m_int (by decide +kernel) (pa_cons (pe_cmpR op_eq (pv 1) pe_int (nomark _)) pa_nil)))) pa_nil))))
    (pss_one (ps_ret (pe_ifExp (pt_cmpR op_ne (pv 2) pe_str (nomark _)) (pe_tup (pa_cons (pv 2) (pa_cons (pv 1) pa_nil))) (pe_tup (pa_cons (pv 2) (pa_cons (pe_callD D_draw (by first | exact hr | exact hr.mono (by decide) | exact hr.mono (by omega)) (by rfl) (pa_cons (pv 0) (pa_cons pe_int pa_nil))) pa_nil))))))), ?_⟩
    have v1 : Evl.Ev (tVar 1) (L2.start sc_plain_N [V.ref l, V.int p]) H (.int p) := Evl.ev_var rfl
    have base : Evl.EvL _ (L2.start sc_plain_N [V.ref l, V.int p]) H _ := el_cat (Evl.el_lst (Evl.ea_cons (Evl.ev_c (v := .str "halves")) (Evl.ea_cons (Evl.ev_c (v := .str "boxes")) (Evl.ea_cons (Evl.ev_c (v := .str "rising")) (Evl.ea_cons (Evl.ev_c (v := .str "flats")) Evl.ea_nil)))) (by decide))
      (el_rep (b := decide (V.int p = V.int 1)) (Evl.el_lst (Evl.ea_cons (Evl.ev_c (v := .str "turns")) (Evl.ea_cons (Evl.ev_c (v := .str "turns")) Evl.ea_nil)) (by decide)) (ev_int1 (Evl.ev_op v1 (Evl.ev_c (v := .int 1)) (Evl.rv_eq rfl))) (by decide)) (by split <;> decide)
    refine words_run (L := L) (n := n) (ws := wsX ["halves", "boxes", "rising", "flats"] ["turns", "turns"] (decide (V.int p = V.int 1))) (by rfl) hd (by omega) hl hL (by generalize decide (V.int p = V.int 1) = b; cases b <;> decide) (by generalize decide (V.int p = V.int 1) = b; cases b <;> decide) (by rw [wsX_map]; exact base) fun z H1 hz e1 hd1 => ?_
    refine kind_ret (L := L) (n := n + 1) hd1 (by omega) hl (e1.hid hd1.ne hL) p1 p3 ?_ (fun v kd H2 e2 hd2 => k v kd H2 (e1.trans e2) hd2)
    by_cases hp : p = 1
    · subst hp
      have hz' : z ∈ (["halves", "boxes", "rising", "flats", "turns", "turns"] : List Str) := hz
      simp only [List.mem_cons, List.not_mem_nil, or_false] at hz'
      rcases hz' with h | h | h | h | h | h
      · exact .inl h
      · exact .inr (.inl h)
      · exact .inr (.inr (.inl h))
      · exact .inr (.inr (.inr (.inl h)))
      · exact .inr (.inr (.inr (.inr ⟨h, rfl⟩)))
      · exact .inr (.inr (.inr (.inr ⟨h, rfl⟩)))
    · rw [decide_eq_false (fun e => hp (by injection e))] at hz
      have hz' : z ∈ (["halves", "boxes", "rising", "flats"] : List Str) := hz
      simp only [List.mem_cons, List.not_mem_nil, or_false] at hz'
      rcases hz' with h | h | h | h
      · exact .inl h
      · exact .inr (.inl h)
      · exact .inr (.inr (.inl h))
      · exact .inr (.inr (.inr (.inl h)))
theorem ok_part {f : Addr} {fd : FuncData} (F : Fun K "_law_part" "_law_part" s_part f fd) (T : TxR mg) (D_draw : DefAt P w K mg base "_law_draw" 1 ["_law_draws", "_law_many"] spDraw) (D_pick : DefAt P w K mg base "_law_pick" 2 ["_law_draws", "_law_things"] (spPick K)) : FnOk P w K mg base CX0 3 f fd ["_law_draws", "_law_places"] (spPlain K) := by
  refine F.ok sc_part (fun vs H Q E h => ?_) (fun cdv A outer s H vs Q E hr h => ?_)
  · obtain ⟨_, _, _, _, rfl, _⟩ := h
    rfl
  · obtain ⟨l, p, n, L, rfl, hd, hn, hl, hL, p1, p3, k⟩ := h
    refine ⟨_, (pss_cons (ps_set (i := 2) sc_part.nd rfl (by first | exact Or.inl rfl | exact Or.inr rfl) (pe_callD D_pick (by first | exact hr | exact hr.mono (by decide) | exact hr.mono (by omega)) (by rfl) (pa_cons (pv 0) (pa_cons (pe_op op_cat (pe_lst (pa_cons pe_str (pa_cons pe_str (pa_cons pe_str (pa_cons pe_str pa_nil))))) (pe_op op_rep (pe_lst (pa_cons pe_str (pa_cons pe_str (pa_cons pe_str pa_nil)))) (pe_callTy call_int1 (by rfl) T.m_int (by decide +kernel) (pa_cons (pe_cmpR op_eq (pv 1) pe_int (nomark _)) pa_nil)))) pa_nil))))
    (pss_one (ps_ret (pe_ifExp (pt_cmpR op_ne (pv 2) pe_str (nomark _)) (pe_tup (pa_cons (pv 2) (pa_cons (pv 1) pa_nil))) (pe_tup (pa_cons (pv 2) (pa_cons (pe_callD D_draw (by first | exact hr | exact hr.mono (by decide) | exact hr.mono (by omega)) (by rfl) (pa_cons (pv 0) (pa_cons pe_int pa_nil))) pa_nil))))))), ?_⟩
    have v1 : Evl.Ev (tVar 1) (L2.start sc_part_N [V.ref l, V.int p]) H (.int p) := Evl.ev_var rfl
    have base : Evl.EvL _ (L2.start sc_part_N [V.ref l, V.int p]) H _ := el_cat (Evl.el_lst (Evl.ea_cons (Evl.ev_c (v := .str "boxes")) (Evl.ea_cons (Evl.ev_c (v := .str "rising")) (Evl.ea_cons (Evl.ev_c (v := .str "flats")) (Evl.ea_cons (Evl.ev_c (v := .str "boxes")) Evl.ea_nil)))) (by decide))
      (el_rep (b := decide (V.int p = V.int 1)) (Evl.el_lst (Evl.ea_cons (Evl.ev_c (v := .str "halves")) (Evl.ea_cons (Evl.ev_c (v := .str "turns")) (Evl.ea_cons (Evl.ev_c (v := .str "turns")) Evl.ea_nil))) (by decide)) (ev_int1 (Evl.ev_op v1 (Evl.ev_c (v := .int 1)) (Evl.rv_eq rfl))) (by decide)) (by split <;> decide)
    refine words_run (L := L) (n := n) (ws := wsX ["boxes", "rising", "flats", "boxes"] ["halves", "turns", "turns"] (decide (V.int p = V.int 1))) (by rfl) hd (by omega) hl hL (by generalize decide (V.int p = V.int 1) = b; cases b <;> decide) (by generalize decide (V.int p = V.int 1) = b; cases b <;> decide) (by rw [wsX_map]; exact base) fun z H1 hz e1 hd1 => ?_
    refine kind_ret (L := L) (n := n + 1) hd1 (by omega) hl (e1.hid hd1.ne hL) p1 p3 ?_ (fun v kd H2 e2 hd2 => k v kd H2 (e1.trans e2) hd2)
    have R : z = "boxes" → z = "halves" ∨ z = "boxes" ∨ z = "rising" ∨ z = "flats" ∨ z = "turns" ∧ p = 1 := fun h => .inr (.inl h)
    by_cases hp : p = 1
    · subst hp
      have hz' : z ∈ (["boxes", "rising", "flats", "boxes", "halves", "turns", "turns"] : List Str) := hz
      simp only [List.mem_cons, List.not_mem_nil, or_false] at hz'
      rcases hz' with h | h | h | h | h | h | h
      · exact R h
      · exact .inr (.inr (.inl h))
      · exact .inr (.inr (.inr (.inl h)))
      · exact R h
      · exact .inl h
      · exact .inr (.inr (.inr (.inr ⟨h, rfl⟩)))
      · exact .inr (.inr (.inr (.inr ⟨h, rfl⟩)))
    · rw [decide_eq_false (fun e => hp (by injection e))] at hz
      have hz' : z ∈ (["boxes", "rising", "flats", "boxes"] : List Str) := hz
      simp only [List.mem_cons, List.not_mem_nil, or_false] at hz'
      rcases hz' with h | h | h | h
      · exact R h
      · exact .inr (.inr (.inl h))
      · exact .inr (.inr (.inr (.inl h)))
      · exact R h
end
end U

set_option Elab.async false
set_option linter.all false
set_option maxRecDepth 100000
set_option maxHeartbeats 4000000
namespace U
open PySem PySem.Spec PyProof.Rows L2
open Evl (Ex)
abbrev s_pair : Stmt := top 42
abbrev sc_pair_N : List Str := ["_law_draws", "_law_places", "_law_deep", "_law_pair_here"]
theorem sc_pair : FnScope sc_pair_N ["_law_draws", "_law_places", "_law_deep"] (defScope s_pair) := ⟨rfl, rfl, rfl, by decide +kernel, rfl, by decide +kernel, by decide +kernel⟩
abbrev s_joint : Stmt := top 41
abbrev sc_joint_N : List Str := ["_law_draws", "_law_places", "_law_deep", "_law_word"]
theorem sc_joint : FnScope sc_joint_N ["_law_draws", "_law_places", "_law_deep"] (defScope s_joint) := ⟨rfl, rfl, rfl, by decide +kernel, rfl, by decide +kernel, by decide +kernel⟩
abbrev s_spec : Stmt := top 35
abbrev sc_spec_N : List Str := ["_law_draws", "_law_places", "_law_deep", "_law_word"]
theorem sc_spec : FnScope sc_spec_N ["_law_draws", "_law_places", "_law_deep"] (defScope s_spec) := ⟨rfl, rfl, rfl, by decide +kernel, rfl, by decide +kernel, by decide +kernel⟩
/-- a kind, put together of up to d + 1 -/
def spJoint (K : PySem.W.Frag) (d : Nat) : Sp := fun vs H Q _ => ∃ (l : Addr) (p : Int) (n : Nat) (L : List Addr), vs = [.ref l, .int p, .int d] ∧ Dr n H l ∧ n + 20 * (d + 1) < 800000 ∧ l ∈ L ∧ Hid L H ∧ 1 ≤ p ∧ p ≤ 3 ∧
  ∀ v k H', ExB l H H' → Dr (n + 10 * (d + 1)) H' l → okK p k → depK k ≤ d → Dp K (W L H') v (kdD k) → Q v H'
def spJointP (K : PySem.W.Frag) : Nat → Sp
  | 0 => fun _ _ _ _ => False
  | d + 1 => spJoint K d
def spPair (K : PySem.W.Frag) : Nat → Sp
  | 0 => fun _ _ _ _ => False
  | d + 1 => fun vs H Q _ => ∃ (l : Addr) (p : Int) (n : Nat) (L : List Addr), vs = [.ref l, .int p, .int ((d + 1 : Nat) : Int)] ∧ Dr n H l ∧ n + 20 * (d + 1) + 10 < 800000 ∧ l ∈ L ∧ Hid L H ∧ 1 ≤ p ∧ p ≤ 3 ∧
  ∀ v k m H', ExB l H H' → Dr (n + 10 * (d + 1) + 5) H' l → okK p k → okK p m → depK k ≤ d → depK m ≤ d → Dp K (W L H') v (.tuple [kdD k, kdD m]) → Q v H'
section
variable {P : Program} {w : World} {K : PySem.W.Frag} {mg : Str → Option Value} {base : Heap}
theorem pair_body {f : Addr} {fd : FuncData} (F : Fun K "_law_pair" "_law_pair" s_pair f fd) (T : TxR mg) (d : Nat) (D_draw : DefAt P w K mg base "_law_draw" 1 ["_law_draws", "_law_many"] spDraw) (D_part : DefAt P w K mg base "_law_part" 3 ["_law_draws", "_law_places"] (spPlain K))
    (D_joint : DefAt P w K mg base "_law_joint" (2 * d + 4) ["_law_draws", "_law_places", "_law_deep"] (spJoint K d)) : FnOk P w K mg base CX0 (2 * d + 5) f fd ["_law_draws", "_law_places", "_law_deep"] (spPair K (d + 1)) := by
  refine F.ok sc_pair (fun vs H Q E h => ?_) (fun cdv A outer s H vs Q E hr h => ?_)
  · obtain ⟨_, _, _, _, rfl, _⟩ := h
    rfl
  · obtain ⟨l, p, n, L, rfl, hd, hn, hl, hL, p1, p3, k⟩ := h
    refine ⟨_, (pss_cons (ps_set (i := 3) sc_pair.nd rfl (by first | exact Or.inl rfl | exact Or.inr rfl) (pe_tup (pa_cons (pe_callD D_part (by first | exact hr | exact hr.mono (by decide) | exact hr.mono (by omega)) (by rfl) (pa_cons (pv 0) (pa_cons (pv 1) pa_nil))) (pa_cons (pe_callD D_joint (by first | exact hr | exact hr.mono (by decide) | exact hr.mono (by omega)) (by rfl) (pa_cons (pv 0) (pa_cons (pv 1) (pa_cons (pe_op op_sub (pv 2) pe_int) pa_nil)))) pa_nil))))
    (pss_one (ps_ret (pe_ix ix_list (pe_lst (pa_cons (pv 3) (pa_cons (pe_revT (pv 3)) pa_nil))) (pe_callD D_draw (by first | exact hr | exact hr.mono (by decide) | exact hr.mono (by omega)) (by rfl) (pa_cons (pv 0) (pa_cons pe_int pa_nil))) (fun _ _ => rfl))))), ?_⟩
    have ed : ((d + 1 : Nat) : Int) - 1 = (d : Int) := by omega
    refine ⟨_, rfl, _, rfl, l, p, n, L, rfl, hd, by omega, hl, hL, p1, p3, fun v1 k1 H1 e1 hd1 ok1 dk1 hv1 => ?_⟩
    refine ⟨_, rfl, _, rfl, _, rfl, _, _, rfl, rfl, l, p, n + 2, L, (by show [V.ref l, V.int p, V.int (((d + 1 : Nat) : Int) - 1)] = _; rw [ed]), hd1, by omega, hl, e1.hid hd1.ne hL, p1, p3, fun v2 k2 H2 e2 hd2 ok2 dk2 hv2 => ?_⟩
    have e12 := e1.trans e2
    have hL2 := e12.hid hd2.ne hL
    replace hv1 := hv1.up (e2.w hl)
    refine ⟨by show 2 ≤ sizeLine; decide, fun r hr => ?_⟩
    have rl : r ≠ l := ne_of_none' hr hd2.ne
    have hrL : r ∉ L := hid_not hL2 hr
    refine ⟨_, rfl, _, rfl, r, v1, v2, rfl, SqT.of upd_same, fun r2 hr2 => ⟨by show 2 ≤ sizeLine; decide, fun t ht => ?_⟩⟩
    have eA : Ex H2 (upd H2 r (.tup [v1, v2])) := Ex.new hr
    have hA : (upd H2 r (.tup [v1, v2])) r = some (.tup [v1, v2]) := upd_same
    generalize upd H2 r (.tup [v1, v2]) = Ha at eA hA hr2 ht ⊢
    have eB : Ex Ha (upd Ha r2 (.tup [v2, v1])) := Ex.new hr2
    have hB : (upd Ha r2 (.tup [v2, v1])) r2 = some (.tup [v2, v1]) := upd_same
    have r2l : r2 ≠ l := ne_of_none' hr2 (hd2.ex eA).ne
    have r2L : r2 ∉ L := hid_not ((e12.trans (ExB.of eA)).hid (hd2.ex eA).ne hL) hr2
    generalize upd Ha r2 (.tup [v2, v1]) = Hb at eB hB ht ⊢
    have eC : Ex Hb (upd Hb t (.lst [.ref r, .ref r2])) := Ex.new ht
    have hC : (upd Hb t (.lst [.ref r, .ref r2])) t = some (.lst [.ref r, .ref r2]) := upd_same
    have tl : t ≠ l := ne_of_none' ht ((hd2.ex eA).ex eB).ne
    generalize upd Hb t (.lst [.ref r, .ref r2]) = Hc at eC hC ⊢
    have eac := (eA.trans eB).trans eC
    refine draw_run (n := n + 2 + 10 * (d + 1)) (l := l) (many := 2) (by rfl) (hd2.ex eac) (by omega) Evl.ev_c (by decide) (by decide) fun i H3 r0 r1 hd3 e3 => ?_
    have e23 := (ExB.of eac).trans e3
    have e03 := e12.trans e23
    replace hv1 := hv1.up (e23.w hl)
    replace hv2 := hv2.up (e23.w hl)
    have h3r : SqT K (W L H3) r [v1, v2] := SqT.of (w_of hrL (e3 r _ rl (eC _ _ (eB _ _ hA))))
    have h3r2 : SqT K (W L H3) r2 [v2, v1] := SqT.of (w_of r2L (e3 r2 _ r2l (eC _ _ hB)))
    have hdk : depK k1 ≤ d := by omega
    rcases (by omega : i = 0 ∨ i = 1) with rfl | rfl
    · refine ⟨t, _, 0, .ref r, rfl, rfl, SqL.of (e3 t _ tl hC), rfl, ?_⟩
      exact k _ k1 k2 H3 e03 (hd3.up (by omega)) ok1 ok2 hdk dk2 (.tup h3r (.cons hv1 (.cons hv2 .nil)))
    · refine ⟨t, _, 1, .ref r2, rfl, rfl, SqL.of (e3 t _ tl hC), rfl, ?_⟩
      exact k _ k2 k1 H3 e03 (hd3.up (by omega)) ok2 ok1 dk2 hdk (.tup h3r2 (.cons hv2 (.cons hv1 .nil)))
def tJ (K : PySem.W.Frag) (d : Nat) : TS :=
  tSeq
    (tIfS (tOr (tTest (tOp rEq (tVar 2) (tC (V.int 0)))) (tTest (tOp rEq (tCallD spDraw (tCons (tVar 0) (tCons (tC (V.int 2)) tNil))) (tC (V.int 0)))))
      (tRet (tCallD (spPlain K) (tCons (tVar 0) (tCons (tVar 1) tNil)))) tNext)
    (tSeq (tAsg (tCallD (spPick K) (tCons (tVar 0) (tCons (tLst (tCons (tC (V.str "not")) (tCons (tC (V.str "both")) (tCons (tC (V.str "either")) (tCons (tC (V.str "any")) tNil))))) tNil))) (gName 3))
      (tSeq
        (tIfS (tTest (tOp rEq (tVar 3) (tC (V.str "not"))))
          (tRet (tTup (tCons (tVar 3) (tCons (tCallD (spJointP K d) (tCons (tVar 0) (tCons (tVar 1) (tCons (tOp (rI0 fun i j => V.int (i - j)) (tVar 2) (tC (V.int 1))) tNil)))) tNil)))) tNext)
        (tRet (tOp (rCatT K) (tTup (tCons (tVar 3) tNil)) (tCallD (spPair K d) (tCons (tVar 0) (tCons (tVar 1) (tCons (tVar 2) tNil))))))))
theorem joint_run {H : Hp} {l : Addr} {p : Int} {n d : Nat} {L : List Addr} {Q : VK} {qn : L2.St → Hp → Prop} (hd : Dr n H l) (hn : n + 20 * (d + 1) < 800000) (hl : l ∈ L) (hL : Hid L H) (p1 : 1 ≤ p) (p3 : p ≤ 3)
    (k : ∀ v k H', ExB l H H' → Dr (n + 10 * (d + 1)) H' l → okK p k → depK k ≤ d → Dp K (W L H') v (kdD k) → Q v H') :
    tJ K d { nx := qn, rt := Q } [some (.ref l), some (.int p), some (.int d), none] H := by
  have plain : ∀ (m : Nat) (H1 : Hp), ExB l H H1 → Dr m H1 l → m ≤ n + 1 → tRet (tCallD (spPlain K) (tCons (tVar 0) (tCons (tVar 1) tNil))) { nx := qn, rt := Q } [some (.ref l), some (.int p), some (.int d), none] H1 := fun m H1 e1 hd1 hm =>
    ⟨_, rfl, _, rfl, l, p, m, L, rfl, hd1, by omega, hl, e1.hid hd1.ne hL, p1, p3, fun v kd H2 e2 hd2 ok dk hv => k v kd H2 (e1.trans e2) (hd2.up (by omega)) ok (by omega) hv⟩
  refine ⟨_, rfl, rfl, _, rfl, ?_⟩
  refine ite2 (fun hc => ?_) (fun hc => ?_)
  · exact plain n H (ExB.refl l H) hd (by omega)
  obtain ⟨d, rfl⟩ : ∃ d', d = d' + 1 := by
    cases d with
    | zero => exact absurd (show decide (V.int ((0 : Nat) : Int) = V.int 0) = true from rfl) hc
    | succ d => exact ⟨d, rfl⟩
  have ed : ((d + 1 : Nat) : Int) - 1 = (d : Int) := by omega
  refine draw_run (n := n) (many := 2) (by rfl) hd (by omega) Evl.ev_c (by decide) (by decide) fun r H1 r0 r1 hd1 e1 => ?_
  refine ⟨rfl, _, rfl, ?_⟩
  refine ite2 (fun hc => ?_) (fun hc => ?_)
  · exact plain (n + 1) H1 e1 hd1 (by omega)
  have words : Evl.EvL (tLst (tCons (tC (V.str "not")) (tCons (tC (V.str "both")) (tCons (tC (V.str "either")) (tCons (tC (V.str "any")) tNil))))) [some (.ref l), some (.int p), some (.int ((d + 1 : Nat) : Int)), none] H1 ((["not", "both", "either", "any"] : List Str).map V.str) :=
    Evl.el_lst (Evl.ea_cons Evl.ev_c (Evl.ea_cons Evl.ev_c (Evl.ea_cons Evl.ev_c (Evl.ea_cons Evl.ev_c Evl.ea_nil)))) (by decide)
  refine words_run (L := L) (n := n + 1) (by rfl) hd1 (by omega) hl (e1.hid hd1.ne hL) (by decide) (by decide) words fun z H2 hz e2 hd2 => ?_
  have e02 := e1.trans e2
  have hL2 := e02.hid hd2.ne hL
  by_cases hnot : z = "not"
  · subst hnot
    refine ⟨_, rfl, rfl, _, rfl, ?_⟩
    refine ⟨_, rfl, _, rfl, _, rfl, _, rfl, _, _, rfl, rfl, l, p, n + 2, L, (by show [V.ref l, V.int p, V.int (((d + 1 : Nat) : Int) - 1)] = _; rw [ed]), hd2, by omega, hl, hL2, p1, p3, fun v kd H3 e3 hd3 ok dk hv => ?_⟩
    refine ⟨by show 2 ≤ sizeLine; decide, fun r hr => ?_⟩
    have e03 := e02.trans e3
    have rL : r ∉ L := hid_not (e03.hid hd3.ne hL) hr
    have e4 : ExB l H3 (upd H3 r (.tup [V.str "not", v])) := ExB.of (Ex.new hr)
    exact k _ (.no kd) _ (e03.trans e4) ((hd3.ex (Ex.new hr)).up (by omega)) ok (by show depK kd + 1 ≤ d + 1; omega) (.tup (SqT.of (w_of rL upd_same)) (.cons (.str _) (.cons (hv.up (e4.w hl)) .nil)))
  · refine ⟨_, rfl, rfl, _, rfl, ?_⟩
    refine ite2 (fun hc => absurd ?_ hnot) (fun hc => ?_)
    · have := of_decide_eq_true hc
      injection this
    refine ⟨_, rfl, by show 1 ≤ sizeLine; decide, fun r hr => ?_⟩
    have e3 : Ex H2 (upd H2 r (.tup [V.str z])) := Ex.new hr
    have hr3 : (upd H2 r (.tup [V.str z])) r = some (.tup [V.str z]) := upd_same
    have rl : r ≠ l := ne_of_none' hr hd2.ne
    generalize upd H2 r (.tup [V.str z]) = Ha at e3 hr3 ⊢
    have hdA := hd2.ex e3
    have e0A := e02.trans (ExB.of e3)
    refine ⟨_, rfl, _, rfl, _, rfl, l, p, n + 2, L, rfl, hdA, by omega, hl, e0A.hid hdA.ne hL, p1, p3, fun v k1 k2 H3 e4 hd4 ok1 ok2 dk1 dk2 hv => ?_⟩
    cases hv with
    | @tup q xs _ hs ha =>
      have hlen := dpa_len ha
      refine ⟨r, q, [.str z], xs, rfl, rfl, SqT.of (e4 r _ rl hr3), Evl.ex_t w_sub hs, by simp, ?_, fun e => ?_, fun _ t ht => ?_⟩
      · show 1 + xs.length ≤ sizeLine
        rw [hlen]
        show 3 ≤ sizeLine
        decide
      · rw [e] at hlen
        cases hlen
      · have e04 := e0A.trans e4
        have tL : t ∉ L := hid_not (e04.hid hd4.ne hL) ht
        have e5 : ExB l H3 (upd H3 t (.tup ([V.str z] ++ xs))) := ExB.of (Ex.new ht)
        have fin : ∀ kd : Kd, kdD kd = .tuple [.str z, kdD k1, kdD k2] → okK p kd → depK kd ≤ d + 1 → Q (.ref t) (upd H3 t (.tup ([V.str z] ++ xs))) := fun kd e ok dk => by
          refine k _ kd _ (e04.trans e5) ((hd4.ex (Ex.new ht)).up (by omega)) ok dk ?_
          rw [e]
          exact .tup (SqT.of (w_of tL upd_same)) (.cons (.str z) (ha.up (e5.w hl)))
        simp only [List.mem_cons, List.not_mem_nil, or_false] at hz
        rcases hz with h | h | h | h
        · exact absurd h hnot
        · subst h
          exact fin (.both k1 k2) rfl ⟨ok1, ok2⟩ (by show max (depK k1) (depK k2) + 1 ≤ d + 1; omega)
        · subst h
          exact fin (.either k1 k2) rfl ⟨ok1, ok2⟩ (by show max (depK k1) (depK k2) + 1 ≤ d + 1; omega)
        · subst h
          exact fin (.any k1 k2) rfl ⟨ok1, ok2⟩ (by show max (depK k1) (depK k2) + 1 ≤ d + 1; omega)
theorem joint_body {f : Addr} {fd : FuncData} (F : Fun K "_law_joint" "_law_joint" s_joint f fd) (T : TxR mg) (d : Nat) (D_draw : DefAt P w K mg base "_law_draw" 1 ["_law_draws", "_law_many"] spDraw) (D_pick : DefAt P w K mg base "_law_pick" 2 ["_law_draws", "_law_things"] (spPick K)) (D_part : DefAt P w K mg base "_law_part" 3 ["_law_draws", "_law_places"] (spPlain K))
    (D_joint : DefAt P w K mg base "_law_joint" (2 * d + 2) ["_law_draws", "_law_places", "_law_deep"] (spJointP K d)) (D_pair : DefAt P w K mg base "_law_pair" (2 * d + 3) ["_law_draws", "_law_places", "_law_deep"] (spPair K d)) : FnOk P w K mg base CX0 (2 * d + 4) f fd ["_law_draws", "_law_places", "_law_deep"] (spJoint K d) := by
  refine F.ok sc_joint (fun vs H Q E h => ?_) (fun cdv A outer s H vs Q E hr h => ?_)
  · obtain ⟨_, _, _, _, rfl, _⟩ := h
    rfl
  · obtain ⟨l, p, n, L, rfl, hd, hn, hl, hL, p1, p3, k⟩ := h
    refine ⟨_, (pss_cons (ps_if (PW.pt (pw_or (pt_cmpR op_eq (pv 2) pe_int (nomark _)) (pw_or1 (pt_cmpR op_eq (pe_callD D_draw (by first | exact hr | exact hr.mono (by decide) | exact hr.mono (by omega)) (by rfl) (pa_cons (pv 0) (pa_cons pe_int pa_nil))) pe_int (nomark _))))) (pss_one (ps_ret (pe_callD D_part (by first | exact hr | exact hr.mono (by decide) | exact hr.mono (by omega)) (by rfl) (pa_cons (pv 0) (pa_cons (pv 1) pa_nil))))) pss_nil)
    (pss_cons (ps_set (i := 3) sc_joint.nd rfl (by first | exact Or.inl rfl | exact Or.inr rfl) (pe_callD D_pick (by first | exact hr | exact hr.mono (by decide) | exact hr.mono (by omega)) (by rfl) (pa_cons (pv 0) (pa_cons (pe_lst (pa_cons pe_str (pa_cons pe_str (pa_cons pe_str (pa_cons pe_str pa_nil))))) pa_nil))))
    (pss_cons (ps_if (pt_cmpR op_eq (pv 3) pe_str (nomark _)) (pss_one (ps_ret (pe_tup (pa_cons (pv 3) (pa_cons (pe_callD D_joint (by first | exact hr | exact hr.mono (by decide) | exact hr.mono (by omega)) (by rfl) (pa_cons (pv 0) (pa_cons (pv 1) (pa_cons (pe_op op_sub (pv 2) pe_int) pa_nil)))) pa_nil))))) pss_nil)
    (pss_one (ps_ret (pe_op op_catT (pe_tup (pa_cons (pv 3) pa_nil)) (pe_callD D_pair (by first | exact hr | exact hr.mono (by decide) | exact hr.mono (by omega)) (by rfl) (pa_cons (pv 0) (pa_cons (pv 1) (pa_cons (pv 2) pa_nil)))))))))), ?_⟩
    exact joint_run hd hn hl hL p1 p3 k
theorem spec_body {f : Addr} {fd : FuncData} (F : Fun K "_law_spec" "_law_spec" s_spec f fd) (T : TxR mg) (d : Nat) (D_draw : DefAt P w K mg base "_law_draw" 1 ["_law_draws", "_law_many"] spDraw) (D_pick : DefAt P w K mg base "_law_pick" 2 ["_law_draws", "_law_things"] (spPick K)) (D_plain : DefAt P w K mg base "_law_plain" 3 ["_law_draws", "_law_places"] (spPlain K))
    (D_spec : DefAt P w K mg base "_law_spec" (2 * d + 2) ["_law_draws", "_law_places", "_law_deep"] (spJointP K d)) (D_pair : DefAt P w K mg base "_law_pair" (2 * d + 3) ["_law_draws", "_law_places", "_law_deep"] (spPair K d)) : FnOk P w K mg base CX0 (2 * d + 4) f fd ["_law_draws", "_law_places", "_law_deep"] (spJoint K d) := by
  refine F.ok sc_spec (fun vs H Q E h => ?_) (fun cdv A outer s H vs Q E hr h => ?_)
  · obtain ⟨_, _, _, _, rfl, _⟩ := h
    rfl
  · obtain ⟨l, p, n, L, rfl, hd, hn, hl, hL, p1, p3, k⟩ := h
    refine ⟨_, (pss_cons (ps_if (PW.pt (pw_or (pt_cmpR op_eq (pv 2) pe_int (nomark _)) (pw_or1 (pt_cmpR op_eq (pe_callD D_draw (by first | exact hr | exact hr.mono (by decide) | exact hr.mono (by omega)) (by rfl) (pa_cons (pv 0) (pa_cons pe_int pa_nil))) pe_int (nomark _))))) (pss_one (ps_ret (pe_callD D_plain (by first | exact hr | exact hr.mono (by decide) | exact hr.mono (by omega)) (by rfl) (pa_cons (pv 0) (pa_cons (pv 1) pa_nil))))) pss_nil)
    (pss_cons (ps_set (i := 3) sc_spec.nd rfl (by first | exact Or.inl rfl | exact Or.inr rfl) (pe_callD D_pick (by first | exact hr | exact hr.mono (by decide) | exact hr.mono (by omega)) (by rfl) (pa_cons (pv 0) (pa_cons (pe_lst (pa_cons pe_str (pa_cons pe_str (pa_cons pe_str (pa_cons pe_str pa_nil))))) pa_nil))))
    (pss_cons (ps_if (pt_cmpR op_eq (pv 3) pe_str (nomark _)) (pss_one (ps_ret (pe_tup (pa_cons (pv 3) (pa_cons (pe_callD D_spec (by first | exact hr | exact hr.mono (by decide) | exact hr.mono (by omega)) (by rfl) (pa_cons (pv 0) (pa_cons (pv 1) (pa_cons (pe_op op_sub (pv 2) pe_int) pa_nil)))) pa_nil))))) pss_nil)
    (pss_one (ps_ret (pe_op op_catT (pe_tup (pa_cons (pv 3) pa_nil)) (pe_callD D_pair (by first | exact hr | exact hr.mono (by decide) | exact hr.mono (by omega)) (by rfl) (pa_cons (pv 0) (pa_cons (pv 1) (pa_cons (pv 2) pa_nil)))))))))), ?_⟩
    exact joint_run hd hn hl hL p1 p3 k
end
end U

set_option Elab.async false
set_option linter.all false
set_option maxRecDepth 100000
set_option maxHeartbeats 4000000
namespace U
open PySem PySem.Spec PyProof.Rows L2
open Evl (Ex)
abbrev s_rule : Stmt := top 37
abbrev sc_rule_N : List Str := ["_law_draws", "_law_spec_here", "_law_wide", "_law_word", "_law_at", "_law_changes", "_law_inner", "_law_k"]
theorem sc_rule : FnScope sc_rule_N ["_law_draws", "_law_spec_here", "_law_wide"] (defScope s_rule) := ⟨rfl, rfl, rfl, by decide +kernel, rfl, by decide +kernel, by decide +kernel⟩
/-- how many are drawn for a rule -/
def rc : Nat → Nat
  | 0 => 20
  | n + 1 => 2 * rc n + 1
/-- its numbers are small -/
def bR : Rl → Prop
  | .half ws b => (∀ e ∈ ws, e.natAbs ≤ 5000) ∧ b.natAbs ≤ 5000 ∧ ws.length ≤ 10
  | .box rs => (∀ q ∈ rs, bO 5000 q.1 ∧ bO 5000 q.2) ∧ rs.length ≤ 10
  | .rise cs => (∀ c ∈ cs, (∀ o ∈ c, bO 5000 o) ∧ c.length ≤ 10) ∧ cs.length ≤ 10
  | .flat ps => (∀ y ∈ ps, (∀ e ∈ y, e.natAbs ≤ 5000) ∧ y.length ≤ 10) ∧ ps.length ≤ 10
  | .turns _ cs => (∀ e ∈ cs, e.natAbs ≤ 5000) ∧ cs.length ≤ 10
  | .no r => bR r
  | .both r s => bR r ∧ bR s
  | .either r s => bR r ∧ bR s
  | .first r => bR r
  | .second r => bR r
theorem bO_up {w v : Int} {o : Option Int} (h : bO w o) (e : w ≤ v) : bO v o := fun i z => by
  have := h i z
  omega
/-- of the kind -/
def ofK : Kd → Rl → Prop
  | .halves _, .half _ _ => True
  | .boxes _, .box _ => True
  | .rising _, .rise _ => True
  | .flats _, .flat _ => True
  | .turns m, .turns _ cs => (cs.length : Int) ≤ m ∧ cs.Pairwise (· < ·)
  | .no k, .no r => ofK k r
  | .both k m, .both r s => ofK k r ∧ ofK m s
  | .either k m, .either r s => ofK k r ∧ ofK m s
  | .any k _, .first r => ofK k r
  | .any _ m, .second r => ofK m r
  | _, _ => False
theorem all_of {α : Type} {P : α → Prop} {xs : List α} (h : ∀ (j : Nat) x, xs[j]? = some x → P x) : ∀ x ∈ xs, P x := fun x hx => by
  obtain ⟨j, hj⟩ := List.mem_iff_getElem?.mp hx
  exact h j x hj
/-- a drawn rule of the kind -/
def spDrawn (K : PySem.W.Frag) (n : Nat) : Sp := fun vs H Q _ => ∃ (l : Addr) (v : V) (k : Kd) (p w : Int) (m : Nat) (L : List Addr), vs = [.ref l, v, .int w] ∧ Dr m H l ∧ m + rc n < 700000 ∧ l ∈ L ∧ Hid L H ∧ 1 ≤ p ∧ p ≤ 3 ∧ 0 ≤ w ∧ w ≤ 1000 ∧
  Dp K (W L H) v (kdD k) ∧ okK p k ∧ depK k ≤ n ∧ ∀ u r H', ExB l H H' → Dr (m + rc n) H' l → okR p.toNat r → depR r ≤ n → bR r → ofK k r → Dp K (W L H') u (rlD true r) → Q u H'
def spDrawnP (K : PySem.W.Frag) : Nat → Sp
  | 0 => fun _ _ _ _ => False
  | n + 1 => spDrawn K n
structure TxL (mg : Str → Option Value) : Prop extends TxR mg where
  m_sorted : mg "sorted" = none
  m_set : mg "set" = none
theorem rc_le (n : Nat) : 20 ≤ rc n := by
  induction n with
  | zero => exact Nat.le_refl _
  | succ n ih => show 20 ≤ 2 * rc n + 1; omega
section
variable {K : PySem.W.Frag} {L : List Addr} {H H2 H' : Hp} {l Dl : Addr} {m c i : Nat} {α : Type} {D : α → PyData} {A : Nat → α → Prop} {te : TE} {σ2 : L2.St}
theorem gr_exB {t : Addr} {ds : List PyData} (h : Gr K L H t ds) (e : ExB l H H') (m : l ∈ L) : Gr K L H' t ds := by
  obtain ⟨n, xs, h1, h2⟩ := h
  exact ⟨n, xs, e t _ (fun z => n (by rw [z]; exact m)) h1, h2.up (e.w (List.mem_cons_of_mem _ m))⟩
/-- items drawn so far -/
def Cdr (K : PySem.W.Frag) (L : List Addr) (H : Hp) (l Dl : Addr) (m c : Nat) (D : α → PyData) (A : Nat → α → Prop) (i : Nat) (H' : Hp) : Prop :=
  ExB l H H' ∧ Dr (m + c * i) H' l ∧ ∃ xs : List α, xs.length = i ∧ (∀ (j : Nat) x, xs[j]? = some x → A j x) ∧ Gr K L H' Dl (xs.map D)
theorem cdr_0 (hL : Hid L H) (hn : H Dl = none) (hd : Dr m H l) : Cdr K L H l Dl m c D A 0 (upd H Dl (.lst [])) :=
  ⟨ExB.of (Ex.new hn), hd.ex (Ex.new hn), [], rfl, fun j x hx => (by simp at hx), gr_new hL hn .nil⟩
theorem cdr_turn (p : Cdr K L H l Dl m c D A i H2) (hn : H Dl = none) (hl : l ∈ L) (hd : H l ≠ none) (hi : i < 50000)
    (k : Hid (Dl :: L) H2 → ∀ Q : VK, (∀ u x H3, ExB l H2 H3 → Dr (m + c * (i + 1)) H3 l → A i x → Dp K (W (Dl :: L) H3) u (D x) → Q u H3) → te σ2 H2 Q) (hL : Hid L H) :
    te σ2 H2 fun y H4 => ∃ acc, H4 Dl = some (.lst acc) ∧ acc.length < sizeLine ∧ Cdr K L H l Dl m c D A (i + 1) (upd H4 Dl (.lst (acc ++ [y]))) := by
  obtain ⟨e2, d2, xs, hx, ha, g⟩ := p
  have nl : Dl ≠ l := fun e => hd (by rw [← e]; exact hn)
  refine k (fun a z => (List.mem_cons.mp z).elim (fun q => by rw [q]; exact g.ne) fun q => (e2.hid d2.ne hL) a q) _ fun u x H3 e3 d3 ax hu => ?_
  obtain ⟨nD, ys, h1, h2⟩ := gr_exB g e3 hl
  have ly := dpa_len h2
  rw [List.length_map] at ly
  refine ⟨ys, h1, Evl.sz_lt (by omega), fun b o nb hb => ?_, ?_, xs ++ [x], by rw [List.length_append, hx]; rfl, fun j z hz => ?_, ?_⟩
  · rw [upd_ne (ne_of_none hb hn)]
    exact e3 b o nb (e2 b o nb hb)
  · obtain ⟨a, b, c, q1, q2⟩ := d3
    exact ⟨a, b, c, by rw [upd_ne (Ne.symm nl)]; exact q1, q2⟩
  · rcases Nat.lt_or_ge j xs.length with q | q
    · rw [List.getElem?_append_left q] at hz
      exact ha j z hz
    · rw [List.getElem?_append_right q] at hz
      have e0 : j - xs.length = 0 := by
        cases e : j - xs.length with
        | zero => rfl
        | succ q => rw [e] at hz; simp at hz
      rw [e0] at hz
      have ez : x = z := by simpa using hz
      have ej : j = i := by omega
      rw [← ez, ej]
      exact ax
  · rw [List.map_append]
    exact gr_app nD h1 h2 hu
end
section
variable {K : PySem.W.Frag} {L : List Addr} {H H1 H2 H' : Hp} {l Dl a : Addr} {m c i n : Nat} {α : Type} {D : α → PyData} {A : Nat → α → Prop} {te : TE} {σ σ2 : L2.St} {p wd : Int} {Q : VK} {z : Str} {us : List V} {qn : L2.St → Hp → Prop}
abbrev tTupOf (K : PySem.W.Frag) (te : TE) : TE := tCB (fun xs H Q => ∃ p ys, xs = [V.ref p] ∧ ((SqL K H p ys ∧ ∀ l, H l = none → Q (V.ref l) (upd H l (.tup ys))) ∨ (SqT K H p ys ∧ Q (V.ref p) H))) (tCons te tNil)
/-- the tuple of what was drawn -/
theorem tup_fin (hL : Hid L H) (hl : l ∈ L) (pv : Cdr K L H l Dl m c D A i H2)
    (k : ∀ t (xs : List α) H3, xs.length = i → (∀ (j : Nat) x, xs[j]? = some x → A j x) → ExB l H H3 → Dr (m + c * i) H3 l → Dp K (W L H3) (.ref t) (.tuple (xs.map D)) → Q (.ref t) H3) :
    ∃ p ys, [V.ref Dl] = [V.ref p] ∧ ((SqL K H2 p ys ∧ ∀ r, H2 r = none → Q (V.ref r) (upd H2 r (.tup ys))) ∨ (SqT K H2 p ys ∧ Q (V.ref p) H2)) := by
  obtain ⟨e2, d2, xs, hx, ha, nD, ys, h1, h2⟩ := pv
  refine ⟨Dl, ys, rfl, .inl ⟨SqL.of h1, fun r hr => ?_⟩⟩
  have rL : r ∉ L := hid_not (e2.hid d2.ne hL) hr
  exact k r xs _ hx ha (e2.trans (ExB.of (Ex.new hr))) (d2.ex (Ex.new hr)) (.tup (SqT.of (w_of rL upd_same)) ((h2.up w_cons).up (w_ex (Ex.new hr))))
/-- (word, data) -/
theorem pack2 {u : V} {d : PyData} (hL : Hid L H2) (hd : Dr m H2 l) (hu : Dp K (W L H2) u d) (k : ∀ t H3, ExB l H2 H3 → Dr m H3 l → Dp K (W L H3) (.ref t) (.tuple [.str z, d]) → Q (.ref t) H3) :
    [V.str z, u].length ≤ sizeLine ∧ ∀ r, H2 r = none → Q (.ref r) (upd H2 r (.tup [V.str z, u])) :=
  ⟨by show 2 ≤ sizeLine; decide, fun r hr => k r _ (ExB.of (Ex.new hr)) (hd.ex (Ex.new hr)) (.tup (SqT.of (w_of (hid_not hL hr) upd_same)) (.cons (.str z) (.cons (hu.up (w_ex (Ex.new hr))) .nil)))⟩
theorem pack3 {u v : V} {d e : PyData} (hL : Hid L H2) (hd : Dr m H2 l) (hu : Dp K (W L H2) u d) (hv : Dp K (W L H2) v e) (k : ∀ t H3, ExB l H2 H3 → Dr m H3 l → Dp K (W L H3) (.ref t) (.tuple [.str z, d, e]) → Q (.ref t) H3) :
    [V.str z, u, v].length ≤ sizeLine ∧ ∀ r, H2 r = none → Q (.ref r) (upd H2 r (.tup [V.str z, u, v])) :=
  ⟨by show 3 ≤ sizeLine; decide, fun r hr => k r _ (ExB.of (Ex.new hr)) (hd.ex (Ex.new hr)) (.tup (SqT.of (w_of (hid_not hL hr) upd_same)) (.cons (.str z) (.cons (hu.up (w_ex (Ex.new hr))) (.cons (hv.up (w_ex (Ex.new hr))) .nil))))⟩
def kOut (K : PySem.W.Frag) (L : List Addr) (H : Hp) (l : Addr) (m n : Nat) (d : Nat) (kd : Kd) (Q : VK) : Prop := ∀ u r H', ExB l H H' → Dr (m + rc n) H' l → okR d r → depR r ≤ n → bR r → ofK kd r → Dp K (W L H') u (rlD true r) → Q u H'
theorem half_run (h0 : σ[0]? = some (some (.ref l))) (h1 : σ[1]? = some (some (.ref a))) (h2 : σ[2]? = some (some (.int wd))) (hs : SqT K H a [.str z, .int p]) (hd : Dr m H l) (hm : m + rc n < 700000) (hl : l ∈ L) (hL : Hid L H) (p1 : 1 ≤ p) (p3 : p ≤ 3) (w0 : 0 ≤ wd) (w1 : wd ≤ 1000)
    (k : kOut K L H l m n p.toNat (.halves p) Q) : tRet (tTup (tCons (tC (V.str "half")) (tCons (tCallD (spPoint K) (tCons (tVar 0) (tCons (tOp (rIxT K) (tVar 1) (tC (V.int 1))) (tCons (tC (V.int 3)) tNil))))
      (tCons (tOp (rI0 fun i j => V.int (i - j)) (tCallD spDraw (tCons (tVar 0) (tCons (tOp (rI0 fun i j => V.int (i + j)) (tOp (rI CMul fun i j => V.int (i * j)) (tC (V.int 6)) (tVar 2)) (tC (V.int 1))) tNil))) (tOp (rI CMul fun i j => V.int (i * j)) (tC (V.int 3)) (tVar 2))) tNil))))
      { nx := qn, rt := Q } σ H := by
  have rn := rc_le n
  refine ⟨_, h0, _, h1, a, _, 1, .int p, rfl, rfl, hs, rfl, ?_⟩
  refine ⟨l, p, 3, m, L, rfl, hd, by omega, hl, hL, p1, p3, by decide, by decide, fun v ns H1 e1 d1 hn hw hv => ?_⟩
  refine draw_run (n := m + 3) (many := 6 * wd + 1) h0 d1 (by omega) (Evl.ev_op (Evl.ev_op Evl.ev_c (Evl.ev_var h2) (Evl.rv_I (C := CMul) (g := fun i j => .int (i * j)) (i := 6) (j := wd) (.inl ⟨by decide, by decide⟩))) Evl.ev_c (Evl.rv_I0 (g := fun i j => .int (i + j)))) (by omega) (by omega) fun r H3 r0 r1 d3 e3 => ?_
  refine ⟨_, h2, _, _, rfl, rfl, .inl ⟨by decide, by decide⟩, _, _, rfl, rfl, ?_⟩
  have e13 := e1.trans e3
  refine pack3 (z := "half") (m := m + 4) (l := l) (e13.hid d3.ne hL) d3 (hv.up (e3.w hl)) (.int (r - 3 * wd)) fun t H4 e4 d4 ht => ?_
  exact k _ (.half ns (r - 3 * wd)) H4 (e13.trans e4) (d4.up (by omega)) ⟨by omega, fun y hy => by have := hw y hy; omega⟩ (Nat.zero_le _) ⟨fun y hy => by have := hw y hy; omega, by omega, by omega⟩ trivial ht
theorem box_run (h0 : σ[0]? = some (some (.ref l))) (h1 : σ[1]? = some (some (.ref a))) (h2 : σ[2]? = some (some (.int wd))) (hw : ∀ x, wipe ((wipe σ [7]).set 7 (some x)) [7] = wipe σ [7]) (h0' : ∀ x, ((wipe σ [7]).set 7 (some x))[0]? = some (some (.ref l))) (h2' : ∀ x, ((wipe σ [7]).set 7 (some x))[2]? = some (some (.int wd)))
    (hs : SqT K H a [.str z, .int p]) (hd : Dr m H l) (hm : m + rc n < 700000) (hl : l ∈ L) (hL : Hid L H) (p1 : 1 ≤ p) (p3 : p ≤ 3) (w0 : 0 ≤ wd) (w1 : wd ≤ 1000)
    (k : kOut K L H l m n p.toNat (.boxes p) Q) : tRet (tTup (tCons (tC (V.str "box")) (tCons (tTupOf K (tLc (iRng1 (tCons (tOp (rIxT K) (tVar 1) (tC (V.int 1))) tNil)) (gName 7) tYes (tCallD (spRange K) (tCons (tVar 0) (tCons (tVar 2) tNil))) [7])) tNil)))
      { nx := qn, rt := Q } σ H := by
  have rn := rc_le n
  refine ⟨_, h1, a, _, 1, .int p, rfl, rfl, hs, rfl, p, rfl, by omega, by omega, fun Dl hD => ?_⟩
  refine lc_range (lo := 0) (n := p.toNat) (Cdr K L H l Dl m 6 (rgD true) (fun _ q => bO 5000 q.1 ∧ bO 5000 q.2)) (cdr_0 hL hD hd) (fun i H2 hi pv => ?_) (fun H2 pv => ?_)
  · refine ⟨hw _, yes_lc (B := fun H3 => Cdr K L H l Dl m 6 (rgD true) (fun _ q => bO 5000 q.1 ∧ bO 5000 q.2) (i + 1) H3) (cdr_turn pv hD hl hd.ne (by omega) (fun hh Q2 q2 => ?_) hL)⟩
    obtain ⟨_, d2, _⟩ := pv
    refine ⟨_, h0' _, _, h2' _, l, wd, m + 6 * i, Dl :: L, rfl, d2, by omega, List.mem_cons_of_mem _ hl, hh, w0, w1, fun v o1 o2 H3 e3 d3 b1 b2 hv => q2 v (o1, o2) H3 e3 (d3.up (by omega)) ⟨bO_up b1 (by omega), bO_up b2 (by omega)⟩ hv⟩
  · refine tup_fin (Q := fun u H3 => [V.str "box", u].length ≤ sizeLine ∧ ∀ p, H3 p = none → Q (.ref p) (upd H3 p (.tup [V.str "box", u]))) hL hl pv fun t xs H3 hx hxb e3 d3 ht => ?_
    refine pack2 (z := "box") (m := m + 6 * p.toNat) (l := l) (e3.hid d3.ne hL) d3 ht fun t H4 e4 d4 ht => ?_
    exact k _ (.box xs) H4 (e3.trans e4) (d4.up (by omega)) hx (Nat.zero_le _) ⟨all_of hxb, by omega⟩ trivial ht
theorem many_run {word : Str} {c : Nat} {α : Type} {D : α → PyData} {A : α → Prop} {te : TE} (h0 : σ[0]? = some (some (.ref l))) (hw : ∀ x, wipe ((wipe σ [7]).set 7 (some x)) [7] = wipe σ [7]) (hd : Dr m H l) (hm : m + rc n < 700000) (hc : 1 + 3 * c ≤ 20) (hl : l ∈ L) (hL : Hid L H)
    (he : ∀ (i : Nat) (L' : List Addr) (H2 : Hp) (m' : Nat), l ∈ L' → Hid L' H2 → ExB l H H2 → Dr m' H2 l → m' < 750000 → ∀ Q2 : VK, (∀ u x H3, ExB l H2 H3 → Dr (m' + c) H3 l → A x → Dp K (W L' H3) u (D x) → Q2 u H3) → te ((wipe σ [7]).set 7 (some (.int (0 + (i : Int))))) H2 Q2)
    (k : ∀ t (xs : List α) H3, xs.length ≤ 3 → (∀ x ∈ xs, A x) → ExB l H H3 → Dr (m + 20) H3 l → Dp K (W L H3) (.ref t) (.tuple [.str word, .tuple (xs.map D)]) → Q (.ref t) H3) :
    tRet (tTup (tCons (tC (V.str word)) (tCons (tTupOf K (tLc (iRng1 (tCons (tCallD spDraw (tCons (tVar 0) (tCons (tC (V.int 4)) tNil))) tNil)) (gName 7) tYes te [7])) tNil)))
      { nx := qn, rt := Q } σ H := by
  have rn := rc_le n
  refine draw_run (n := m) (many := 4) h0 hd (by omega) Evl.ev_c (by decide) (by decide) fun r H1 r0 r1 d1 e1 => ?_
  have hL1 := e1.hid d1.ne hL
  refine ⟨r, rfl, by omega, by omega, fun Dl hD => ?_⟩
  refine lc_range (lo := 0) (n := r.toNat) (Cdr K L H1 l Dl (m + 1) c D (fun _ => A)) (cdr_0 hL1 hD d1) (fun i H2 hi pv => ?_) (fun H2 pv => ?_)
  · refine ⟨hw _, yes_lc (B := fun H3 => Cdr K L H1 l Dl (m + 1) c D (fun _ => A) (i + 1) H3) (cdr_turn pv hD hl d1.ne (by omega) (fun hh Q2 q2 => ?_) hL1)⟩
    obtain ⟨e2, d2, _⟩ := pv
    have hci : c * i ≤ c * 3 := Nat.mul_le_mul_left c (by omega)
    refine he i (Dl :: L) H2 _ (List.mem_cons_of_mem _ hl) hh (e1.trans e2) d2 (by omega) Q2 fun u x H3 e3 d3 ax hu => q2 u x H3 e3 ?_ ax hu
    have : m + 1 + c * i + c = m + 1 + c * (i + 1) := by rw [Nat.mul_add]; omega
    rw [← this]
    exact d3
  · refine tup_fin (Q := fun u H3 => [V.str word, u].length ≤ sizeLine ∧ ∀ p, H3 p = none → Q (.ref p) (upd H3 p (.tup [V.str word, u]))) hL1 hl pv fun t xs H3 hx ha e3 d3 ht => ?_
    have e13 := e1.trans e3
    have hci : c * r.toNat ≤ c * 3 := Nat.mul_le_mul_left c (by omega)
    refine pack2 (z := word) (m := m + 1 + c * r.toNat) (l := l) (e13.hid d3.ne hL) d3 ht fun t H4 e4 d4 ht => ?_
    exact k t xs H4 (by omega) (all_of ha) (e13.trans e4) (d4.up (by omega)) ht
theorem rise_run (h0 : σ[0]? = some (some (.ref l))) (h1 : σ[1]? = some (some (.ref a))) (h2 : σ[2]? = some (some (.int wd))) (hw : ∀ x, wipe ((wipe σ [7]).set 7 (some x)) [7] = wipe σ [7]) (h0' : ∀ x, ((wipe σ [7]).set 7 (some x))[0]? = some (some (.ref l))) (h1' : ∀ x, ((wipe σ [7]).set 7 (some x))[1]? = some (some (.ref a))) (h2' : ∀ x, ((wipe σ [7]).set 7 (some x))[2]? = some (some (.int wd)))
    (hs : SqT K (W L H) a [.str z, .int p]) (hd : Dr m H l) (hm : m + rc n < 700000) (hl : l ∈ L) (hL : Hid L H) (p1 : 1 ≤ p) (p3 : p ≤ 3) (w0 : 0 ≤ wd) (w1 : wd ≤ 1000)
    (k : kOut K L H l m n p.toNat (.rising p) Q) : tRet (tTup (tCons (tC (V.str "rise")) (tCons (tTupOf K (tLc (iRng1 (tCons (tCallD spDraw (tCons (tVar 0) (tCons (tC (V.int 4)) tNil))) tNil)) (gName 7) tYes (tCallD (spCorner K) (tCons (tVar 0) (tCons (tOp (rIxT K) (tVar 1) (tC (.int 1))) (tCons (tVar 2) tNil)))) [7])) tNil)))
      { nx := qn, rt := Q } σ H := by
  have rn := rc_le n
  refine many_run (n := n) (c := 6) (A := fun c : List (Option Int) => c.length = p.toNat ∧ ∀ o ∈ c, bO 5000 o) (D := fun c => .tuple (c.map oD)) h0 hw hd hm (by decide) hl hL (fun i L' H2 m' hl' hL' e2 d2 hm' Q2 q2 => ?_) fun t xs H3 hx ha e3 d3 ht => ?_
  · refine ⟨_, h0' _, _, h1' _, a, _, 1, .int p, rfl, rfl, Evl.ex_t (w_sub (L := L)) (Evl.ex_t (e2.w hl) hs), rfl, _, h2' _, l, p, wd, m', L', rfl, d2, by omega, hl', hL', p1, p3, w0, w1, fun v c H3 e3 d3 hc hb hv => q2 v c H3 e3 d3 ⟨by omega, fun o ho => bO_up (hb o ho) (by omega)⟩ hv⟩
  · exact k _ (.rise xs) H3 e3 (d3.up (by omega)) ⟨fun y hy => (ha y hy).1, by omega⟩ (Nat.zero_le _) ⟨fun y hy => ⟨(ha y hy).2, by have := (ha y hy).1; omega⟩, by omega⟩ trivial ht
theorem flat_run (h0 : σ[0]? = some (some (.ref l))) (h1 : σ[1]? = some (some (.ref a))) (h2 : σ[2]? = some (some (.int wd))) (hw : ∀ x, wipe ((wipe σ [7]).set 7 (some x)) [7] = wipe σ [7]) (h0' : ∀ x, ((wipe σ [7]).set 7 (some x))[0]? = some (some (.ref l))) (h1' : ∀ x, ((wipe σ [7]).set 7 (some x))[1]? = some (some (.ref a))) (h2' : ∀ x, ((wipe σ [7]).set 7 (some x))[2]? = some (some (.int wd)))
    (hs : SqT K (W L H) a [.str z, .int p]) (hd : Dr m H l) (hm : m + rc n < 700000) (hl : l ∈ L) (hL : Hid L H) (p1 : 1 ≤ p) (p3 : p ≤ 3) (w0 : 0 ≤ wd) (w1 : wd ≤ 1000)
    (k : kOut K L H l m n p.toNat (.flats p) Q) : tRet (tTup (tCons (tC (V.str "flat")) (tCons (tTupOf K (tLc (iRng1 (tCons (tCallD spDraw (tCons (tVar 0) (tCons (tC (V.int 4)) tNil))) tNil)) (gName 7) tYes (tCallD (spPoint K) (tCons (tVar 0) (tCons (tOp (rIxT K) (tVar 1) (tC (.int 1))) (tCons (tVar 2) tNil)))) [7])) tNil)))
      { nx := qn, rt := Q } σ H := by
  have rn := rc_le n
  refine many_run (n := n) (c := 3) (A := fun c : List Int => c.length = p.toNat ∧ ∀ y ∈ c, y.natAbs ≤ 1000) (D := fun c => .tuple (c.map .int)) h0 hw hd hm (by decide) hl hL (fun i L' H2 m' hl' hL' e2 d2 hm' Q2 q2 => ?_) fun t xs H3 hx ha e3 d3 ht => ?_
  · refine ⟨_, h0' _, _, h1' _, a, _, 1, .int p, rfl, rfl, Evl.ex_t (w_sub (L := L)) (Evl.ex_t (e2.w hl) hs), rfl, _, h2' _, l, p, wd, m', L', rfl, d2, by omega, hl', hL', p1, p3, w0, w1, fun v c H3 e3 d3 hc hb hv => q2 v c H3 e3 d3 ⟨by omega, fun y hy => by have := hb y hy; omega⟩ hv⟩
  · exact k _ (.flat xs) H3 e3 (d3.up (by omega)) ⟨fun y hy => (ha y hy).1, hx, fun y hy e he => Nat.lt_of_lt_of_le (show e.natAbs < 2 ^ 10 by have := (ha y hy).2 e he; omega) (Nat.pow_le_pow_right (by decide) (by decide))⟩ (Nat.zero_le _) ⟨fun y hy => ⟨fun e he => by have := (ha y hy).2 e he; omega, by have := (ha y hy).1; omega⟩, by omega⟩ trivial ht
theorem turns_run {wr : World} {mo : Int} (h0 : σ[0]? = some (some (.ref l))) (h1 : σ[1]? = some (some (.ref a))) (h2 : σ[2]? = some (some (.int wd))) (hw : ∀ x, wipe ((wipe σ [7]).set 7 (some x)) [7] = wipe σ [7]) (h0' : ∀ x, ((wipe σ [7]).set 7 (some x))[0]? = some (some (.ref l))) (h2' : ∀ x, ((wipe σ [7]).set 7 (some x))[2]? = some (some (.int wd))) (h5 : ∀ x, (σ.set 5 (some x))[5]? = some (some x)) (h0s : ∀ x, (σ.set 5 (some x))[0]? = some (some (.ref l)))
    (hs : SqT K H a [.str z, .int mo]) (hd : Dr m H l) (hm : m + rc n < 700000) (hl : l ∈ L) (hL : Hid L H) (m0 : 0 ≤ mo) (m3 : mo ≤ 3) (w0 : 0 ≤ wd) (w1 : wd ≤ 1000)
    (k : kOut K L H l m n 1 (.turns mo) Q) : tSeq (tAsg (tCB (rSortedSet wr) (tCons (tCB (rSetI K wr) (tCons (tLc (iRng1 (tCons (tCallD spDraw (tCons (tVar 0) (tCons (tOp (rI0 fun i j => V.int (i + j)) (tOp (rIxT K) (tVar 1) (tC (V.int 1))) (tC (V.int 1))) tNil))) tNil)) (gName 7) tYes
        (tOp (rI0 fun i j => V.int (i - j)) (tOp (rI0 fun i j => V.int (i - j)) (tCallD spDraw (tCons (tVar 0) (tCons (tOp (rI0 fun i j => V.int (i + j)) (tOp (rI CMul fun i j => V.int (i * j)) (tC (V.int 2)) (tVar 2)) (tC (V.int 3))) tNil))) (tVar 2)) (tC (V.int 1))) [7]) tNil)) tNil)) (gName 5))
      (tRet (tTup (tCons (tC (V.str "turns")) (tCons (tOp rEq (tCallD spDraw (tCons (tVar 0) (tCons (tC (V.int 2)) tNil))) (tC (V.int 0))) (tCons (tTupOf K (tVar 5)) tNil)))))
      { nx := qn, rt := Q } σ H := by
  have rn := rc_le n
  refine ⟨_, h0, _, h1, a, _, 1, .int mo, rfl, rfl, hs, rfl, _, _, rfl, rfl, l, mo + 1, m, rfl, hd, by omega, by omega, by omega, fun r o r0 r1 d1 => ?_⟩
  have e1 : ExB l H (upd H l o) := ExB.upd
  generalize upd H l o = H1 at d1 e1 ⊢
  have hL1 := e1.hid d1.ne hL
  refine ⟨r, rfl, by omega, by omega, fun Dl hD => ?_⟩
  refine lc_range (lo := 0) (n := r.toNat) (Cdr K L H1 l Dl (m + 1) 1 PyData.int (fun _ y => y.natAbs ≤ 5000)) (cdr_0 hL1 hD d1) (fun i H2 hi pv => ?_) (fun H2 pv => ?_)
  · refine ⟨hw _, yes_lc (B := fun H3 => Cdr K L H1 l Dl (m + 1) 1 PyData.int (fun _ y => y.natAbs ≤ 5000) (i + 1) H3) (cdr_turn pv hD hl d1.ne (by omega) (fun hh Q2 q2 => ?_) hL1)⟩
    obtain ⟨e2, d2, _⟩ := pv
    refine draw_run (n := m + 1 + 1 * i) (many := 2 * wd + 3) (h0' _) d2 (by omega) (Evl.ev_op (Evl.ev_op Evl.ev_c (Evl.ev_var (h2' _)) (Evl.rv_I (C := CMul) (g := fun i j => .int (i * j)) (i := 2) (j := wd) (.inl ⟨by decide, by decide⟩))) Evl.ev_c (Evl.rv_I0 (g := fun i j => .int (i + j)))) (by omega) (by omega) fun s H3 s0 s1 d3 e3 => ?_
    refine ⟨_, h2' _, _, _, rfl, rfl, _, _, rfl, rfl, ?_⟩
    exact q2 _ (s - wd - 1) H3 e3 (d3.up (by omega)) (by omega) (.int _)
  · obtain ⟨e2, d2, xs, hx, hxb, nD, ys, hy, hya⟩ := pv
    have hxb := all_of hxb
    have ex := dpi_inv hya
    subst ex
    refine ⟨Dl, xs, rfl, SqL.of hy, by omega, fun ps c hps hc => ?_⟩
    refine ⟨ps, _, c, rfl, upd_same, by omega, fun ns q hsr hmem hlen hq => ?_⟩
    have eA : Ex H2 (upd (upd H2 ps (SetO wr ps (fun j => decide (j ∈ xs)) c)) q (.lst (ns.map V.int))) := (Ex.new hps).trans (Ex.new hq)
    have hqA : (upd (upd H2 ps (SetO wr ps (fun j => decide (j ∈ xs)) c)) q (.lst (ns.map V.int))) q = some (.lst (ns.map V.int)) := upd_same
    generalize upd (upd H2 ps (SetO wr ps (fun j => decide (j ∈ xs)) c)) q (.lst (ns.map V.int)) = HA at eA hqA ⊢
    have dA := d2.ex eA
    have e0A := (e1.trans e2).trans (ExB.of eA)
    have ql : q ≠ l := ne_of_none' hq (d2.ex (Ex.new hps)).ne
    refine draw_run (n := m + 1 + 1 * r.toNat) (many := 2) (h0s _) dA (by omega) Evl.ev_c (by decide) (by decide) fun b HB b0 b1 dB eB => ?_
    refine ⟨rfl, _, h5 _, q, _, rfl, .inl ⟨SqL.of (eB q _ ql hqA), fun t ht => ?_⟩⟩
    have e0B := e0A.trans eB
    have tL : t ∉ L := hid_not (e0B.hid dB.ne hL) ht
    have eC : Ex HB (upd HB t (.tup (ns.map V.int))) := Ex.new ht
    refine pack3 (K := K) (z := "turns") (m := m + 1 + 1 * r.toNat + 1) (l := l) ((e0B.trans (ExB.of eC)).hid (dB.ex eC).ne hL) (dB.ex eC) (.bl _) (.tup (SqT.of (w_of tL upd_same)) (dpa_intsL ns)) fun u H4 e4 d4 hu => ?_
    exact k _ (.turns _ ns) H4 ((e0B.trans (ExB.of eC)).trans e4) (d4.up (by omega)) ⟨rfl, by omega⟩ (Nat.zero_le _) ⟨fun e he => hxb e (of_decide_eq_true ((hmem e).mp he)), by omega⟩ ⟨by omega, hsr⟩ hu
theorem w_pastB (hn : H Dl = none) (e : ExB l H H2) (hl : l ∈ L) : Ex (W L H) (W (Dl :: L) H2) := fun b o h => by
  obtain ⟨h1, nb⟩ := w_in h
  exact w_of (fun q => (List.mem_cons.mp q).elim (ne_of_none h1 hn) nb) (e b o (fun q => nb (by rw [q]; exact hl)) h1)
theorem cut_tail {x : V} : cutV (x :: us) (some 1) none = us := by
  have e1 : HT.sIx (x :: us).length 0 (some ((1 : Nat) : Int)) = 1 := by
    rw [HT.sIx_nat, List.length_cons]
    omega
  show ((x :: us).drop (HT.sIx (x :: us).length 0 (some ((1 : Nat) : Int)))).take ((x :: us).length - HT.sIx (x :: us).length 0 (some ((1 : Nat) : Int))) = us
  rw [e1]
  simp
theorem kids_run {ks : List Kd} (h0 : σ[0]? = some (some (.ref l))) (h1 : σ[1]? = some (some (.ref a))) (h3 : σ[3]? = some (some (.str z))) (hw : ∀ x, wipe ((wipe σ [6]).set 6 (some x)) [6] = wipe σ [6]) (h0' : ∀ x, ((wipe σ [6]).set 6 (some x))[0]? = some (some (.ref l))) (h2' : ∀ x, ((wipe σ [6]).set 6 (some x))[2]? = some (some (.int wd))) (h6' : ∀ x, ((wipe σ [6]).set 6 (some x))[6]? = some (some x))
    (hs : SqT K H a (.str z :: us)) (hu : DpAll K (W L H) us (ks.map kdD)) (hk : ks.length ≤ 2) (hk0 : 1 ≤ ks.length) (hok : ∀ y ∈ ks, okK p y ∧ depK y ≤ n) (hd : Dr m H l) (hm : m + rc (n + 1) < 700000) (hl : l ∈ L) (hL : Hid L H) (p1 : 1 ≤ p) (p3 : p ≤ 3) (w0 : 0 ≤ wd) (w1 : wd ≤ 1000)
    (k : ∀ t (xs : List Rl) H3, xs.length = ks.length → (∀ (j : Nat) x, xs[j]? = some x → okR p.toNat x ∧ depR x ≤ n ∧ bR x ∧ ofK (ks.getD j (.halves 0)) x) → ExB l H H3 → Dr (m + rc (n + 1)) H3 l → Dp K (W L H3) (.ref t) (.tuple (.str z :: xs.map (rlD true))) → Q (.ref t) H3) :
    tRet (tOp (rCatT K) (tTup (tCons (tVar 3) tNil)) (tTupOf K (tLc (iTup K (tSl (rSlT K) (tVar 1) (tPart (tC (V.int 1))) tNoPart)) (gName 6) tYes (tCallD (spDrawnP K (n + 1)) (tCons (tVar 0) (tCons (tVar 6) (tCons (tVar 2) tNil)))) [6])))
      { nx := qn, rt := Q } σ H := by
  have rn : rc (n + 1) = 2 * rc n + 1 := rfl
  refine ⟨_, h3, by show 1 ≤ sizeLine; decide, fun r0 hr0 => ?_⟩
  have eA : Ex H (upd H r0 (.tup [V.str z])) := Ex.new hr0
  have hA : (upd H r0 (.tup [V.str z])) r0 = some (.tup [V.str z]) := upd_same
  have r0l : r0 ≠ l := ne_of_none' hr0 hd.ne
  have r0L : r0 ∉ L := hid_not hL hr0
  generalize upd H r0 (.tup [V.str z]) = HA at eA hA ⊢
  have lu := dpa_len hu
  rw [List.length_map] at lu
  refine ⟨_, h1, 1, rfl, a, _, rfl, Evl.ex_t eA hs, ?_, fun q hq => ?_⟩
  · rintro ⟨e, _⟩
    have e1 : HT.sIx (V.str z :: us).length 0 (some ((1 : Nat) : Int)) = 1 := by
      rw [HT.sIx_nat, List.length_cons]
      omega
    rw [show HT.sIx (V.str z :: us).length 0 (some (1 : Int)) = 1 from e1] at e
    cases e
  rw [cut_tail]
  have eB : Ex HA (upd HA q (.tup us)) := Ex.new hq
  have hB : (upd HA q (.tup us)) q = some (.tup us) := upd_same
  have ql : q ≠ l := ne_of_none' hq (hd.ex eA).ne
  generalize upd HA q (.tup us) = HB at eB hB ⊢
  have eAB := eA.trans eB
  have dB := hd.ex eAB
  have hLB := hid_ex eAB hL
  refine ⟨q, rfl, ⟨us, SqT.of hB⟩, fun Dl hD => ?_⟩
  refine lc_it (walk_tup (xs := us)) (Cdr K L HB l Dl m (rc n) (rlD true) (fun j x => okR p.toNat x ∧ depR x ≤ n ∧ bR x ∧ ofK (ks.getD j (.halves 0)) x)) (cdr_0 hLB hD dB) (fun i H' _ pv => SqT.of (pv.1 q _ ql hB)) (fun i x H2 H3 hi pv y => ?_) (fun H2 pv => ?_)
  · obtain ⟨rfl, hx⟩ := y
    refine ⟨hw _, yes_lc (B := fun H3 => Cdr K L HB l Dl m (rc n) (rlD true) (fun j x => okR p.toNat x ∧ depR x ≤ n ∧ bR x ∧ ofK (ks.getD j (.halves 0)) x) (i + 1) H3) (cdr_turn pv hD hl dB.ne (by omega) (fun hh Q2 q2 => ?_) hLB)⟩
    obtain ⟨e2, d2, _⟩ := pv
    obtain ⟨d, hd1, hd2⟩ := dpa_get hu hx
    have hi' : i < ks.length := by omega
    rw [List.getElem?_map, List.getElem?_eq_getElem hi'] at hd1
    have ed : d = kdD ks[i] := (Option.some.inj hd1).symm
    subst ed
    obtain ⟨o1, o2⟩ := hok _ (List.getElem_mem hi')
    have hci : rc n * i ≤ rc n * 1 := Nat.mul_le_mul_left _ (by omega)
    have hn0 : H Dl = none := by
      cases qd : H Dl with
      | none => rfl
      | some o =>
        have := eAB Dl o qd
        rw [hD] at this
        cases this
    refine ⟨_, h0' _, _, h6' _, _, h2' _, l, x, ks[i], p, wd, m + rc n * i, Dl :: L, rfl, d2, by omega, List.mem_cons_of_mem _ hl, hh, p1, p3, w0, w1, hd2.up (w_pastB hn0 ((ExB.of eAB).trans e2) hl), o1, o2, fun u r H4 e4 d4 or dr br of hr => q2 u r H4 e4 ?_ ⟨or, dr, br, by rw [List.getD_eq_getElem?_getD, List.getElem?_eq_getElem hi']; exact of⟩ hr⟩
    have : m + rc n * i + rc n = m + rc n * (i + 1) := by rw [Nat.mul_add]; omega
    rw [← this]
    exact d4
  · refine tup_fin (Q := fun u H3 => rCatT K (.ref r0) u H3 Q) hLB hl pv fun t xs H3 hx ha e3 d3 ht => ?_
    have e03 := (ExB.of eAB).trans e3
    cases ht with
    | @tup _ ys _ hsT hya =>
      have ly := dpa_len hya
      rw [List.length_map] at ly
      refine ⟨r0, t, [.str z], ys, rfl, rfl, SqT.of (((ExB.of eB).trans e3) r0 _ r0l hA), Evl.ex_t w_sub hsT, by simp, ?_, fun e => ?_, fun _ t2 ht2 => ?_⟩
      · show 1 + ys.length ≤ sizeLine
        exact Evl.sz_of (by omega)
      · rw [e] at ly
        rw [List.length_nil] at ly
        omega
      · have tL : t2 ∉ L := hid_not (e03.hid d3.ne hL) ht2
        have e5 : ExB l H3 (upd H3 t2 (.tup ([V.str z] ++ ys))) := ExB.of (Ex.new ht2)
        have hci : rc n * us.length ≤ rc n * 2 := Nat.mul_le_mul_left _ (by omega)
        exact k t2 xs _ (by omega) ha (e03.trans e5) ((d3.ex (Ex.new ht2)).up (by omega)) (.tup (SqT.of (w_of tL upd_same)) (.cons (.str z) (hya.up (e5.w hl))))
theorem any_run {k1 k2 : Kd} {u1 u2 : V} (h0 : σ[0]? = some (some (.ref l))) (hσ : ∀ x, (σ.set 4 (some x))[0]? = some (some (.ref l)) ∧ (σ.set 4 (some x))[1]? = some (some (.ref a)) ∧ (σ.set 4 (some x))[2]? = some (some (.int wd)) ∧ (σ.set 4 (some x))[4]? = some (some x))
    (hs : SqT K (W L H) a [.str z, u1, u2]) (hu1 : Dp K (W L H) u1 (kdD k1)) (hu2 : Dp K (W L H) u2 (kdD k2)) (ok1 : okK p k1) (ok2 : okK p k2) (dk1 : depK k1 ≤ n) (dk2 : depK k2 ≤ n) (hd : Dr m H l) (hm : m + rc (n + 1) < 700000) (hl : l ∈ L) (hL : Hid L H) (p1 : 1 ≤ p) (p3 : p ≤ 3) (w0 : 0 ≤ wd) (w1 : wd ≤ 1000)
    (k : kOut K L H l m (n + 1) p.toNat (.any k1 k2) Q) : tSeq (tAsg (tCallD spDraw (tCons (tVar 0) (tCons (tC (V.int 2)) tNil))) (gName 4))
      (tRet (tTup (tCons (tOp (rIxL K) (tLst (tCons (tC (V.str "first")) (tCons (tC (V.str "second")) tNil))) (tVar 4)) (tCons (tCallD (spDrawnP K (n + 1)) (tCons (tVar 0) (tCons (tOp (rIxT K) (tVar 1) (tOp (rI0 fun i j => V.int (i + j)) (tC (V.int 1)) (tVar 4))) (tCons (tVar 2) tNil)))) tNil))))
      { nx := qn, rt := Q } σ H := by
  have rn : rc (n + 1) = 2 * rc n + 1 := rfl
  refine draw_run (n := m) (many := 2) h0 hd (by omega) Evl.ev_c (by decide) (by decide) fun i H1 r0 r1 d1 e1 => ?_
  obtain ⟨s0, s1, s2, s4⟩ := hσ (.int i)
  refine ⟨by show 2 ≤ sizeLine; decide, fun t ht => ⟨_, s4, ?_⟩⟩
  have eA : Ex H1 (upd H1 t (.lst [V.str "first", V.str "second"])) := Ex.new ht
  have hA : (upd H1 t (.lst [V.str "first", V.str "second"])) t = some (.lst [V.str "first", V.str "second"]) := upd_same
  generalize upd H1 t (.lst [V.str "first", V.str "second"]) = HA at eA hA ⊢
  have e0A := e1.trans (ExB.of eA)
  have dA := d1.ex eA
  have hsA : SqT K HA a [.str z, u1, u2] := Evl.ex_t (w_sub (L := L)) (Evl.ex_t (e0A.w hl) hs)
  rcases (by omega : i = 0 ∨ i = 1) with rfl | rfl
  · refine ⟨t, _, 0, .str "first", rfl, rfl, SqL.of hA, rfl, _, s0, _, s1, _, s4, _, _, rfl, rfl, a, _, 1, u1, rfl, rfl, hsA, rfl, _, s2, l, u1, k1, p, wd, m + 1, L, rfl, dA, by omega, hl, e0A.hid dA.ne hL, p1, p3, w0, w1, hu1.up (e0A.w hl), ok1, dk1, fun u r H4 e4 d4 or dr br of hr => ?_⟩
    have e04 := e0A.trans e4
    refine pack2 (z := "first") (m := m + 1 + rc n) (l := l) (e04.hid d4.ne hL) d4 hr fun q H5 e5 d5 hq => ?_
    exact k _ (.first r) H5 (e04.trans e5) (d5.up (by omega)) or (by show depR r + 1 ≤ n + 1; omega) br of hq
  · refine ⟨t, _, 1, .str "second", rfl, rfl, SqL.of hA, rfl, _, s0, _, s1, _, s4, _, _, rfl, rfl, a, _, 2, u2, rfl, rfl, hsA, rfl, _, s2, l, u2, k2, p, wd, m + 1, L, rfl, dA, by omega, hl, e0A.hid dA.ne hL, p1, p3, w0, w1, hu2.up (e0A.w hl), ok2, dk2, fun u r H4 e4 d4 or dr br of hr => ?_⟩
    have e04 := e0A.trans e4
    refine pack2 (z := "second") (m := m + 1 + rc n) (l := l) (e04.hid d4.ne hL) d4 hr fun q H5 e5 d5 hq => ?_
    exact k _ (.second r) H5 (e04.trans e5) (d5.up (by omega)) or (by show depR r + 1 ≤ n + 1; omega) br of hq
end
theorem kOut.up {K : PySem.W.Frag} {L : List Addr} {H H' : Hp} {l : Addr} {m n d : Nat} {kd : Kd} {Q : VK} (k : kOut K L H l m n d kd Q) (e : Ex H H') : kOut K L H' l m n d kd Q := fun u r H2 e2 => k u r H2 ((ExB.of e).trans e2)
section
variable {P : Program} {w : World} {K : PySem.W.Frag} {mg : Str → Option Value} {base : Heap}
theorem rule_body {f : Addr} {fd : FuncData} (F : Fun K "_law_rule" "_law_rule" s_rule f fd) (T : TxL mg) (n : Nat) (D_draw : DefAt P w K mg base "_law_draw" 1 ["_law_draws", "_law_many"] spDraw) (D_point : DefAt P w K mg base "_law_point" 2 ["_law_draws", "_law_places", "_law_wide"] (spPoint K))
    (D_corner : DefAt P w K mg base "_law_corner" 2 ["_law_draws", "_law_places", "_law_wide"] (spCorner K)) (D_range : DefAt P w K mg base "_law_range" 3 ["_law_draws", "_law_wide"] (spRange K)) (D_rule : DefAt P w K mg base "_law_rule" (n + 3) ["_law_draws", "_law_spec_here", "_law_wide"] (spDrawnP K n)) : FnOk P w K mg base CX0 (n + 4) f fd ["_law_draws", "_law_spec_here", "_law_wide"] (spDrawn K n) := by
  refine F.ok sc_rule (fun vs H Q E h => ?_) (fun cdv A outer s H vs Q E hr h => ?_)
  · obtain ⟨_, _, _, _, _, _, _, rfl, _⟩ := h
    rfl
  · obtain ⟨l, v, k, p, wd, m, L, rfl, hd, hm, hl, hL, p1, p3, w0, w1, hv, hok, hdep, kk⟩ := h
    refine ⟨_, (pss_cons (ps_set (i := 3) sc_rule.nd rfl (by first | exact Or.inl rfl | exact Or.inr rfl) (pe_ix ix_tup (pv 1) pe_int (fun _ _ => rfl)))
    (pss_cons (ps_if (pt_cmpR op_in_seq (pv 3) (pe_tup (pa_cons pe_str (pa_cons pe_str (pa_cons pe_str pa_nil)))) (by rfl)) (pss_one (ps_ret (pe_op op_catT (pe_tup (pa_cons (pv 3) pa_nil)) (pe_callTy call_tuple_of (by rfl) T.m_tuple (by decide +kernel) (pa_cons (pe_lc (own := [("_law_inner", 6)]) (g := gName 6) (tt := tYes) (by rfl) sc_rule.nd (pi_tup (pe_slice sl_tup (pv 1) (po_some pe_int) po_none)) (blkOk_by (N := sc_rule_N) (sc := defScope s_rule) (by decide +kernel)) (fun _ _ _ _ _ => (pg_name (i := 6) sc_rule.nd rfl (by first | exact Or.inl rfl | exact Or.inr rfl))) (fun _ _ _ _ _ => pts_nil) (fun _ _ _ _ _ => (pe_callD D_rule (by first | exact hr | exact hr.mono (by decide) | exact hr.mono (by omega)) (by rfl) (pa_cons (pv 0) (pa_cons (pv 6) (pa_cons (pv 2) pa_nil)))))) pa_nil))))) pss_nil)
    (pss_cons (ps_if (pt_cmpR op_eq (pv 3) pe_str (nomark _)) (pss_cons (ps_set (i := 4) sc_rule.nd rfl (by first | exact Or.inl rfl | exact Or.inr rfl) (pe_callD D_draw (by first | exact hr | exact hr.mono (by decide) | exact hr.mono (by omega)) (by rfl) (pa_cons (pv 0) (pa_cons pe_int pa_nil))))
      (pss_one (ps_ret (pe_tup (pa_cons (pe_ix ix_list (pe_lst (pa_cons pe_str (pa_cons pe_str pa_nil))) (pv 4) (fun _ _ => rfl)) (pa_cons (pe_callD D_rule (by first | exact hr | exact hr.mono (by decide) | exact hr.mono (by omega)) (by rfl) (pa_cons (pv 0) (pa_cons (pe_ix ix_tup (pv 1) (pe_op op_add pe_int (pv 4)) (fun _ _ => rfl)) (pa_cons (pv 2) pa_nil)))) pa_nil)))))) pss_nil)
    (pss_cons (ps_if (pt_cmpR op_eq (pv 3) pe_str (nomark _)) (pss_one (ps_ret (pe_tup (pa_cons pe_str (pa_cons (pe_callD D_point (by first | exact hr | exact hr.mono (by decide) | exact hr.mono (by omega)) (by rfl) (pa_cons (pv 0) (pa_cons (pe_ix ix_tup (pv 1) pe_int (fun _ _ => rfl)) (pa_cons pe_int pa_nil)))) (pa_cons (pe_op op_sub (pe_callD D_draw (by first | exact hr | exact hr.mono (by decide) | exact hr.mono (by omega)) (by rfl) (pa_cons (pv 0) (pa_cons (pe_op op_add (pe_op op_mul pe_int (pv 2)) pe_int) pa_nil))) (pe_op op_mul pe_int (pv 2))) pa_nil)))))) pss_nil)
    (pss_cons (ps_if (pt_cmpR op_eq (pv 3) pe_str (nomark _)) (pss_one (ps_ret (pe_tup (pa_cons pe_str (pa_cons (pe_callTy call_tuple_of (by rfl) T.m_tuple (by decide +kernel) (pa_cons (pe_lc (own := [("_law_k", 7)]) (g := gName 7) (tt := tYes) (by rfl) sc_rule.nd (pi_range1 (by rfl) T.m_range (pa_cons (pe_ix ix_tup (pv 1) pe_int (fun _ _ => rfl)) pa_nil)) (blkOk_by (N := sc_rule_N) (sc := defScope s_rule) (by decide +kernel)) (fun _ _ _ _ _ => (pg_name (i := 7) sc_rule.nd rfl (by first | exact Or.inl rfl | exact Or.inr rfl))) (fun _ _ _ _ _ => pts_nil) (fun _ _ _ _ _ => (pe_callD D_range (by first | exact hr | exact hr.mono (by decide) | exact hr.mono (by omega)) (by rfl) (pa_cons (pv 0) (pa_cons (pv 2) pa_nil))))) pa_nil)) pa_nil))))) pss_nil)
    (pss_cons (ps_if (pt_cmpR op_eq (pv 3) pe_str (nomark _)) (pss_one (ps_ret (pe_tup (pa_cons pe_str (pa_cons (pe_callTy call_tuple_of (by rfl) T.m_tuple (by decide +kernel) (pa_cons (pe_lc (own := [("_law_k", 7)]) (g := gName 7) (tt := tYes) (te := tCallD (spCorner K) (tCons (tVar 0) (tCons (tOp (rIxT K) (tVar 1) (tC (.int 1))) (tCons (tVar 2) tNil)))) (by rfl) sc_rule.nd (pi_range1 (by rfl) T.m_range (pa_cons (pe_callD D_draw (by first | exact hr | exact hr.mono (by decide) | exact hr.mono (by omega)) (by rfl) (pa_cons (pv 0) (pa_cons pe_int pa_nil))) pa_nil)) (blkOk_by (N := sc_rule_N) (sc := defScope s_rule) (by decide +kernel)) (fun _ _ _ _ _ => (pg_name (i := 7) sc_rule.nd rfl (by first | exact Or.inl rfl | exact Or.inr rfl))) (fun _ _ _ _ _ => pts_nil) (fun _ _ _ _ _ => (pe_callD D_corner (by first | exact hr | exact hr.mono (by decide) | exact hr.mono (by omega)) (by rfl) (pa_cons (pv 0) (pa_cons (pe_ix ix_tup (pv 1) pe_int (fun _ _ => rfl)) (pa_cons (pv 2) pa_nil)))))) pa_nil)) pa_nil))))) pss_nil)
    (pss_cons (ps_if (pt_cmpR op_eq (pv 3) pe_str (nomark _)) (pss_one (ps_ret (pe_tup (pa_cons pe_str (pa_cons (pe_callTy call_tuple_of (by rfl) T.m_tuple (by decide +kernel) (pa_cons (pe_lc (own := [("_law_k", 7)]) (g := gName 7) (tt := tYes) (te := tCallD (spPoint K) (tCons (tVar 0) (tCons (tOp (rIxT K) (tVar 1) (tC (.int 1))) (tCons (tVar 2) tNil)))) (by rfl) sc_rule.nd (pi_range1 (by rfl) T.m_range (pa_cons (pe_callD D_draw (by first | exact hr | exact hr.mono (by decide) | exact hr.mono (by omega)) (by rfl) (pa_cons (pv 0) (pa_cons pe_int pa_nil))) pa_nil)) (blkOk_by (N := sc_rule_N) (sc := defScope s_rule) (by decide +kernel)) (fun _ _ _ _ _ => (pg_name (i := 7) sc_rule.nd rfl (by first | exact Or.inl rfl | exact Or.inr rfl))) (fun _ _ _ _ _ => pts_nil) (fun _ _ _ _ _ => (pe_callD D_point (by first | exact hr | exact hr.mono (by decide) | exact hr.mono (by omega)) (by rfl) (pa_cons (pv 0) (pa_cons (pe_ix ix_tup (pv 1) pe_int (fun _ _ => rfl)) (pa_cons (pv 2) pa_nil)))))) pa_nil)) pa_nil))))) pss_nil)
    (pss_cons (ps_set (i := 5) sc_rule.nd rfl (by first | exact Or.inl rfl | exact Or.inr rfl) (pe_callB (cr_sortedSet rfl) (by rfl) T.m_sorted (by decide +kernel) (pa_cons (pe_callTy (cr_setI rfl) (by rfl) T.m_set (by decide +kernel) (pa_cons (pe_lc (own := [("_law_k", 7)]) (g := gName 7) (tt := tYes) (by rfl) sc_rule.nd (pi_range1 (by rfl) T.m_range (pa_cons (pe_callD D_draw (by first | exact hr | exact hr.mono (by decide) | exact hr.mono (by omega)) (by rfl) (pa_cons (pv 0) (pa_cons (pe_op op_add (pe_ix ix_tup (pv 1) pe_int (fun _ _ => rfl)) pe_int) pa_nil))) pa_nil)) (blkOk_by (N := sc_rule_N) (sc := defScope s_rule) (by decide +kernel)) (fun _ _ _ _ _ => (pg_name (i := 7) sc_rule.nd rfl (by first | exact Or.inl rfl | exact Or.inr rfl))) (fun _ _ _ _ _ => pts_nil) (fun _ _ _ _ _ => (pe_op op_sub (pe_op op_sub (pe_callD D_draw (by first | exact hr | exact hr.mono (by decide) | exact hr.mono (by omega)) (by rfl) (pa_cons (pv 0) (pa_cons (pe_op op_add (pe_op op_mul pe_int (pv 2)) pe_int) pa_nil))) (pv 2)) pe_int))) pa_nil)) pa_nil)))
    (pss_one (ps_ret (pe_tup (pa_cons pe_str (pa_cons (pe_cmpR op_eq (pe_callD D_draw (by first | exact hr | exact hr.mono (by decide) | exact hr.mono (by omega)) (by rfl) (pa_cons (pv 0) (pa_cons pe_int pa_nil))) pe_int (nomark _)) (pa_cons (pe_callTy call_tuple_of (by rfl) T.m_tuple (by decide +kernel) (pa_cons (pv 5) pa_nil)) pa_nil)))))))))))))), ?_⟩
    cases k with
    | halves q =>
      cases hv with
      | @tup a xs _ hs ha =>
        cases ha with
        | @cons c0 _ _ _ r0 q0 =>
          cases r0
          cases q0 with
          | @cons c1 _ _ _ r1 q0 =>
            cases q0
            cases r1
            have eqp : q = p := hok
            subst eqp
            refine Evl.q_asg (v := .str "halves") (Evl.ev_op (Evl.ev_var (v := .ref a) rfl) Evl.ev_c (Evl.rv_ixT (Evl.ex_t (w_sub (L := L)) hs) rfl)) fun H1 e1 => ?_
            refine Evl.q_when (b := false) (Evl.et_is (Evl.et_test (Evl.ev_inU (Evl.ev_var (v := .str "halves") rfl) (Evl.eu_tup (Evl.ea_cons Evl.ev_c (Evl.ea_cons Evl.ev_c (Evl.ea_cons Evl.ev_c Evl.ea_nil))) (by show 3 ≤ 100000; omega)) rfl rfl)) (by decide)) (fun z => nomatch z) (fun _ H2 e2 => ?_)
            refine Evl.q_when (b := false) (Evl.et_is (Evl.et_test (Evl.ev_op (Evl.ev_var (v := .str "halves") rfl) Evl.ev_c (Evl.rv_eq rfl))) (by decide)) (fun z => nomatch z) (fun _ H3 e3 => ?_)
            refine Evl.q_when (b := true) (Evl.et_is (Evl.et_test (Evl.ev_op (Evl.ev_var (v := .str "halves") rfl) Evl.ev_c (Evl.rv_eq rfl))) (by decide)) (fun _ H4 e4 => ?_) (fun z => nomatch z)
            have eA := (((e1.trans e2).trans e3).trans e4)
            have hsA := Evl.ex_t (w_ex (L := L) eA) hs
            have kA : kOut K L H4 l m n _ _ Q := kOut.up kk eA
            have dA := hd.ex eA
            have hLA := hid_ex eA hL
            exact half_run rfl rfl rfl (Evl.ex_t (w_sub (L := L)) hsA) dA hm hl hLA p1 p3 w0 w1 kA
    | boxes q =>
      cases hv with
      | @tup a xs _ hs ha =>
        cases ha with
        | @cons c0 _ _ _ r0 q0 =>
          cases r0
          cases q0 with
          | @cons c1 _ _ _ r1 q0 =>
            cases q0
            cases r1
            have eqp : q = p := hok
            subst eqp
            refine Evl.q_asg (v := .str "boxes") (Evl.ev_op (Evl.ev_var (v := .ref a) rfl) Evl.ev_c (Evl.rv_ixT (Evl.ex_t (w_sub (L := L)) hs) rfl)) fun H1 e1 => ?_
            refine Evl.q_when (b := false) (Evl.et_is (Evl.et_test (Evl.ev_inU (Evl.ev_var (v := .str "boxes") rfl) (Evl.eu_tup (Evl.ea_cons Evl.ev_c (Evl.ea_cons Evl.ev_c (Evl.ea_cons Evl.ev_c Evl.ea_nil))) (by show 3 ≤ 100000; omega)) rfl rfl)) (by decide)) (fun z => nomatch z) (fun _ H2 e2 => ?_)
            refine Evl.q_when (b := false) (Evl.et_is (Evl.et_test (Evl.ev_op (Evl.ev_var (v := .str "boxes") rfl) Evl.ev_c (Evl.rv_eq rfl))) (by decide)) (fun z => nomatch z) (fun _ H3 e3 => ?_)
            refine Evl.q_when (b := false) (Evl.et_is (Evl.et_test (Evl.ev_op (Evl.ev_var (v := .str "boxes") rfl) Evl.ev_c (Evl.rv_eq rfl))) (by decide)) (fun z => nomatch z) (fun _ H4 e4 => ?_)
            refine Evl.q_when (b := true) (Evl.et_is (Evl.et_test (Evl.ev_op (Evl.ev_var (v := .str "boxes") rfl) Evl.ev_c (Evl.rv_eq rfl))) (by decide)) (fun _ H5 e5 => ?_) (fun z => nomatch z)
            have eA := ((((e1.trans e2).trans e3).trans e4).trans e5)
            have hsA := Evl.ex_t (w_ex (L := L) eA) hs
            have kA : kOut K L H5 l m n _ _ Q := kOut.up kk eA
            have dA := hd.ex eA
            have hLA := hid_ex eA hL
            exact box_run rfl rfl rfl (fun _ => rfl) (fun _ => rfl) (fun _ => rfl) (Evl.ex_t (w_sub (L := L)) hsA) dA hm hl hLA p1 p3 w0 w1 kA
    | rising q =>
      cases hv with
      | @tup a xs _ hs ha =>
        cases ha with
        | @cons c0 _ _ _ r0 q0 =>
          cases r0
          cases q0 with
          | @cons c1 _ _ _ r1 q0 =>
            cases q0
            cases r1
            have eqp : q = p := hok
            subst eqp
            refine Evl.q_asg (v := .str "rising") (Evl.ev_op (Evl.ev_var (v := .ref a) rfl) Evl.ev_c (Evl.rv_ixT (Evl.ex_t (w_sub (L := L)) hs) rfl)) fun H1 e1 => ?_
            refine Evl.q_when (b := false) (Evl.et_is (Evl.et_test (Evl.ev_inU (Evl.ev_var (v := .str "rising") rfl) (Evl.eu_tup (Evl.ea_cons Evl.ev_c (Evl.ea_cons Evl.ev_c (Evl.ea_cons Evl.ev_c Evl.ea_nil))) (by show 3 ≤ 100000; omega)) rfl rfl)) (by decide)) (fun z => nomatch z) (fun _ H2 e2 => ?_)
            refine Evl.q_when (b := false) (Evl.et_is (Evl.et_test (Evl.ev_op (Evl.ev_var (v := .str "rising") rfl) Evl.ev_c (Evl.rv_eq rfl))) (by decide)) (fun z => nomatch z) (fun _ H3 e3 => ?_)
            refine Evl.q_when (b := false) (Evl.et_is (Evl.et_test (Evl.ev_op (Evl.ev_var (v := .str "rising") rfl) Evl.ev_c (Evl.rv_eq rfl))) (by decide)) (fun z => nomatch z) (fun _ H4 e4 => ?_)
            refine Evl.q_when (b := false) (Evl.et_is (Evl.et_test (Evl.ev_op (Evl.ev_var (v := .str "rising") rfl) Evl.ev_c (Evl.rv_eq rfl))) (by decide)) (fun z => nomatch z) (fun _ H5 e5 => ?_)
            refine Evl.q_when (b := true) (Evl.et_is (Evl.et_test (Evl.ev_op (Evl.ev_var (v := .str "rising") rfl) Evl.ev_c (Evl.rv_eq rfl))) (by decide)) (fun _ H6 e6 => ?_) (fun z => nomatch z)
            have eA := (((((e1.trans e2).trans e3).trans e4).trans e5).trans e6)
            have hsA := Evl.ex_t (w_ex (L := L) eA) hs
            have kA : kOut K L H6 l m n _ _ Q := kOut.up kk eA
            have dA := hd.ex eA
            have hLA := hid_ex eA hL
            exact rise_run rfl rfl rfl (fun _ => rfl) (fun _ => rfl) (fun _ => rfl) (fun _ => rfl) hsA dA hm hl hLA p1 p3 w0 w1 kA
    | flats q =>
      cases hv with
      | @tup a xs _ hs ha =>
        cases ha with
        | @cons c0 _ _ _ r0 q0 =>
          cases r0
          cases q0 with
          | @cons c1 _ _ _ r1 q0 =>
            cases q0
            cases r1
            have eqp : q = p := hok
            subst eqp
            refine Evl.q_asg (v := .str "flats") (Evl.ev_op (Evl.ev_var (v := .ref a) rfl) Evl.ev_c (Evl.rv_ixT (Evl.ex_t (w_sub (L := L)) hs) rfl)) fun H1 e1 => ?_
            refine Evl.q_when (b := false) (Evl.et_is (Evl.et_test (Evl.ev_inU (Evl.ev_var (v := .str "flats") rfl) (Evl.eu_tup (Evl.ea_cons Evl.ev_c (Evl.ea_cons Evl.ev_c (Evl.ea_cons Evl.ev_c Evl.ea_nil))) (by show 3 ≤ 100000; omega)) rfl rfl)) (by decide)) (fun z => nomatch z) (fun _ H2 e2 => ?_)
            refine Evl.q_when (b := false) (Evl.et_is (Evl.et_test (Evl.ev_op (Evl.ev_var (v := .str "flats") rfl) Evl.ev_c (Evl.rv_eq rfl))) (by decide)) (fun z => nomatch z) (fun _ H3 e3 => ?_)
            refine Evl.q_when (b := false) (Evl.et_is (Evl.et_test (Evl.ev_op (Evl.ev_var (v := .str "flats") rfl) Evl.ev_c (Evl.rv_eq rfl))) (by decide)) (fun z => nomatch z) (fun _ H4 e4 => ?_)
            refine Evl.q_when (b := false) (Evl.et_is (Evl.et_test (Evl.ev_op (Evl.ev_var (v := .str "flats") rfl) Evl.ev_c (Evl.rv_eq rfl))) (by decide)) (fun z => nomatch z) (fun _ H5 e5 => ?_)
            refine Evl.q_when (b := false) (Evl.et_is (Evl.et_test (Evl.ev_op (Evl.ev_var (v := .str "flats") rfl) Evl.ev_c (Evl.rv_eq rfl))) (by decide)) (fun z => nomatch z) (fun _ H6 e6 => ?_)
            refine Evl.q_when (b := true) (Evl.et_is (Evl.et_test (Evl.ev_op (Evl.ev_var (v := .str "flats") rfl) Evl.ev_c (Evl.rv_eq rfl))) (by decide)) (fun _ H7 e7 => ?_) (fun z => nomatch z)
            have eA := ((((((e1.trans e2).trans e3).trans e4).trans e5).trans e6).trans e7)
            have hsA := Evl.ex_t (w_ex (L := L) eA) hs
            have kA : kOut K L H7 l m n _ _ Q := kOut.up kk eA
            have dA := hd.ex eA
            have hLA := hid_ex eA hL
            exact flat_run rfl rfl rfl (fun _ => rfl) (fun _ => rfl) (fun _ => rfl) (fun _ => rfl) hsA dA hm hl hLA p1 p3 w0 w1 kA
    | turns q =>
      cases hv with
      | @tup a xs _ hs ha =>
        cases ha with
        | @cons c0 _ _ _ r0 q0 =>
          cases r0
          cases q0 with
          | @cons c1 _ _ _ r1 q0 =>
            cases q0
            cases r1
            refine Evl.q_asg (v := .str "turns") (Evl.ev_op (Evl.ev_var (v := .ref a) rfl) Evl.ev_c (Evl.rv_ixT (Evl.ex_t (w_sub (L := L)) hs) rfl)) fun H1 e1 => ?_
            refine Evl.q_when (b := false) (Evl.et_is (Evl.et_test (Evl.ev_inU (Evl.ev_var (v := .str "turns") rfl) (Evl.eu_tup (Evl.ea_cons Evl.ev_c (Evl.ea_cons Evl.ev_c (Evl.ea_cons Evl.ev_c Evl.ea_nil))) (by show 3 ≤ 100000; omega)) rfl rfl)) (by decide)) (fun z => nomatch z) (fun _ H2 e2 => ?_)
            refine Evl.q_when (b := false) (Evl.et_is (Evl.et_test (Evl.ev_op (Evl.ev_var (v := .str "turns") rfl) Evl.ev_c (Evl.rv_eq rfl))) (by decide)) (fun z => nomatch z) (fun _ H3 e3 => ?_)
            refine Evl.q_when (b := false) (Evl.et_is (Evl.et_test (Evl.ev_op (Evl.ev_var (v := .str "turns") rfl) Evl.ev_c (Evl.rv_eq rfl))) (by decide)) (fun z => nomatch z) (fun _ H4 e4 => ?_)
            refine Evl.q_when (b := false) (Evl.et_is (Evl.et_test (Evl.ev_op (Evl.ev_var (v := .str "turns") rfl) Evl.ev_c (Evl.rv_eq rfl))) (by decide)) (fun z => nomatch z) (fun _ H5 e5 => ?_)
            refine Evl.q_when (b := false) (Evl.et_is (Evl.et_test (Evl.ev_op (Evl.ev_var (v := .str "turns") rfl) Evl.ev_c (Evl.rv_eq rfl))) (by decide)) (fun z => nomatch z) (fun _ H6 e6 => ?_)
            refine Evl.q_when (b := false) (Evl.et_is (Evl.et_test (Evl.ev_op (Evl.ev_var (v := .str "turns") rfl) Evl.ev_c (Evl.rv_eq rfl))) (by decide)) (fun z => nomatch z) (fun _ H7 e7 => ?_)
            have eA := ((((((e1.trans e2).trans e3).trans e4).trans e5).trans e6).trans e7)
            have hsA := Evl.ex_t (w_ex (L := L) eA) hs
            have kA : kOut K L H7 l m n _ _ Q := kOut.up kk eA
            have dA := hd.ex eA
            have hLA := hid_ex eA hL
            obtain ⟨ep, m0, m3⟩ : p = 1 ∧ 0 ≤ q ∧ q ≤ 3 := hok
            subst ep
            exact turns_run rfl rfl rfl (fun _ => rfl) (fun _ => rfl) (fun _ => rfl) (fun _ => rfl) (fun _ => rfl) (Evl.ex_t (w_sub (L := L)) hsA) dA hm hl hLA m0 m3 w0 w1 kA
    | no k1 =>
      cases hv with
      | @tup a xs _ hs ha =>
        cases ha with
        | @cons c0 _ _ _ r0 q0 =>
          cases r0
          cases q0 with
          | @cons c1 _ _ _ r1 q0 =>
            cases q0
            refine Evl.q_asg (v := .str "not") (Evl.ev_op (Evl.ev_var (v := .ref a) rfl) Evl.ev_c (Evl.rv_ixT (Evl.ex_t (w_sub (L := L)) hs) rfl)) fun H1 e1 => ?_
            refine Evl.q_when (b := true) (Evl.et_is (Evl.et_test (Evl.ev_inU (Evl.ev_var (v := .str "not") rfl) (Evl.eu_tup (Evl.ea_cons Evl.ev_c (Evl.ea_cons Evl.ev_c (Evl.ea_cons Evl.ev_c Evl.ea_nil))) (by show 3 ≤ 100000; omega)) rfl rfl)) (by decide)) (fun _ H2 e2 => ?_) (fun z => nomatch z)
            have eA := (e1.trans e2)
            have hsA := Evl.ex_t (w_ex (L := L) eA) hs
            have kA : kOut K L H2 l m n _ _ Q := kOut.up kk eA
            have dA := hd.ex eA
            have hLA := hid_ex eA hL
            have hd1 : depK k1 + 1 ≤ n := hdep
            obtain ⟨n, rfl⟩ : ∃ j, n = j + 1 := ⟨n - 1, by omega⟩
            refine kids_run (K := K) (ks := [k1]) (p := p) (n := n) rfl rfl rfl (fun _ => rfl) (fun _ => rfl) (fun _ => rfl) (fun _ => rfl) (Evl.ex_t (w_sub (L := L)) hsA) (.cons (r1.up (w_ex eA)) .nil) (by simp) (by simp) (fun y hy => ?_) dA hm hl hLA p1 p3 w0 w1 fun t xs H9 hx ha e9 d9 ht => ?_
            · rw [List.mem_singleton.mp hy]
              exact ⟨hok, by omega⟩
            · match xs, hx with
              | [x1], _ =>
                have b1 := ha 0 x1 rfl
                exact kA _ (.no x1) H9 e9 d9 b1.1 (by show depR x1 + 1 ≤ n + 1; omega) b1.2.2.1 b1.2.2.2 ht
    | both k1 k2 =>
      cases hv with
      | @tup a xs _ hs ha =>
        cases ha with
        | @cons c0 _ _ _ r0 q0 =>
          cases r0
          cases q0 with
          | @cons c1 _ _ _ r1 q0 =>
            cases q0 with
            | @cons c2 _ _ _ r2 q0 =>
              cases q0
              refine Evl.q_asg (v := .str "both") (Evl.ev_op (Evl.ev_var (v := .ref a) rfl) Evl.ev_c (Evl.rv_ixT (Evl.ex_t (w_sub (L := L)) hs) rfl)) fun H1 e1 => ?_
              refine Evl.q_when (b := true) (Evl.et_is (Evl.et_test (Evl.ev_inU (Evl.ev_var (v := .str "both") rfl) (Evl.eu_tup (Evl.ea_cons Evl.ev_c (Evl.ea_cons Evl.ev_c (Evl.ea_cons Evl.ev_c Evl.ea_nil))) (by show 3 ≤ 100000; omega)) rfl rfl)) (by decide)) (fun _ H2 e2 => ?_) (fun z => nomatch z)
              have eA := (e1.trans e2)
              have hsA := Evl.ex_t (w_ex (L := L) eA) hs
              have kA : kOut K L H2 l m n _ _ Q := kOut.up kk eA
              have dA := hd.ex eA
              have hLA := hid_ex eA hL
              have hd1 : max (depK k1) (depK k2) + 1 ≤ n := hdep
              obtain ⟨n, rfl⟩ : ∃ j, n = j + 1 := ⟨n - 1, by omega⟩
              refine kids_run (K := K) (ks := [k1, k2]) (p := p) (n := n) rfl rfl rfl (fun _ => rfl) (fun _ => rfl) (fun _ => rfl) (fun _ => rfl) (Evl.ex_t (w_sub (L := L)) hsA) (.cons (r1.up (w_ex eA)) (.cons (r2.up (w_ex eA)) .nil)) (by simp) (by simp) (fun y hy => ?_) dA hm hl hLA p1 p3 w0 w1 fun t xs H9 hx ha e9 d9 ht => ?_
              · rcases List.mem_cons.mp hy with q | q
                · rw [q]
                  exact ⟨hok.1, by omega⟩
                · rw [List.mem_singleton.mp q]
                  exact ⟨hok.2, by omega⟩
              · match xs, hx with
                | [x1, x2], _ =>
                  have b1 := ha 0 x1 rfl
                  have b2 := ha 1 x2 rfl
                  exact kA _ (.both x1 x2) H9 e9 d9 ⟨b1.1, b2.1⟩ (by show max (depR x1) (depR x2) + 1 ≤ n + 1; omega) ⟨b1.2.2.1, b2.2.2.1⟩ ⟨b1.2.2.2, b2.2.2.2⟩ ht
    | either k1 k2 =>
      cases hv with
      | @tup a xs _ hs ha =>
        cases ha with
        | @cons c0 _ _ _ r0 q0 =>
          cases r0
          cases q0 with
          | @cons c1 _ _ _ r1 q0 =>
            cases q0 with
            | @cons c2 _ _ _ r2 q0 =>
              cases q0
              refine Evl.q_asg (v := .str "either") (Evl.ev_op (Evl.ev_var (v := .ref a) rfl) Evl.ev_c (Evl.rv_ixT (Evl.ex_t (w_sub (L := L)) hs) rfl)) fun H1 e1 => ?_
              refine Evl.q_when (b := true) (Evl.et_is (Evl.et_test (Evl.ev_inU (Evl.ev_var (v := .str "either") rfl) (Evl.eu_tup (Evl.ea_cons Evl.ev_c (Evl.ea_cons Evl.ev_c (Evl.ea_cons Evl.ev_c Evl.ea_nil))) (by show 3 ≤ 100000; omega)) rfl rfl)) (by decide)) (fun _ H2 e2 => ?_) (fun z => nomatch z)
              have eA := (e1.trans e2)
              have hsA := Evl.ex_t (w_ex (L := L) eA) hs
              have kA : kOut K L H2 l m n _ _ Q := kOut.up kk eA
              have dA := hd.ex eA
              have hLA := hid_ex eA hL
              have hd1 : max (depK k1) (depK k2) + 1 ≤ n := hdep
              obtain ⟨n, rfl⟩ : ∃ j, n = j + 1 := ⟨n - 1, by omega⟩
              refine kids_run (K := K) (ks := [k1, k2]) (p := p) (n := n) rfl rfl rfl (fun _ => rfl) (fun _ => rfl) (fun _ => rfl) (fun _ => rfl) (Evl.ex_t (w_sub (L := L)) hsA) (.cons (r1.up (w_ex eA)) (.cons (r2.up (w_ex eA)) .nil)) (by simp) (by simp) (fun y hy => ?_) dA hm hl hLA p1 p3 w0 w1 fun t xs H9 hx ha e9 d9 ht => ?_
              · rcases List.mem_cons.mp hy with q | q
                · rw [q]
                  exact ⟨hok.1, by omega⟩
                · rw [List.mem_singleton.mp q]
                  exact ⟨hok.2, by omega⟩
              · match xs, hx with
                | [x1, x2], _ =>
                  have b1 := ha 0 x1 rfl
                  have b2 := ha 1 x2 rfl
                  exact kA _ (.either x1 x2) H9 e9 d9 ⟨b1.1, b2.1⟩ (by show max (depR x1) (depR x2) + 1 ≤ n + 1; omega) ⟨b1.2.2.1, b2.2.2.1⟩ ⟨b1.2.2.2, b2.2.2.2⟩ ht
    | any k1 k2 =>
      cases hv with
      | @tup a xs _ hs ha =>
        cases ha with
        | @cons c0 _ _ _ r0 q0 =>
          cases r0
          cases q0 with
          | @cons c1 _ _ _ r1 q0 =>
            cases q0 with
            | @cons c2 _ _ _ r2 q0 =>
              cases q0
              refine Evl.q_asg (v := .str "any") (Evl.ev_op (Evl.ev_var (v := .ref a) rfl) Evl.ev_c (Evl.rv_ixT (Evl.ex_t (w_sub (L := L)) hs) rfl)) fun H1 e1 => ?_
              refine Evl.q_when (b := false) (Evl.et_is (Evl.et_test (Evl.ev_inU (Evl.ev_var (v := .str "any") rfl) (Evl.eu_tup (Evl.ea_cons Evl.ev_c (Evl.ea_cons Evl.ev_c (Evl.ea_cons Evl.ev_c Evl.ea_nil))) (by show 3 ≤ 100000; omega)) rfl rfl)) (by decide)) (fun z => nomatch z) (fun _ H2 e2 => ?_)
              refine Evl.q_when (b := true) (Evl.et_is (Evl.et_test (Evl.ev_op (Evl.ev_var (v := .str "any") rfl) Evl.ev_c (Evl.rv_eq rfl))) (by decide)) (fun _ H3 e3 => ?_) (fun z => nomatch z)
              have eA := ((e1.trans e2).trans e3)
              have hsA := Evl.ex_t (w_ex (L := L) eA) hs
              have kA : kOut K L H3 l m n _ _ Q := kOut.up kk eA
              have dA := hd.ex eA
              have hLA := hid_ex eA hL
              have hd1 : max (depK k1) (depK k2) + 1 ≤ n := hdep
              obtain ⟨n, rfl⟩ : ∃ j, n = j + 1 := ⟨n - 1, by omega⟩
              exact any_run rfl (fun _ => ⟨rfl, rfl, rfl, rfl⟩) hsA (r1.up (w_ex eA)) (r2.up (w_ex eA)) hok.1 hok.2 (by omega) (by omega) dA hm hl hLA p1 p3 w0 w1 kA
end
end U

set_option Elab.async false
set_option linter.all false
set_option maxRecDepth 100000
set_option maxHeartbeats 4000000
/-! what is drawn of a kind, the kind has -/
namespace U
open PySem L2
theorem asc_ints : ∀ {cs : List Int}, cs.Pairwise (· < ·) → ascD (cs.map PyData.int) = true
  | [], _ => rfl
  | [_], _ => rfl
  | a :: b :: r, h => by
    have h1 : a < b := (List.pairwise_cons.mp h).1 b List.mem_cons_self
    have ih := asc_ints (List.pairwise_cons.mp h).2
    show (decide (valI (PyData.int a) < valI (PyData.int b)) && ascD ((b :: r).map PyData.int)) = true
    rw [ih, Bool.and_true]
    exact decide_eq_true h1
theorem all_ints (ws : List Int) : (ws.map PyData.int).all isI = true := by
  rw [List.all_map]
  exact List.all_eq_true.mpr fun x _ => rfl
theorem all_opts (c : List (Option Int)) : (c.map oD).all isNI = true := by
  rw [List.all_map]
  exact List.all_eq_true.mpr fun x _ => by cases x <;> rfl
theorem hasK_of : ∀ (k : Kd) (r : Rl) {p : Int}, 0 ≤ p → okK p k → okR p.toNat r → ofK k r → hasK k (rlD true r) = true
  | .halves q, .half ws b, p, p0, hk, hr, _ => by
    have e : q = p := hk
    subst e
    have hl : (ws.length : Int) = q := by have := hr.1; omega
    have h1 : isP q (.tuple (ws.map .int)) = true := by
      show (decide (((ws.map PyData.int).length : Int) = q) && (ws.map PyData.int).all isI) = true
      rw [all_ints, List.length_map, Bool.and_true]
      exact decide_eq_true hl
    show (true && (isP q (.tuple (ws.map .int)) && true)) = true
    rw [h1]
    rfl
  | .boxes q, .box rs, p, p0, hk, hr, _ => by
    have e : q = p := hk
    subst e
    have hl : (rs.length : Int) = q := by have : rs.length = q.toNat := hr; omega
    have h1 : isO q (.tuple (rs.map (rgD true))) = true := by
      show decide (((rs.map (rgD true)).length : Int) = q) = true
      rw [List.length_map]
      exact decide_eq_true hl
    have h2 : allD (isB 2) (.tuple (rs.map (rgD true))) = true := by
      show (rs.map (rgD true)).all (isB 2) = true
      rw [List.all_map]
      exact List.all_eq_true.mpr fun x _ => by
        obtain ⟨a, b⟩ := x
        cases a <;> cases b <;> rfl
    show (true && isO q (.tuple (rs.map (rgD true))) && allD (isB 2) (.tuple (rs.map (rgD true)))) = true
    rw [h1, h2]
    rfl
  | .rising q, .rise cs, p, p0, hk, hr, _ => by
    have e : q = p := hk
    subst e
    have h2 : allD (isB q) (.tuple (cs.map fun c => .tuple (c.map oD))) = true := by
      show (cs.map fun c => PyData.tuple (c.map oD)).all (isB q) = true
      rw [List.all_map]
      exact List.all_eq_true.mpr fun x hx => by
        have hl : (x.length : Int) = q := by have := hr.1 x hx; omega
        show (decide (((x.map oD).length : Int) = q) && (x.map oD).all isNI) = true
        rw [all_opts, List.length_map, Bool.and_true]
        exact decide_eq_true hl
    show (true && true && allD (isB q) (.tuple (cs.map fun c => .tuple (c.map oD)))) = true
    rw [h2]
    rfl
  | .flats q, .flat ps, p, p0, hk, hr, _ => by
    have e : q = p := hk
    subst e
    have h2 : allD (isP q) (.tuple (ps.map fun y => .tuple (y.map .int))) = true := by
      show (ps.map fun y => PyData.tuple (y.map .int)).all (isP q) = true
      rw [List.all_map]
      exact List.all_eq_true.mpr fun x hx => by
        have hl : (x.length : Int) = q := by have := hr.1 x hx; omega
        show (decide (((x.map PyData.int).length : Int) = q) && (x.map PyData.int).all isI) = true
        rw [all_ints, List.length_map, Bool.and_true]
        exact decide_eq_true hl
    show (true && true && allD (isP q) (.tuple (ps.map fun y => .tuple (y.map .int)))) = true
    rw [h2]
    rfl
  | .turns m, .turns f cs, p, p0, hk, hr, ho => by
    show (true && true && true && decide (((cs.map PyData.int).length : Int) ≤ m) && (cs.map PyData.int).all isI && ascD (cs.map PyData.int)) = true
    rw [asc_ints ho.2, all_ints, List.length_map, decide_eq_true ho.1]
    rfl
  | .no k, .no r, p, p0, hk, hr, ho => by
    show (true && hasK k (rlD true r)) = true
    rw [hasK_of k r p0 hk hr ho]
    rfl
  | .both k m, .both r s, p, p0, hk, hr, ho => by
    show (true && (hasK k (rlD true r) && hasK m (rlD true s))) = true
    rw [hasK_of k r p0 hk.1 hr.1 ho.1, hasK_of m s p0 hk.2 hr.2 ho.2]
    rfl
  | .either k m, .either r s, p, p0, hk, hr, ho => by
    show (true && (hasK k (rlD true r) && hasK m (rlD true s))) = true
    rw [hasK_of k r p0 hk.1 hr.1 ho.1, hasK_of m s p0 hk.2 hr.2 ho.2]
    rfl
  | .any k m, .first r, p, p0, hk, hr, ho => by
    show ((true && hasK k (rlD true r)) || (false && hasK m (rlD true r))) = true
    rw [hasK_of k r p0 hk.1 hr ho]
    rfl
  | .any k m, .second r, p, p0, hk, hr, ho => by
    show ((false && hasK k (rlD true r)) || (true && hasK m (rlD true r))) = true
    rw [hasK_of m r p0 hk.2 hr ho]
    cases (false && hasK k (rlD true r)) <;> rfl
end U

set_option Elab.async false
set_option linter.all false
set_option maxRecDepth 100000
set_option maxHeartbeats 4000000
/-! things that are bent -/
namespace U
open PySem PySem.Spec PyProof.Rows L2
open Evl (Ex)
abbrev s_bent : Stmt := top 46
abbrev sc_bent_N : List Str := ["_law_draws", "_law_thing", "_law_at", "_law_way", "_law_parts"]
theorem sc_bent : FnScope sc_bent_N ["_law_draws", "_law_thing"] (defScope s_bent) := ⟨rfl, rfl, rfl, by decide +kernel, rfl, by decide +kernel, by decide +kernel⟩
/-- no deeper than n, no longer than b, no greater than b -/
def bq : Nat → Nat → PyData → Prop
  | _, b, .int i => i.natAbs ≤ 65536 + b
  | _, _, .dict kvs => kvs = []
  | 0, _, .list _ => False
  | 0, _, .tuple _ => False
  | n + 1, b, .list ds => ds.length ≤ b ∧ ∀ d ∈ ds, bq n b d
  | n + 1, b, .tuple ds => ds.length ≤ b ∧ ∀ d ∈ ds, bq n b d
  | _, _, _ => True
theorem bq_up : ∀ {n m b c : Nat} {d : PyData}, n ≤ m → b ≤ c → bq n b d → bq m c d
  | 0, 0, b, c, d, _, hb, h => by
    cases d with
    | int i => exact Nat.le_trans (show i.natAbs ≤ 65536 + b from h) (by omega)
    | list ds => exact h.elim
    | tuple ds => exact h.elim
    | dict _ => exact h
    | _ => trivial
  | 0, m + 1, b, c, d, _, hb, h => by
    cases d with
    | int i => exact Nat.le_trans (show i.natAbs ≤ 65536 + b from h) (by omega)
    | list ds => exact h.elim
    | tuple ds => exact h.elim
    | dict _ => exact h
    | _ => trivial
  | n + 1, 0, _, _, _, e, _, _ => by omega
  | n + 1, m + 1, b, c, d, e, hb, h => by
    cases d with
    | int i => exact Nat.le_trans (show i.natAbs ≤ 65536 + b from h) (by omega)
    | list ds => exact ⟨Nat.le_trans h.1 hb, fun z hz => bq_up (by omega) hb (h.2 z hz)⟩
    | tuple ds => exact ⟨Nat.le_trans h.1 hb, fun z hz => bq_up (by omega) hb (h.2 z hz)⟩
    | dict _ => exact h
    | _ => trivial
theorem bq_fits : ∀ {n b : Nat} {d : PyData}, b ≤ 40000 → bq n b d → fits n d
  | 0, b, d, hb, h => by
    cases d with
    | list ds => exact h.elim
    | tuple ds => exact h.elim
    | dict _ => exact h
    | _ => trivial
  | n + 1, b, d, hb, h => by
    cases d with
    | list ds => exact ⟨Nat.le_trans h.1 hb, fun z hz => bq_fits hb (h.2 z hz)⟩
    | tuple ds => exact ⟨Nat.le_trans h.1 hb, fun z hz => bq_fits hb (h.2 z hz)⟩
    | dict _ => exact h
    | _ => trivial
theorem bq_row {n b : Nat} {d : PyData} (h : bq n b d) (hr : isR d = true) : ∃ k, n = k + 1 ∧ (entries d).length ≤ b ∧ ∀ x ∈ entries d, bq k b x := by
  cases d with
  | list ds =>
    cases n with
    | zero => exact h.elim
    | succ m => exact ⟨m, rfl, h.1, h.2⟩
  | tuple ds =>
    cases n with
    | zero => exact h.elim
    | succ m => exact ⟨m, rfl, h.1, h.2⟩
  | _ => cases hr
def spPickQ (K : PySem.W.Frag) : Sp := fun vs H Q _ => ∃ (l t : Addr) (ds : List PyData) (n : Nat) (L : List Addr), vs = [.ref l, .ref t] ∧ Dr n H l ∧ n < 1000000 ∧ l ∈ L ∧ Dq K (W L H) (.ref t) (.list ds) ∧ 0 < ds.length ∧ ds.length < 1073741824 ∧
  ∀ v d o, d ∈ ds → Dq K (W L (upd H l o)) v d → Dr (n + 1) (upd H l o) l → Q v (upd H l o)
def spBent (K : PySem.W.Frag) (n : Nat) : Sp := fun vs H Q _ => ∃ l v d b m L, vs = [.ref l, v] ∧ Dr m H l ∧ m + 10 * (n + 1) < 1000000 ∧ l ∈ L ∧ Hid L H ∧ Dq K (W L H) v d ∧ bq n b d ∧ b ≤ 1000 ∧
  ∀ v' d' H', ExB l H H' → Dr (m + 10 * (n + 1)) H' l → Dq K (W L H') v' d' → bq (n + 1) (b + 1) d' → Q v' H'
def spBentP (K : PySem.W.Frag) : Nat → Sp
  | 0 => fun _ _ _ _ => False
  | n + 1 => spBent K n
structure TxQ (mg : Str → Option Value) : Prop extends TxL mg where
  m_str : mg "str" = none
section
variable {P : Program} {w : World} {K : PySem.W.Frag} {mg : Str → Option Value} {base : Heap}
theorem ok_pickQ {f : Addr} {fd : FuncData} (F : Fun K "_law_pick" "_law_pick" s_pick f fd) (T : TxB mg) (D_draw : DefAt P w K mg base "_law_draw" 1 ["_law_draws", "_law_many"] spDraw) : FnOk P w K mg base CX0 2 f fd ["_law_draws", "_law_things"] (spPickQ K) := by
  refine F.ok sc_pick (fun vs H Q E h => ?_) (fun cdv A outer s H vs Q E hr h => ?_)
  · obtain ⟨_, _, _, _, _, rfl, _⟩ := h
    rfl
  · obtain ⟨l, t, ds, n, L, rfl, hd, hn, hL, hp, h0, h1, k⟩ := h
    refine ⟨_, (pss_one (ps_ret (pe_ix ix_list (pv 1) (pe_callD D_draw (by first | exact hr | exact hr.mono (by decide) | exact hr.mono (by omega)) (by rfl) (pa_cons (pv 0) (pa_cons (pe_callB call_len_seq (by rfl) T.m_len (by decide +kernel) (pa_cons (pv 1) pa_nil)) pa_nil))) (fun _ _ => rfl)))), ?_⟩
    cases hp with
    | @lst _ xs _ hs ha =>
      have hlen := dqa_len ha
      refine ⟨_, rfl, _, rfl, _, rfl, t, xs, rfl, .inl (Evl.ex_l w_sub hs), ?_⟩
      refine ⟨l, _, n, rfl, hd, hn, by omega, by omega, fun r o r0 r1 hd' => ?_⟩
      have hr' : r.toNat < xs.length := by omega
      obtain ⟨d, hd1, hd2⟩ := dqa_get ha (List.getElem?_eq_getElem hr')
      have er : ((r.toNat : Nat) : Int) = r := by omega
      refine ⟨t, xs, r, xs[r.toNat], rfl, rfl, Evl.ex_l (w_sub (L := L)) (by rw [w_upd_in hL]; exact hs), ?_, ?_⟩
      · have q := atI_nat (List.getElem?_eq_getElem hr')
        rw [er] at q
        exact q
      · exact k _ d o (List.mem_of_getElem? hd1) (by rw [w_upd_in hL]; exact hd2) hd'
theorem pickQ_run {σ : L2.St} {H : Hp} {te : TE} {l : Addr} {n : Nat} {L : List Addr} {ds : List PyData} {Q : VK} (h0 : σ[0]? = some (some (.ref l))) (hd : Dr n H l) (hn : n < 1000000) (hl : l ∈ L) (z0 : 0 < ds.length) (z1 : ds.length < 1073741824) (hw : EvQ K L te σ H (.list ds))
    (k : ∀ v d H', d ∈ ds → ExB l H H' → Dr (n + 1) H' l → Dq K (W L H') v d → Q v H') : tCallD (spPickQ K) (tCons (tVar 0) (tCons te tNil)) σ H Q :=
  ⟨_, h0, hw H (Ex.refl H) _ fun v H1 e1 hv => by
    obtain ⟨t, rfl⟩ : ∃ t, v = .ref t := by cases hv; exact ⟨_, rfl⟩
    exact ⟨l, t, ds, n, L, rfl, hd.ex e1, hn, hl, hv, z0, z1, fun v d o hm hv hd' => k v d _ hm ((ExB.of e1).trans ExB.upd) hd' hv⟩⟩
theorem exB_mut {l t : Addr} {H H1 : Hp} {o : HO} (e : ExB l H H1) (hn : H t = none) : ExB l H (upd H1 t o) := fun a u n h => by
  rw [upd_ne (ne_of_none h hn)]
  exact e a u n h
theorem dr_upd {l t : Addr} {m : Nat} {H : Hp} {o : HO} (h : Dr m H l) (n : l ≠ t) : Dr m (upd H t o) l := by
  obtain ⟨x, y, z, h1, r⟩ := h
  exact ⟨x, y, z, by rw [upd_ne n]; exact h1, r⟩
theorem dqa_take {H : Hp} : ∀ (i : Nat) {vs : List V} {ds : List PyData}, DqAll K H vs ds → DqAll K H (vs.take i) (ds.take i)
  | 0, _, _, _ => .nil
  | _ + 1, _, _, .nil => .nil
  | i + 1, _, _, .cons r t => .cons r (dqa_take i t)
theorem dqa_drop {H : Hp} : ∀ (i : Nat) {vs : List V} {ds : List PyData}, DqAll K H vs ds → DqAll K H (vs.drop i) (ds.drop i)
  | 0, _, _, h => h
  | _ + 1, _, _, .nil => .nil
  | i + 1, _, _, .cons _ t => dqa_drop i t
theorem dqa_set {H : Hp} {v : V} {d : PyData} (h : Dq K H v d) : ∀ (i : Nat) {vs : List V} {ds : List PyData}, DqAll K H vs ds → DqAll K H (vs.set i v) (ds.set i d)
  | _, _, _, .nil => .nil
  | 0, _, _, .cons _ t => .cons h t
  | i + 1, _, _, .cons r t => .cons r (dqa_set h i t)
theorem gq_put {L : List Addr} {H : Hp} {t : Addr} {ys : List V} {ds : List PyData} (n : t ∉ L) (h : DqAll K (W (t :: L) H) ys ds) : Gq K L (upd H t (.lst ys)) t ds := ⟨n, ys, upd_same, by
  rw [w_upd_in (List.mem_cons_self ..)]
  exact h⟩
theorem gq_exB {L : List Addr} {H H' : Hp} {l t : Addr} {ds : List PyData} (h : Gq K L H t ds) (e : ExB l H H') (m : l ∈ L) : Gq K L H' t ds := by
  obtain ⟨n, xs, h1, h2⟩ := h
  refine ⟨n, xs, e t _ (fun q => n (by rw [q]; exact m)) h1, h2.up fun b o h => ?_⟩
  obtain ⟨h3, nb⟩ := w_in h
  exact w_of nb (e b o (fun q => nb (by rw [q]; exact List.mem_cons_of_mem _ m)) h3)
theorem ev_isLq {σ : L2.St} {H : Hp} {te : TE} {v : V} {d : PyData} (h : Evl.Ev te σ H v) (hd : Dq K H v d) : Evl.Ev (tCB (rIsi K) (tCons te (tCons (tC (.ty "bool")) tNil))) σ H (.bl (isL d)) := by
  cases d with
  | none => exact evq_isi h hd isi_NoneType_bool
  | bool z => exact evq_isi h hd isi_bool_bool
  | int z => exact evq_isi h hd isi_int_bool
  | str z' => exact evq_isi h hd isi_str_bool
  | list ds => exact evq_isi h hd isi_list_bool
  | tuple ds => exact evq_isi h hd isi_tuple_bool
  | dict z' => exact evq_isi h hd isi_dict_bool
theorem ev_isIq {σ : L2.St} {H : Hp} {te : TE} {v : V} {d : PyData} (h : Evl.Ev te σ H v) (hd : Dq K H v d) : Evl.Ev (tCB (rIsi K) (tCons te (tCons (tC (.ty "int")) tNil))) σ H (.bl (isL d || isI d)) := by
  cases d with
  | none => exact evq_isi h hd isi_NoneType_int
  | bool z => exact evq_isi h hd isi_bool_int
  | int z => exact evq_isi h hd isi_int_int
  | str z' => exact evq_isi h hd isi_str_int
  | list ds => exact evq_isi h hd isi_list_int
  | tuple ds => exact evq_isi h hd isi_tuple_int
  | dict z' => exact evq_isi h hd isi_dict_int
theorem q_when2 {c : TT} {t u : TS} {D : Ends} {σ : L2.St} {H : Hp} {P1 P2 : Hp → Prop} (hc : ∀ Q' : Bool → Hp → Prop, (∀ H1, P1 H1 → Q' true H1) → (∀ H1, P2 H1 → Q' false H1) → c σ H Q') (h1 : ∀ H1, P1 H1 → t { D with nx := u D } σ H1) (h2 : ∀ H1, P2 H1 → u D σ H1) : tSeq (tIfS c t tNext) u D σ H :=
  hc _ (fun H1 p => by
    show (if true = true then _ else _)
    rw [if_pos rfl]
    exact h1 H1 p) fun H1 p => by
    show (if false = true then _ else _)
    rw [if_neg Bool.false_ne_true]
    exact h2 H1 p
theorem q_asgGf {te : TE} {σ : L2.St} {H : Hp} {L : List Addr} {ds : List PyData} {D : Ends} {tz : TS} {i : Nat} (h : EvGq K L te σ H ds) (k : ∀ u H1, H u = none → Ex H H1 → Gq K L H1 u ds → tz D (σ.set i (some (.ref u))) H1) : tSeq (tAsg te (gName i)) tz D σ H := h H (Ex.refl H) _ fun u H1 hu e g => k u H1 hu e g
theorem ev_neg {te : TE} {σ : L2.St} {H : Hp} {i : Int} (h : Evl.Ev te σ H (.int i)) : Evl.Ev (tUn (rU fun i => V.int (-i)) te) σ H (.int (-i)) := fun H1 e Q q => h H1 e _ fun H2 e2 => ⟨i, rfl, q H2 e2⟩
theorem evq_dnew {σ : L2.St} {H : Hp} {L : List Addr} (hL : Hid L H) : EvQ K L tDNewK σ H (.dict []) := fun H1 e Q q p hp => q (.ref p) _ (Ex.new hp) (.dct (w_new (hid_ex e hL) hp))
theorem log_small {i : Int} (h : i.natAbs ≤ 66536) : i.natAbs.log2 < 1920 := by
  by_cases z : i.natAbs = 0
  · rw [z]
    decide
  · exact (Nat.log2_lt z).mpr (Nat.lt_of_le_of_lt h (Nat.lt_of_lt_of_le (by decide : 66536 < 2 ^ 20) (Nat.pow_le_pow_right (by decide) (by decide))))
theorem bent_body {f : Addr} {fd : FuncData} (F : Fun K "_law_bent" "_law_bent" s_bent f fd) (T : TxQ mg) (n : Nat) (D_draw : DefAt P w K mg base "_law_draw" 1 ["_law_draws", "_law_many"] spDraw) (D_pickQ : DefAt P w K mg base "_law_pick" 2 ["_law_draws", "_law_things"] (spPickQ K)) (D_bent : DefAt P w K mg base "_law_bent" (n + 3) ["_law_draws", "_law_thing"] (spBentP K n)) : FnOk P w K mg base CX0 (n + 4) f fd ["_law_draws", "_law_thing"] (spBent K n) := by
  refine F.ok sc_bent (fun vs H Q E h => ?_) (fun cdv A outer s H vs Q E hr h => ?_)
  · obtain ⟨_, _, _, _, _, _, rfl, _⟩ := h
    rfl
  · obtain ⟨l, v, d, b, m, L, rfl, hd, hm, hl, hL, hv, hb, hb2, k⟩ := h
    refine ⟨_, (pss_cons (ps_if (PW.pt (pw_and (pt_val (pe_callB call_isiT (by rfl) T.m_isinstance (by decide +kernel) (pa_cons (pv 1) (pa_cons (pe_tup (pa_cons (pe_bltn (v := .ty "list") (by rfl) T.m_list (by decide +kernel) rfl) (pa_cons (pe_bltn (v := .ty "tuple") (by rfl) T.m_tuple (by decide +kernel) rfl) pa_nil))) pa_nil)))) (pw_and (pt_cmpR op_gt (pe_callB call_len_seq (by rfl) T.m_len (by decide +kernel) (pa_cons (pv 1) pa_nil)) pe_int (nomark _)) (pw_and1 (pt_cmpR op_gt (pe_callD D_draw (by first | exact hr | exact hr.mono (by decide) | exact hr.mono (by omega)) (by rfl) (pa_cons (pv 0) (pa_cons pe_int pa_nil))) pe_int (nomark _)))))) (pss_cons (ps_par (i := 2) (j := 3) (by rfl) sc_bent.nd rfl rfl (by decide) rfl rfl (pa_cons (pe_callD D_draw (by first | exact hr | exact hr.mono (by decide) | exact hr.mono (by omega)) (by rfl) (pa_cons (pv 0) (pa_cons (pe_callB call_len_seq (by rfl) T.m_len (by decide +kernel) (pa_cons (pv 1) pa_nil)) pa_nil))) (pa_cons (pe_callD D_draw (by first | exact hr | exact hr.mono (by decide) | exact hr.mono (by omega)) (by rfl) (pa_cons (pv 0) (pa_cons pe_int pa_nil))) pa_nil)) (by rfl))
      (pss_cons (ps_set (i := 4) sc_bent.nd rfl (by first | exact Or.inl rfl | exact Or.inr rfl) (pe_callTy call_list_of (by rfl) T.m_list (by decide +kernel) (pa_cons (pv 1) pa_nil)))
      (pss_cons (ps_if (pt_cmpR op_eq (pv 3) pe_int (nomark _)) (pss_one (ps_expr (pe_bm PySem.F.plainAttrs_list PySem.F.slot_list_pop PySem.F.type_list_pop mt_popAt (pv 4) (pa_cons (pv 2) pa_nil)))) (pss_one (ps_if (pt_cmpR op_eq (pv 3) pe_int (nomark _)) (pss_one (ps_expr (pe_bm PySem.F.plainAttrs_list PySem.F.slot_list_insert PySem.F.type_list_insert mt_insert (pv 4) (pa_cons (pv 2) (pa_cons (pe_ix ix_list (pv 4) (pv 2) (fun _ _ => rfl)) pa_nil))))) (pss_one (ps_if (pt_cmpR op_eq (pv 3) pe_int (nomark _)) (pss_one (ps_asg (pe_callD D_pickQ (by first | exact hr | exact hr.mono (by decide) | exact hr.mono (by omega)) (by rfl) (pa_cons (pv 0) (pa_cons (pe_lst (pa_cons pe_non (pa_cons pe_bl (pa_cons pe_int (pa_cons pe_str (pa_cons pe_str (pa_cons (pe_tup pa_nil) (pa_cons (pe_tup (pa_cons pe_int (pa_cons pe_int pa_nil))) (pa_cons pe_str (pa_cons (pe_un un_neg pe_int) pa_nil)))))))))) pa_nil))) (pg_sub (pv 4) (pv 2) set_list))) (pss_one (ps_asg (pe_callD D_bent (by first | exact hr | exact hr.mono (by decide) | exact hr.mono (by omega)) (by rfl) (pa_cons (pv 0) (pa_cons (pe_ix ix_list (pv 4) (pv 2) (fun _ _ => rfl)) pa_nil))) (pg_sub (pv 4) (pv 2) set_list))))))))
      (pss_one (ps_ret (pe_callD D_pickQ (by first | exact hr | exact hr.mono (by decide) | exact hr.mono (by omega)) (by rfl) (pa_cons (pv 0) (pa_cons (pe_lst (pa_cons (pv 4) (pa_cons (pe_callTy call_tuple_of (by rfl) T.m_tuple (by decide +kernel) (pa_cons (pv 4) pa_nil)) pa_nil))) pa_nil)))))))) pss_nil)
    (pss_cons (ps_if (pt_val (pe_callB call_isi (by rfl) T.m_isinstance (by decide +kernel) (pa_cons (pv 1) (pa_cons (pe_bltn (v := .ty "bool") (by rfl) T.m_bool (by decide +kernel) rfl) pa_nil)))) (pss_one (ps_ret (pe_callD D_pickQ (by first | exact hr | exact hr.mono (by decide) | exact hr.mono (by omega)) (by rfl) (pa_cons (pv 0) (pa_cons (pe_lst (pa_cons (pe_callTy call_int1 (by rfl) T.m_int (by decide +kernel) (pa_cons (pv 1) pa_nil)) (pa_cons pe_non (pa_cons (pe_not (pv 1)) pa_nil)))) pa_nil))))) pss_nil)
    (pss_cons (ps_if (pt_val (pe_callB call_isi (by rfl) T.m_isinstance (by decide +kernel) (pa_cons (pv 1) (pa_cons (pe_bltn (v := .ty "int") (by rfl) T.m_int (by decide +kernel) rfl) pa_nil)))) (pss_one (ps_ret (pe_callD D_pickQ (by first | exact hr | exact hr.mono (by decide) | exact hr.mono (by omega)) (by rfl) (pa_cons (pv 0) (pa_cons (pe_lst (pa_cons (pe_op op_add (pv 1) pe_int) (pa_cons pe_non (pa_cons pe_bl (pa_cons (pe_callTy call_str_int (by rfl) T.m_str (by decide +kernel) (pa_cons (pv 1) pa_nil)) (pa_cons (pe_tup (pa_cons (pv 1) pa_nil)) (pa_cons (pe_un un_neg (pv 1)) pa_nil))))))) pa_nil))))) pss_nil)
    (pss_one (ps_ret (pe_callD D_pickQ (by first | exact hr | exact hr.mono (by decide) | exact hr.mono (by omega)) (by rfl) (pa_cons (pv 0) (pa_cons (pe_lst (pa_cons pe_non (pa_cons pe_int (pa_cons pe_str (pa_cons pe_str (pa_cons pe_str (pa_cons pe_str (pa_cons pe_str (pa_cons pe_str (pa_cons pe_str (pa_cons pe_str (pa_cons (pe_lst pa_nil) (pa_cons (pe_dnewK) pa_nil))))))))))))) pa_nil)))))))), ?_⟩
    have v0 : ∀ (v2 v3 v4 : Option V) H1, Evl.Ev (tVar 0) [some (.ref l), some v, v2, v3, v4] H1 (.ref l) := fun _ _ _ H1 => Evl.ev_var rfl
    have v1 : ∀ (v2 v3 v4 : Option V) H1, Evl.Ev (tVar 1) [some (.ref l), some v, v2, v3, v4] H1 v := fun _ _ _ H1 => Evl.ev_var rfl
    have hvH : ∀ {H1}, ExB l H H1 → Dq K (W L H1) v d := fun e => hv.up fun a o h => by
      obtain ⟨h1, na⟩ := w_in h
      exact w_of na (e a o (fun q => na (by rw [q]; exact hl)) h1)
    refine q_when2 (P1 := fun H1 => isR d = true ∧ 0 < (entries d).length ∧ ExB l H H1 ∧ Dr (m + 1) H1 l) (P2 := fun H1 => ExB l H H1 ∧ Dr (m + 1) H1 l) (fun Q' q1 q2 => ?_) (fun H1 hp => ?_) (fun H1 hp => ?_)
    · refine (Evl.et_B (ev_isR2 (v1 _ _ _ H) (hv.up w_sub))) H (Ex.refl _) _ fun H1 e1 => ?_
      cases hr2 : isR d with
      | false =>
        rw [if_neg (by simp)]
        exact q2 H1 ⟨ExB.of e1, (hd.ex e1).up (by omega)⟩
      | true =>
        rw [if_pos rfl]
        obtain ⟨k1, hk1, hlen, hel⟩ := bq_row hb hr2
        have lv : Evl.Ev _ _ H1 (.int ((entries d).length : Int)) := ev_lenD (v1 none none none H1) ((hv.up w_sub).up e1) hr2 ⟨n, bq_fits (by omega) hb⟩
        refine (Evl.et_test (b := decide ((0 : Int) < ((entries d).length : Int))) (Evl.ev_op lv Evl.ev_c (Evl.rv_I0 (g := fun i j => .bl (decide (j < i)))))) H1 (Ex.refl _) _ fun H2 e2 => ?_
        by_cases h0 : 0 < (entries d).length
        · rw [decide_eq_true (by omega), if_pos rfl]
          refine draw_run (n := m) (many := 4) rfl (hd.ex (e1.trans e2)) (by omega) Evl.ev_c (by decide) (by decide) fun r H3 r0 r1 hd3 e3 => ?_
          refine ⟨r, 0, rfl, rfl, _, rfl, ?_⟩
          have eA : ExB l H H3 := (ExB.of (e1.trans e2)).trans e3
          by_cases hr0 : (0 : Int) < r
          · rw [decide_eq_true hr0]
            exact q1 H3 ⟨hr2, h0, eA, hd3⟩
          · rw [decide_eq_false hr0]
            exact q2 H3 ⟨eA, hd3⟩
        · rw [decide_eq_false (by omega), if_neg Bool.false_ne_true]
          exact q2 H2 ⟨ExB.of (e1.trans e2), (hd.ex (e1.trans e2)).up (by omega)⟩
    · obtain ⟨hr2, h0, eA, hd1⟩ := hp
      obtain ⟨k1, rfl, hlen, hel⟩ := bq_row hb hr2
      have hL1 : Hid L H1 := eA.hid hd1.ne hL
      have hv1 := hvH eA
      have fw : ∃ n, fits n d := ⟨_, bq_fits (by omega) hb⟩
      refine draw_run (n := m + 1) (many := ((entries d).length : Int)) rfl hd1 (by omega) (ev_lenD (v1 _ _ _ H1) (hv1.up w_sub) hr2 fw) (by omega) (by omega) fun at1 H2 a0 a1 hd2 e2 => ?_
      refine draw_run (n := m + 2) (many := 6) rfl hd2 (by omega) Evl.ev_c (by decide) (by decide) fun way H3 w0 w1 hd3 e3 => ?_
      refine ⟨_, _, rfl, ?_⟩
      have eB := (eA.trans e2).trans e3
      have hL3 : Hid L H3 := (e2.trans e3).hid hd3.ne hL1
      have hv3 := hvH eB
      have hv3' : Dq K (W L H3) v (.list (entries d)) ∨ Dq K (W L H3) v (.tuple (entries d)) := by
        cases d with
        | list ds => exact .inl hv3
        | tuple ds => exact .inr hv3
        | _ => cases hr2
      refine q_asgGf (egq_list (v1 _ _ _ H3) hv3' hL3) fun t H4 ht e4 g4 => ?_
      have hd4 := hd3.ex e4
      have hL4 := hid_ex e4 hL3
      have lt : l ≠ t := fun q => hd3.ne (by rw [q]; exact ht)
      have eC : ExB l H H4 := eB.trans (ExB.of e4)
      have ht0 : H t = none := by
        cases hh : H t with
        | none => rfl
        | some o => exact absurd (eB t o (Ne.symm lt) hh) (by rw [ht]; simp)
      have fin : ∀ (qn : L2.St → Hp → Prop) (ds' : List PyData) (c : Nat) H', ExB l H H' → Dr (m + 3 + c) H' l → c ≤ 10 * (k1 + 1) → Gq K L H' t ds' → 0 < 2 → ds'.length ≤ b + 1 → (∀ x ∈ ds', bq (k1 + 1) (b + 1) x) → tRet (tCallD (spPickQ K) (tCons (tVar 0) (tCons (tLst (tCons (tVar 4) (tCons (tTupOf K (tVar 4)) tNil))) tNil))) { nx := qn, rt := Q } [some (.ref l), some v, some (.int at1), some (.int way), some (.ref t)] H' := by
        intro qn ds' c H' eD hdD hc gD _ hlD hbD
        have hLD : Hid L H' := eD.hid hdD.ne hL
        refine pickQ_run (n := m + 3 + c) (ds := [.list ds', .tuple ds']) rfl hdD (by omega) hl (by simp) (by simp) (evq_lst hLD (evqs_cons (evq_of (Evl.ev_var rfl) gD.dp) (evqs_cons (evq_tupD (Evl.ev_var rfl) (.inl gD.dp) hLD) evqs_nil)) (by simp)) fun v' d' H5 hm' e5 hd5 hv5 => ?_
        refine k v' d' H5 (eD.trans e5) (hd5.up (by omega)) hv5 ?_
        simp only [List.mem_cons, List.not_mem_nil, or_false] at hm'
        rcases hm' with rfl | rfl
        · exact ⟨hlD, hbD⟩
        · exact ⟨hlD, hbD⟩
      have up1 : ∀ x ∈ entries d, bq (k1 + 1) (b + 1) x := fun x hx => bq_up (by omega) (by omega) (hel x hx)
      have hat : at1.toNat < (entries d).length := by omega
      have e1 : ((at1.toNat : Nat) : Int) = at1 := by omega
      have ixn : ∀ xs : List V, xs.length = (entries d).length → ixN xs.length at1 = some at1.toNat := fun xs hx => by
        unfold ixN
        rw [if_pos (by omega), if_pos (by omega)]
      have ntL : t ∉ L := g4.1
      have par : ∀ H', Gq K L H' t (entries d) → ∃ xs y, H' t = some (.lst xs) ∧ xs.length = (entries d).length ∧ DqAll K (W (t :: L) H') xs (entries d) ∧ xs[at1.toNat]? = some y ∧ Dq K (W (t :: L) H') y ((entries d).getD at1.toNat .none) := fun H' g => by
        obtain ⟨_, xs, h1, h2⟩ := g
        obtain ⟨y, hy, dy⟩ := dqa_at h2 hat
        exact ⟨xs, y, h1, dqa_len h2, h2, hy, dy⟩
      have hin : (entries d).getD at1.toNat .none ∈ entries d := by
        rw [List.getD_eq_getElem?_getD, List.getElem?_eq_getElem hat]
        exact List.getElem_mem hat
      have vt : ∀ H', Evl.Ev (tVar 4) [some (.ref l), some v, some (.int at1), some (.int way), some (.ref t)] H' (.ref t) := fun H' => Evl.ev_var rfl
      have hLt : Hid (t :: L) H4 := fun a ha => by
        rcases List.mem_cons.mp ha with z | z
        · rw [z]
          exact g4.ne
        · exact hL4 a z
      have hl2 : l ∈ t :: L := List.mem_cons_of_mem _ hl
      refine Evl.s_if (b := decide (way = 0)) (Evl.et_is (Evl.et_test (Evl.ev_op (Evl.ev_var (v := .int way) rfl) Evl.ev_c (Evl.rv_eq rfl))) (by simp)) (fun z H5 e5 => ?_) (fun z H5 e5 => ?_)
      · -- pop
        have g5 := g4.up e5
        obtain ⟨xs, y, h1, hx, ha, hy, dy⟩ := par H5 g5
        obtain ⟨si, _⟩ := ixN_seq (ixn xs hx)
        refine ⟨_, rfl, Or.inl ⟨rfl, xs, SqL.of h1⟩, _, rfl, t, xs, at1, at1.toNat, y, rfl, rfl, h1, by omega, by omega, si, hy, ?_⟩
        refine fin _ ((entries d).eraseIdx at1.toNat) 0 _ (exB_mut (eC.trans (ExB.of e5)) ht0) (dr_upd ((hd4.ex e5).up (by omega)) lt) (by omega) (gq_put ntL ?_) (by decide) ?_ ?_
        · rw [List.eraseIdx_eq_take_drop_succ, List.eraseIdx_eq_take_drop_succ]
          exact dqa_app (dqa_take _ ha) (dqa_drop _ ha)
        · have := List.length_eraseIdx_le (entries d) at1.toNat
          omega
        · exact fun x hx => up1 x (List.mem_of_mem_eraseIdx hx)
      refine Evl.s_if (b := decide (way = 1)) (Evl.et_is (Evl.et_test (Evl.ev_op (Evl.ev_var (v := .int way) rfl) Evl.ev_c (Evl.rv_eq rfl))) (by simp)) (fun z H6 e6 => ?_) (fun z H6 e6 => ?_)
      · -- insert
        have g6 := (g4.up e5).up e6
        obtain ⟨xs, y, h1, hx, ha, hy, dy⟩ := par H6 g6
        refine ⟨_, rfl, Or.inl ⟨rfl, xs, SqL.of h1⟩, _, rfl, _, rfl, _, rfl, ⟨t, xs, at1, y, rfl, rfl, SqL.of h1, ?_, t, xs, at1, y, rfl, rfl, h1, ?_, by omega, by omega, ?_⟩⟩
        · show atI xs at1 = some y
          unfold atI
          rw [ixn xs hx]
          exact hy
        · exact Evl.sz_lt (by omega)
        · refine fin _ ((entries d).take at1.toNat ++ [(entries d).getD at1.toNat .none] ++ (entries d).drop at1.toNat) 0 _ (exB_mut ((eC.trans (ExB.of e5)).trans (ExB.of e6)) ht0) (dr_upd (((hd4.ex e5).ex e6).up (by omega)) lt) (by omega) (gq_put ntL ?_) (by decide) ?_ ?_
          · exact dqa_app (dqa_app (dqa_take _ ha) (.cons dy .nil)) (dqa_drop _ ha)
          · simp only [List.length_append, List.length_take, List.length_drop, List.length_singleton]
            omega
          · intro x hx
            simp only [List.mem_append, List.mem_singleton] at hx
            rcases hx with (hx | rfl) | hx
            · exact up1 x (List.mem_of_mem_take hx)
            · exact up1 _ hin
            · exact up1 x (List.mem_of_mem_drop hx)
      -- what is set anew
      have put : ∀ (qn : L2.St → Hp → Prop) (v' : V) (d' : PyData) (c : Nat) H', ExB l H4 H' → Dr (m + 3 + c) H' l → c ≤ 10 * (k1 + 1) → Dq K (W (t :: L) H') v' d' → bq (k1 + 1) (b + 1) d' → gSub (tVar 4) (tVar 2) rSetL v' [some (.ref l), some v, some (.int at1), some (.int way), some (.ref t)] H' (fun σ H'' => tRet (tCallD (spPickQ K) (tCons (tVar 0) (tCons (tLst (tCons (tVar 4) (tCons (tTupOf K (tVar 4)) tNil))) tNil))) { nx := qn, rt := Q } σ H'') := by
        intro qn v' d' c H' e' hd' hc hv' hb'
        have g' := gq_exB g4 e' hl
        obtain ⟨xs, y, h1, hx, ha, hy, dy⟩ := par H' g'
        refine ⟨_, rfl, _, rfl, t, xs, at1, at1.toNat, rfl, rfl, h1, ixn xs hx, ?_⟩
        refine fin qn ((entries d).set at1.toNat d') c _ (exB_mut (eC.trans e') ht0) (dr_upd hd' lt) hc (gq_put ntL (dqa_set hv' _ ha)) (by decide) ?_ ?_
        · rw [List.length_set]
          omega
        · intro x hx
          rcases List.mem_or_eq_of_mem_set hx with h | rfl
          · exact up1 x h
          · exact hb'
      have hLt6 := hid_ex (e5.trans e6) hLt
      have hd6 := (hd4.ex e5).ex e6
      refine Evl.s_if (b := decide (way = 2)) (Evl.et_is (Evl.et_test (Evl.ev_op (Evl.ev_var (v := .int way) rfl) Evl.ev_c (Evl.rv_eq rfl))) (by simp)) (fun z H7 e7 => ?_) (fun z H7 e7 => ?_)
      · have hLt7 := hid_ex e7 hLt6
        refine pickQ_run (n := m + 3) (L := t :: L) (ds := [.none, .bool true, .int 0, .str "half", .str "box", .tuple [], .tuple [.int 0, .int 1], .str "", .int (-3)]) rfl (hd6.ex e7) (by omega) hl2 (by simp) (by simp) (evq_lst hLt7 (evqs_cons evq_non (evqs_cons evq_bl (evqs_cons evq_int (evqs_cons evq_str (evqs_cons evq_str (evqs_cons (evq_tup hLt7 evqs_nil (by simp)) (evqs_cons (evq_tup hLt7 (evqs_cons evq_int (evqs_cons evq_int evqs_nil)) (by simp)) (evqs_cons evq_str (evqs_cons (evq_evI (ev_neg Evl.ev_c)) evqs_nil))))))))) (by simp)) fun v' d' H8 hm' e8 hd8 hv8 => ?_
        refine put _ v' d' 1 H8 ((ExB.of ((e5.trans e6).trans e7)).trans e8) hd8 (by omega) hv8 ?_
        simp only [List.mem_cons, List.not_mem_nil, or_false] at hm'
        rcases hm' with rfl | rfl | rfl | rfl | rfl | rfl | rfl | rfl | rfl
        all_goals first | trivial | exact Nat.zero_le _ | exact ⟨Nat.zero_le _, fun z hz => nomatch hz⟩ | skip
        · refine ⟨?_, fun z hz => ?_⟩
          · show 2 ≤ b + 1
            omega
          · simp only [List.mem_cons, List.not_mem_nil, or_false] at hz
            have q0 : (0 : Int).natAbs ≤ 65536 + (b + 1) := Nat.zero_le _
            have q1 : (1 : Int).natAbs ≤ 65536 + (b + 1) := by
              show 1 ≤ 65536 + (b + 1)
              omega
            rcases hz with rfl | rfl
            · cases k1 <;> exact q0
            · cases k1 <;> exact q1
        · show (-3 : Int).natAbs ≤ 65536 + (b + 1)
          omega
      · have g7 := (g4.up (e5.trans e6)).up e7
        obtain ⟨xs, y, h1, hx, ha, hy, dy⟩ := par H7 g7
        have hLt7 := hid_ex e7 hLt6
        refine ⟨_, rfl, _, rfl, _, rfl, ⟨t, xs, at1, y, rfl, rfl, SqL.of h1, ?_, ?_⟩⟩
        · show atI xs at1 = some y
          unfold atI
          rw [ixn xs hx]
          exact hy
        · refine ⟨l, y, (entries d).getD at1.toNat .none, b, m + 3, t :: L, rfl, hd6.ex e7, by omega, hl2, hLt7, dy, hel _ hin, hb2, fun v' d' H8 e8 hd8 hv8 hb8 => ?_⟩
          exact put _ v' d' (10 * (k1 + 1)) H8 ((ExB.of ((e5.trans e6).trans e7)).trans e8) hd8 (Nat.le_refl _) hv8 hb8
    · obtain ⟨eA, hd1⟩ := hp
      have hL1 : Hid L H1 := eA.hid hd1.ne hL
      have ret : ∀ (v' : V) (d' : PyData) H2, ExB l H1 H2 → Dr (m + 2) H2 l → Dq K (W L H2) v' d' → bq (n + 1) (b + 1) d' → Q v' H2 := fun v' d' H2 e2 hd2 hv2 hb' => k v' d' H2 (eA.trans e2) (hd2.up (by omega)) hv2 hb'
      refine Evl.q_when (b := isL d) (Evl.et_B (ev_isLq (v1 _ _ _ H1) ((hvH eA).up w_sub))) (fun z H2 e2 => ?_) (fun z H2 e2 => ?_)
      · cases d with
        | bool q =>
          cases hv
          refine pickQ_run (ds := [.int (if q then 1 else 0), .none, .bool (!q)]) rfl (hd1.ex e2) (by omega) hl (by simp) (by simp) (evq_lst (hid_ex e2 hL1) (evqs_cons (evq_evI (ev_int1 (Evl.ev_var rfl))) (evqs_cons evq_non (evqs_cons (evq_evB (Evl.ev_notV (Evl.ev_var rfl))) evqs_nil))) (by simp)) fun v' d' H3 hm' e3 hd3 hv3 => ?_
          refine ret v' d' H3 ((ExB.of e2).trans e3) hd3 hv3 ?_
          simp only [List.mem_cons, List.not_mem_nil, or_false] at hm'
          rcases hm' with rfl | rfl | rfl
          · show (if q then (1 : Int) else 0).natAbs ≤ 65536 + (b + 1)
            cases q <;> simp <;> omega
          · trivial
          · trivial
        | _ => cases z
      · refine Evl.q_when (b := isL d || isI d) (Evl.et_B (ev_isIq (v1 _ _ _ H2) (((hvH eA).up w_sub).up e2))) (fun z2 H3 e3 => ?_) (fun z2 H3 e3 => ?_)
        · cases d with
          | int i =>
            cases hv
            have hi : i.natAbs ≤ 65536 + b := by cases n <;> exact hb
            have eB := e2.trans e3
            have vi : ∀ H4, Evl.Ev (tVar 1) [some (.ref l), some (.int i), none, none, none] H4 (.int i) := fun H4 => Evl.ev_var rfl
            have hLB := hid_ex eB hL1
            refine pickQ_run (ds := [.int (i + 1), .none, .bool true, .str (toString i), .tuple [.int i], .int (-i)]) rfl (hd1.ex eB) (by omega) hl (by simp) (by simp) (evq_lst hLB (evqs_cons (evq_evI (Evl.ev_op (vi H3) Evl.ev_c (Evl.rv_I0 (g := fun i j => .int (i + j))))) (evqs_cons evq_non (evqs_cons evq_bl (evqs_cons (evq_of (fun H4 e4 Q q => vi H4 H4 (Ex.refl _) _ fun H5 e5 => ⟨i, rfl, log_small (by omega), q H5 e5⟩) (.str _)) (evqs_cons (evq_tup hLB (evqs_cons (evq_evI (vi H3)) evqs_nil) (by simp)) (evqs_cons (evq_evI (ev_neg (vi H3))) evqs_nil)))))) (by simp)) fun v' d' H4 hm' e4 hd4 hv4 => ?_
            refine ret v' d' H4 ((ExB.of eB).trans e4) hd4 hv4 ?_
            simp only [List.mem_cons, List.not_mem_nil, or_false] at hm'
            rcases hm' with rfl | rfl | rfl | rfl | rfl | rfl
            · show (i + 1).natAbs ≤ 65536 + (b + 1)
              omega
            · trivial
            · trivial
            · trivial
            · refine ⟨by show 1 ≤ b + 1; omega, fun z hz => ?_⟩
              rw [List.mem_singleton.mp hz]
              show bq n (b + 1) (.int i)
              cases n <;> exact Nat.le_trans hi (by omega)
            · show (-i).natAbs ≤ 65536 + (b + 1)
              omega
          | bool q => cases z
          | _ => cases z2
        · have eB := e2.trans e3
          have hLB := hid_ex eB hL1
          refine pickQ_run (ds := [.none, .int 0, .str "not", .str "both", .str "either", .str "first", .str "second", .str "rise", .str "flat", .str "turns", .list [], .dict []]) rfl (hd1.ex eB) (by omega) hl (by simp) (by simp) (evq_lst hLB (evqs_cons evq_non (evqs_cons evq_int (evqs_cons evq_str (evqs_cons evq_str (evqs_cons evq_str (evqs_cons evq_str (evqs_cons evq_str (evqs_cons evq_str (evqs_cons evq_str (evqs_cons evq_str (evqs_cons (evq_lst hLB evqs_nil (by simp)) (evqs_cons (evq_dnew hLB) evqs_nil)))))))))))) (by simp)) fun v' d' H4 hm' e4 hd4 hv4 => ?_
          refine ret v' d' H4 ((ExB.of eB).trans e4) hd4 hv4 ?_
          simp only [List.mem_cons, List.not_mem_nil, or_false] at hm'
          rcases hm' with rfl | rfl | rfl | rfl | rfl | rfl | rfl | rfl | rfl | rfl | rfl | rfl
          all_goals first | trivial | rfl | exact Nat.zero_le _ | exact ⟨Nat.zero_le _, fun z hz => nomatch hz⟩
end
end U

set_option Elab.async false
set_option linter.all false
set_option maxRecDepth 100000
set_option maxHeartbeats 4000000
/-! drawn data are small -/
namespace U
open PySem L2
theorem bq_int {n b : Nat} {i : Int} (h : i.natAbs ≤ 65536 + b) : bq n b (.int i) := by
  cases n <;> exact h
theorem bq_str {n b : Nat} {z : Str} : bq n b (.str z) := by
  cases n <;> trivial
theorem bq_bool {n b : Nat} {z : Bool} : bq n b (.bool z) := by
  cases n <;> trivial
theorem bq_oD {n b : Nat} {o : Option Int} (h : bO 5000 o) : bq n b (oD o) := by
  cases o with
  | none => cases n <;> trivial
  | some i =>
    have := h i rfl
    exact bq_int (by omega)
theorem bq_map {α : Type} {n b : Nat} {xs : List α} {f : α → PyData} (hl : xs.length ≤ b) (h : ∀ x ∈ xs, bq n b (f x)) : bq (n + 1) b (.tuple (xs.map f)) := ⟨by rw [List.length_map]; exact hl, fun z hz => by
  obtain ⟨x, hx, rfl⟩ := List.mem_map.mp hz
  exact h x hx⟩
theorem bq_two {n b : Nat} {z : Str} {d : PyData} (hb : 2 ≤ b) (h : bq n b d) : bq (n + 1) b (.tuple [.str z, d]) := ⟨hb, fun x hx => by
  simp only [List.mem_cons, List.not_mem_nil, or_false] at hx
  rcases hx with rfl | rfl
  · exact bq_str
  · exact h⟩
theorem bq_three {n b : Nat} {z : Str} {d e : PyData} (hb : 3 ≤ b) (h : bq n b d) (h2 : bq n b e) : bq (n + 1) b (.tuple [.str z, d, e]) := ⟨hb, fun x hx => by
  simp only [List.mem_cons, List.not_mem_nil, or_false] at hx
  rcases hx with rfl | rfl | rfl
  · exact bq_str
  · exact h
  · exact h2⟩
theorem bq_rl : ∀ (r : Rl) (n : Nat), bR r → depR r + 3 ≤ n → bq n 10 (rlD true r)
  | .half ws b, n, h, hn => by
    obtain ⟨m, rfl⟩ : ∃ m, n = m + 3 := ⟨n - 3, by omega⟩
    exact bq_three (by decide) (bq_map h.2.2 fun e he => bq_int (by have := h.1 e he; omega)) (bq_int (by have := h.2.1; omega))
  | .box rs, n, h, hn => by
    obtain ⟨m, rfl⟩ : ∃ m, n = m + 3 := ⟨n - 3, by have : 0 + 3 ≤ n := hn; omega⟩
    exact bq_two (by decide) (bq_map h.2 fun q hq => ⟨by show 2 ≤ 10; decide, fun x hx => by
      have e : x = oD q.1 ∨ x = oD q.2 := by simpa [rgD, sq] using hx
      rcases e with rfl | rfl
      · exact bq_oD (h.1 q hq).1
      · exact bq_oD (h.1 q hq).2⟩)
  | .rise cs, n, h, hn => by
    obtain ⟨m, rfl⟩ : ∃ m, n = m + 3 := ⟨n - 3, by have : 0 + 3 ≤ n := hn; omega⟩
    exact bq_two (by decide) (bq_map h.2 fun c hc => bq_map (h.1 c hc).2 fun o ho => bq_oD ((h.1 c hc).1 o ho))
  | .flat ps, n, h, hn => by
    obtain ⟨m, rfl⟩ : ∃ m, n = m + 3 := ⟨n - 3, by have : 0 + 3 ≤ n := hn; omega⟩
    exact bq_two (by decide) (bq_map h.2 fun c hc => bq_map (h.1 c hc).2 fun o ho => bq_int (by have := (h.1 c hc).1 o ho; omega))
  | .turns f cs, n, h, hn => by
    obtain ⟨m, rfl⟩ : ∃ m, n = m + 3 := ⟨n - 3, by have : 0 + 3 ≤ n := hn; omega⟩
    exact bq_three (by decide) bq_bool (bq_map h.2 fun o ho => bq_int (by have := h.1 o ho; omega))
  | .no r, n, h, hn => by
    have hn' : depR r + 1 + 3 ≤ n := hn
    obtain ⟨m, rfl⟩ : ∃ m, n = m + 1 := ⟨n - 1, by omega⟩
    exact bq_two (by decide) (bq_rl r m h (by omega))
  | .both r s, n, h, hn => by
    have hn' : max (depR r) (depR s) + 1 + 3 ≤ n := hn
    obtain ⟨m, rfl⟩ : ∃ m, n = m + 1 := ⟨n - 1, by omega⟩
    exact bq_three (by decide) (bq_rl r m h.1 (by omega)) (bq_rl s m h.2 (by omega))
  | .either r s, n, h, hn => by
    have hn' : max (depR r) (depR s) + 1 + 3 ≤ n := hn
    obtain ⟨m, rfl⟩ : ∃ m, n = m + 1 := ⟨n - 1, by omega⟩
    exact bq_three (by decide) (bq_rl r m h.1 (by omega)) (bq_rl s m h.2 (by omega))
  | .first r, n, h, hn => by
    have hn' : depR r + 1 + 3 ≤ n := hn
    obtain ⟨m, rfl⟩ : ∃ m, n = m + 1 := ⟨n - 1, by omega⟩
    exact bq_two (by decide) (bq_rl r m h (by omega))
  | .second r, n, h, hn => by
    have hn' : depR r + 1 + 3 ≤ n := hn
    obtain ⟨m, rfl⟩ : ∃ m, n = m + 1 := ⟨n - 1, by omega⟩
    exact bq_two (by decide) (bq_rl r m h (by omega))
theorem bq_kd : ∀ (k : Kd) (n : Nat) {p : Int}, okK p k → 1 ≤ p → p ≤ 3 → depK k + 1 ≤ n → bq n 10 (kdD k)
  | .halves q, n, p, h, p1, p3, hn => by
    obtain ⟨m, rfl⟩ : ∃ m, n = m + 1 := ⟨n - 1, by omega⟩
    have e : q = p := h
    exact bq_two (by decide) (bq_int (by omega))
  | .boxes q, n, p, h, p1, p3, hn => by
    obtain ⟨m, rfl⟩ : ∃ m, n = m + 1 := ⟨n - 1, by omega⟩
    have e : q = p := h
    exact bq_two (by decide) (bq_int (by omega))
  | .rising q, n, p, h, p1, p3, hn => by
    obtain ⟨m, rfl⟩ : ∃ m, n = m + 1 := ⟨n - 1, by omega⟩
    have e : q = p := h
    exact bq_two (by decide) (bq_int (by omega))
  | .flats q, n, p, h, p1, p3, hn => by
    obtain ⟨m, rfl⟩ : ∃ m, n = m + 1 := ⟨n - 1, by omega⟩
    have e : q = p := h
    exact bq_two (by decide) (bq_int (by omega))
  | .turns q, n, p, h, p1, p3, hn => by
    obtain ⟨m, rfl⟩ : ∃ m, n = m + 1 := ⟨n - 1, by omega⟩
    have e := h.2
    exact bq_two (by decide) (bq_int (by omega))
  | .no k, n, p, h, p1, p3, hn => by
    have hn' : depK k + 1 + 1 ≤ n := hn
    obtain ⟨m, rfl⟩ : ∃ m, n = m + 1 := ⟨n - 1, by omega⟩
    exact bq_two (by decide) (bq_kd k m h p1 p3 (by omega))
  | .both k l, n, p, h, p1, p3, hn => by
    have hn' : max (depK k) (depK l) + 1 + 1 ≤ n := hn
    obtain ⟨m, rfl⟩ : ∃ m, n = m + 1 := ⟨n - 1, by omega⟩
    exact bq_three (by decide) (bq_kd k m h.1 p1 p3 (by omega)) (bq_kd l m h.2 p1 p3 (by omega))
  | .either k l, n, p, h, p1, p3, hn => by
    have hn' : max (depK k) (depK l) + 1 + 1 ≤ n := hn
    obtain ⟨m, rfl⟩ : ∃ m, n = m + 1 := ⟨n - 1, by omega⟩
    exact bq_three (by decide) (bq_kd k m h.1 p1 p3 (by omega)) (bq_kd l m h.2 p1 p3 (by omega))
  | .any k l, n, p, h, p1, p3, hn => by
    have hn' : max (depK k) (depK l) + 1 + 1 ≤ n := hn
    obtain ⟨m, rfl⟩ : ∃ m, n = m + 1 := ⟨n - 1, by omega⟩
    exact bq_three (by decide) (bq_kd k m h.1 p1 p3 (by omega)) (bq_kd l m h.2 p1 p3 (by omega))
end U

set_option Elab.async false
set_option linter.all false
set_option maxRecDepth 100000
set_option maxHeartbeats 4000000
/-! the law's own look at a rule: its reading -/
namespace U
open PySem PySem.Spec PyProof.Rows L2
open Evl (Ex)
abbrev s_is_rule : Stmt := top 45
abbrev sc_is_rule_N : List Str := ["_law_spec_here", "_law_thing", "_law_heads", "_law_word", "_law_pairs", "_law_inner", "_law_part_here", "_law_one", "_law_two"]
theorem sc_is_rule : FnScope sc_is_rule_N ["_law_spec_here", "_law_thing"] (defScope s_is_rule) := ⟨rfl, rfl, rfl, by decide +kernel, rfl, by decide +kernel, by decide +kernel⟩
def spIsR (K : PySem.W.Frag) (n : Nat) : Sp := fun vs H Q _ => ∃ x v k d, vs = [x, v] ∧ Dp K H x (kdD k) ∧ depK k ≤ n ∧ Dq K H v d ∧ (∃ m, fits m d) ∧ ∀ H', Ex H H' → Q (.bl (hasK k d)) H'
def spIsRP (K : PySem.W.Frag) : Nat → Sp
  | 0 => fun _ _ _ _ => False
  | n + 1 => spIsR K n
section
variable {P : Program} {w : World} {K : PySem.W.Frag} {mg : Str → Option Value} {base : Heap}
def isT : PyData → Bool
  | .str _ => true
  | _ => false
abbrev HDs : List (L2.Key × V) := [(Sum.inr "halves", .str "half"), (Sum.inr "boxes", .str "box"), (Sum.inr "rising", .str "rise"), (Sum.inr "flats", .str "flat"), (Sum.inr "turns", .str "turns")]
abbrev tHD : TE := tDisp [(tC (.str "halves"), tC (.str "half")), (tC (.str "boxes"), tC (.str "box")), (tC (.str "rising"), tC (.str "rise")), (tC (.str "flats"), tC (.str "flat")), (tC (.str "turns"), tC (.str "turns"))]
abbrev tLenS (K : PySem.W.Frag) (te : TE) : TE := tCB (fun xs H Q => ∃ p ys, xs = [V.ref p] ∧ (SqL K H p ys ∨ SqT K H p ys) ∧ Q (.int ys.length) H) (tCons te tNil)
abbrev tRow (K : PySem.W.Frag) (te : TE) : TE := tCB (rIsiT K) (tCons te (tCons (tTup (tCons (tC (.ty "list")) (tCons (tC (.ty "tuple")) tNil))) tNil))
theorem ev_isT {σ : L2.St} {H : Hp} {te : TE} {v : V} {d : PyData} (h : Evl.Ev te σ H v) (hd : Dq K H v d) : Evl.Ev (tCB (rIsi K) (tCons te (tCons (tC (.ty "str")) tNil))) σ H (.bl (isT d)) := by
  cases d with
  | none => exact evq_isi h hd (show kitB "NoneType" "str" = some false by decide +kernel)
  | bool z => exact evq_isi h hd (show kitB "bool" "str" = some false by decide +kernel)
  | int z => exact evq_isi h hd (show kitB "int" "str" = some false by decide +kernel)
  | str z' => exact evq_isi h hd (show kitB "str" "str" = some true by decide +kernel)
  | list ds => exact evq_isi h hd (show kitB "list" "str" = some false by decide +kernel)
  | tuple ds => exact evq_isi h hd (show kitB "tuple" "str" = some false by decide +kernel)
  | dict z' => exact evq_isi h hd (show kitB "dict" "str" = some false by decide +kernel)
/-- a row with a text in front -/
def hd1 (d : PyData) : Bool := isR d && (decide (0 < (entries d).length) && isT (el d 0))
theorem isO_of {m : Int} {d : PyData} (h : isR d = true) : isO m d = decide (((entries d).length : Int) = m) := by
  cases d with
  | list ds => rfl
  | tuple ds => rfl
  | _ => cases h
theorem isF_hd {w : Str} {m : Int} {d : PyData} (hm : 1 ≤ m) (h : isF w m d = true) : hd1 d = true := by
  obtain ⟨h1, h2⟩ := Bool.and_eq_true_iff.mp h
  obtain ⟨r, l⟩ := isO_R h1
  have t : isT (el d 0) = true := by
    cases e : el d 0 <;> rw [e] at h2 <;> first | rfl | cases h2
  unfold hd1
  rw [r, t, decide_eq_true (by omega)]
  rfl
theorem hasK_hd {k : Kd} {d : PyData} (h : hasK k d = true) : hd1 d = true := by
  cases k with
  | halves p =>
    simp only [hasK, Bool.and_eq_true] at h
    exact isF_hd (by decide) h.1
  | boxes p =>
    simp only [hasK, Bool.and_eq_true] at h
    exact isF_hd (by decide) h.1.1
  | rising p =>
    simp only [hasK, Bool.and_eq_true] at h
    exact isF_hd (by decide) h.1.1
  | flats p =>
    simp only [hasK, Bool.and_eq_true] at h
    exact isF_hd (by decide) h.1.1
  | turns p =>
    simp only [hasK, Bool.and_eq_true] at h
    exact isF_hd (by decide) h.1.1.1.1.1
  | no k =>
    simp only [hasK, Bool.and_eq_true] at h
    exact isF_hd (by decide) h.1
  | both k m =>
    simp only [hasK, Bool.and_eq_true] at h
    exact isF_hd (by decide) h.1
  | either k m =>
    simp only [hasK, Bool.and_eq_true] at h
    exact isF_hd (by decide) h.1
  | any k m =>
    simp only [hasK, Bool.or_eq_true, Bool.and_eq_true] at h
    rcases h with h | h
    · exact isF_hd (by decide) h.1
    · exact isF_hd (by decide) h.1
theorem isF_of {w z : Str} {m : Int} {d : PyData} (h : isR d = true) (hz : el d 0 = .str z) : isF w m d = (decide (((entries d).length : Int) = m) && (z == w)) := by
  unfold isF
  rw [isO_of h, hz]
  rfl
theorem pre_run {H : Hp} {a0 : Addr} {xs0 : List V} {v : V} {d : PyData} {w : Str} {tz : TS} {D : Ends} (hs : SqT K H a0 xs0) (h0 : atI xs0 0 = some (.str w)) (hd : Dq K H v d) (hw : ∃ m, fits m d)
    (hf : hd1 d = false → ∀ H1, Ex H H1 → D.rt (.bl false) H1)
    (k : ∀ p z H1, Ex H H1 → H1 p = some (.dK HDs) → isR d = true → el d 0 = .str z → 0 < (entries d).length → tz D [some (.ref a0), some v, some (.ref p), some (.str w), none, none, none, none, none] H1) :
    tSeq (tAsg tHD (gName 2)) (tSeq (tAsg (tOp (rIxT K) (tVar 0) (tC (.int 0))) (gName 3)) (tSeq (tIfS (tOr (tNot (tB (tRow K (tVar 1)))) (tOr (tTest (tOp rEq (tLenS K (tVar 1)) (tC (.int 0)))) (tNot (tB (tCB (rIsi K) (tCons (tOp (rIxA K) (tVar 1) (tC (.int 0))) (tCons (tC (.ty "str")) tNil))))))) (tRet (tC (.bl false))) tNext) tz)) D [some (.ref a0), some v, none, none, none, none, none, none, none] H := by
  intro p hp
  refine ⟨upd_same, HDs, rfl, by decide, ?_⟩
  have e1 : Ex H (upd (upd H p (.dK [])) p (.dK HDs)) := fun a o h => by
    have ne : a ≠ p := ne_of_none h hp
    rw [upd_ne ne, upd_ne ne]
    exact h
  have hm : mergeK [] HDs = HDs := by decide
  rw [hm]
  refine Evl.q_asg (v := .str w) (Evl.ev_op (Evl.ev_var (v := .ref a0) rfl) Evl.ev_c (Evl.rv_ixT (Evl.ex_t e1 hs) h0)) fun H2 e2 => ?_
  have eA := e1.trans e2
  have hd2 := hd.up eA
  have v1 : ∀ H', Evl.Ev (tVar 1) [some (.ref a0), some v, some (.ref p), some (.str w), none, none, none, none, none] H' v := fun H' => Evl.ev_var rfl
  refine Evl.q_when (b := !isR d || (!decide (0 < (entries d).length) || !isT (el d 0))) (Evl.et_or (Evl.et_not (Evl.et_B (ev_isR2 (v1 H2) hd2))) fun z => ?_) (fun z H3 e3 => ?_) (fun z H3 e3 => ?_)
  · have r : isR d = true := by simpa using z
    refine Evl.et_or (Evl.et_is (Evl.et_test (Evl.ev_op (ev_lenD (v1 H2) hd2 r hw) Evl.ev_c (Evl.rv_eq rfl))) ?_) fun z2 => ?_
    · by_cases hl : 0 < (entries d).length
      · rw [decide_eq_true hl]
        simp
        intro q
        rw [q] at hl
        exact absurd hl (by decide)
      · have : (entries d).length = 0 := by omega
        rw [decide_eq_false hl, this]
        rfl
    · have hl : 0 < (entries d).length := by simpa using z2
      obtain ⟨y, ey, dy, wy⟩ := ev_at (n := 0) (v1 H2) hd2 r hw hl
      exact Evl.et_not (Evl.et_B (ev_isT ey dy))
  · refine Evl.s_ret (v := .bl false) Evl.ev_c fun H4 e4 => hf ?_ H4 ((eA.trans e3).trans e4)
    unfold hd1
    revert z
    cases isR d <;> cases decide (0 < (entries d).length) <;> cases isT (el d 0) <;> simp
  · have z' : isR d = true ∧ decide (0 < (entries d).length) = true ∧ isT (el d 0) = true := by
      revert z
      cases isR d <;> cases decide (0 < (entries d).length) <;> cases isT (el d 0) <;> simp
    obtain ⟨r, l, t⟩ := z'
    obtain ⟨zz, hz⟩ : ∃ zz, el d 0 = .str zz := by
      cases e : el d 0 with
      | str zz => exact ⟨zz, rfl⟩
      | _ => rw [e] at t; cases t
    exact k p zz H3 (eA.trans e3) (e3 _ _ (e2 _ _ upd_same)) r hz (of_decide_eq_true l)
theorem ev_spBpE {σ : L2.St} {H : Hp} {L : List Addr} {te tp : TE} {d : PyData} {f : Int → PyData → Bool} {p : Int} (h : EvQ K L te σ H d) (hp : ∀ H1, Evl.Ev tp σ H1 (.int p)) (hw : ∃ n, fits n d) : Evl.Ev (tCallD (spBp K f) (tCons te (tCons tp tNil))) σ H (.bl (f p d)) := fun H1 e Q q =>
  h H1 e _ fun v H2 e2 hv => hp H2 H2 (Ex.refl _) _ fun H3 e3 => ⟨v, d, p, rfl, (hv.up w_sub).up e3, hw, fun H4 e4 => q H4 ((e2.trans e3).trans e4)⟩
theorem fits_one {d : PyData} (h : ∃ n, fits n d) : ∃ n, fits n (.list [d]) := by
  obtain ⟨n, h⟩ := h
  exact ⟨n + 1, by show 1 ≤ 40000; decide, fun z hz => by rw [List.mem_singleton.mp hz]; exact h⟩
theorem ev_asc {σ : L2.St} {H : Hp} {te : TE} {a : Addr} {xs : List V} {ds : List PyData} {i1 i2 : Nat} {vs : List Nat} (h : Evl.Ev te σ H (.ref a)) (hx : SqL K H a xs ∨ SqT K H a xs) (ha : DqAll K H xs ds) (hl : ds.length ≤ 40000) (hi : ds.all isI = true) (hw : ∀ x y, wipe (((wipe σ vs).set i1 (some x)).set i2 (some y)) vs = wipe σ vs)
    (hv : ∀ x y, Evl.Ev (tOp (rI0 fun a b => V.bl (decide (a < b))) (tVar i1) (tVar i2)) (((wipe σ vs).set i1 (some (.int x))).set i2 (some (.int y))) H (.bl (decide (x < y)))) :
    Evl.Ev (tCB (rAll K) (tCons (tLc (RZ.iZipA K (tCons te (tCons (tSl (rSlS K) te (tPart (tC (V.int 1))) tNoPart) tNil))) (gTup K 2 (gCons (gName i1) (gCons (gName i2) gNil))) tYes (tOp (rI0 fun a b => V.bl (decide (a < b))) (tVar i1) (tVar i2)) vs) tNil)) σ H (.bl (ascD ds)) := by
  have hlen := dqa_len ha
  have isint : ∀ (i : Nat) (y : V), xs[i]? = some y → y = .int (valI (ds.getD i .none)) := fun i y hy => by
    obtain ⟨e, he, hq⟩ := dqa_get ha hy
    have q := List.all_eq_true.mp hi e (List.mem_of_getElem? he)
    have e2 : ds.getD i .none = e := by rw [List.getD_eq_getElem?_getD, he]; rfl
    rw [e2]
    cases e with
    | int j =>
      cases hq
      rfl
    | _ => cases q
  refine Evl.ev_is (ev_all (bs := (List.range (xs.length - 1)).map fun i => decide (valI (ds.getD i .none) < valI (ds.getD (i + 1) .none))) ?_) (congrArg V.bl ?_)
  · rw [List.map_map]
    refine el_zip1 (ez_tail h hx) (by rw [hlen]; exact hl) hw fun i x y H4 e4 h1 h2 => ?_
    have e5 := isint i x h1
    have e6 := isint (i + 1) y h2
    subst e5
    subst e6
    exact ev_up (hv _ _) e4
  · rw [hlen, asc_all]
theorem inv2 {z : Str} : inV (.str z) [.str "first", .str "second"] = (decide (z = "first") || decide (z = "second")) := by
  by_cases h1 : z = "first"
  · subst h1
    decide
  · by_cases h2 : z = "second"
    · subst h2
      decide
    · rw [decide_eq_false h1, decide_eq_false h2]
      have n1 : (("first" : Str) == z) = false := beq_eq_false_iff_ne.mpr (Ne.symm h1)
      have n2 : (("second" : Str) == z) = false := beq_eq_false_iff_ne.mpr (Ne.symm h2)
      simp [inV, eqV, n1, n2]
theorem sl_tail {σ : L2.St} {H : Hp} {te : TE} {a : Addr} {xs : List V} {Q : VK} (h : Evl.Ev te σ H (.ref a)) (hx : SqL K H a xs ∨ SqT K H a xs) (q : ∀ b H2, Ex H H2 → (SqL K H2 b (xs.drop 1) ∨ SqT K H2 b (xs.drop 1)) → Q (.ref b) H2) : tSl (rSlS K) te (tPart (tC (.int 1))) tNoPart σ H Q :=
  h H (Ex.refl _) _ fun H3 eA => by
    show ∃ i, _ ∧ _
    refine ⟨1, rfl, ?_⟩
    show rSlS K (.ref a) (some 1) none H3 _
    rcases hx with hx | hx
    · exact .inl ⟨a, xs, rfl, Evl.ex_l eA hx, fun p hp => q p _ (eA.trans (Ex.new hp)) (.inl (SqL.of (by rw [upd_same, cut_1])))⟩
    · refine .inr ⟨a, xs, rfl, Evl.ex_t eA hx, fun hw => ?_, fun _ p hp => q p _ (eA.trans (Ex.new hp)) (.inr (SqT.of (by rw [upd_same, cut_1])))⟩
      have e0 : xs = [] := by
        cases xs with
        | nil => rfl
        | cons x us =>
          have e1 : HT.sIx (x :: us).length 0 (some ((1 : Nat) : Int)) = 1 := by
            rw [HT.sIx_nat, List.length_cons]
            omega
          exact absurd (e1.symm.trans hw.1) (by decide)
      subst e0
      exact q a H3 eA (.inr (Evl.ex_t eA hx))
theorem kids_rule {H : Hp} {a0 p1 : Addr} {x0 : V} {us : List V} {v : V} {d : PyData} {w : Str} {kids : List Kd} {m : Nat} {D : Ends} (hs : SqT K H a0 (x0 :: us)) (ha : DpAll K H us (kids.map kdD)) (h0 : 0 < us.length) (h2 : us.length ≤ 2) (hdep : ∀ k ∈ kids, depK k ≤ m) (hd : Dq K H v d) (hw : ∃ n, fits n d) (hr : isR d = true) (hl : (entries d).length = kids.length + 1)
    (k : ∀ H', Ex H H' → D.rt (.bl (((List.range kids.length).map fun i => hasK (kids.getD i (.halves 0)) (el d (i + 1))).all id)) H') :
    tSeq (tAsg (tZipL K (tSl (rSlT K) (tVar 0) (tPart (tC (V.int 1))) tNoPart) (tSl (rSlS K) (tVar 1) (tPart (tC (V.int 1))) tNoPart)) (gName 4)) (tRet (tCB (rAll K) (tCons (tLc (iSeq K (tVar 4)) (gTup K 2 (gCons (gName 5) (gCons (gName 6) gNil))) tYes (tCallD (spIsRP K (m + 1)) (tCons (tVar 5) (tCons (tVar 6) tNil))) [5, 6]) tNil))) D [some (.ref a0), some v, some (.ref p1), some (.str w), none, none, none, none, none] H := by
  obtain ⟨a, ys, rfl, hx, hy, hz, hf⟩ := seq_of hd hr hw
  have lu : us.length = kids.length := by
    rw [dpa_len ha, List.length_map]
  have ly : ys.length = kids.length + 1 := (dqa_len hy).trans hl
  refine ⟨_, rfl, 1, rfl, a0, x0 :: us, rfl, hs, fun q => ?_, fun q hq => ?_⟩
  · have e1 : HT.sIx (x0 :: us).length 0 (some ((1 : Nat) : Int)) = 1 := by
      rw [HT.sIx_nat, List.length_cons]
      omega
    exact absurd (e1.symm.trans q.1) (by decide)
  have e1 : Ex H (upd H q (.tup (cutV (x0 :: us) (some 1) none))) := Ex.new hq
  refine sl_tail (Evl.ev_var (v := .ref a) rfl) (hx.elim (fun h => .inl (Evl.ex_l e1 h)) fun h => .inr (Evl.ex_t e1 h)) fun b H2 e2 hb => ?_
  refine ⟨q, b, us, ys.drop 1, rfl, rfl, .inr (Evl.ex_t e2 (SqT.of (by rw [upd_same, cut_1]; rfl))), hb, by omega, fun pl H3 ps _ e3 hps hlen hpr => ?_⟩
  have eA := (e1.trans e2).trans e3
  have lp : ps.length = kids.length := by
    rw [hlen, List.length_drop]
    omega
  refine (show tRet (tCB (rAll K) (tCons (tLc (iSeq K (tVar 4)) (gTup K 2 (gCons (gName 5) (gCons (gName 6) gNil))) tYes (tCallD (spIsRP K (m + 1)) (tCons (tVar 5) (tCons (tVar 6) tNil))) [5, 6]) tNil)) D [some (.ref a0), some (.ref a), some (.ref p1), some (.str w), some (.ref pl), none, none, none, none] H3 from ?_)
  refine Evl.s_ret (v := .bl (((List.range kids.length).map fun i => hasK (kids.getD i (.halves 0)) (el d (i + 1))).all id)) (ev_all (bs := (List.range kids.length).map fun i => hasK (kids.getD i (.halves 0)) (el d (i + 1))) ?_) fun H4 e4 => k H4 (eA.trans e4)
  rw [← lp]
  refine el_prB (xs := us) (ys := ys.drop 1) (Evl.ev_var rfl) hps (by omega) hpr (fun _ _ => rfl) fun i x y H4 hi e4 h1 h2 => ?_
  have eB := eA.trans e4
  have hik : i < kids.length := by omega
  obtain ⟨dk, hk1, hk2⟩ := dpa_get ha h1
  have ek : dk = kdD (kids.getD i (.halves 0)) := by
    rw [List.getElem?_map] at hk1
    rw [List.getD_eq_getElem?_getD, List.getElem?_eq_getElem hik]
    rw [List.getElem?_eq_getElem hik] at hk1
    simp only [Option.map_some, Option.some.injEq] at hk1
    exact hk1.symm
  subst ek
  have h2' : ys[i + 1]? = some y := by
    rw [← h2, List.getElem?_drop, Nat.add_comm]
  obtain ⟨de, he1, he2⟩ := dqa_get hy h2'
  have ee : de = el d (i + 1) := by
    show de = (entries d).getD (i + 1) .none
    rw [List.getD_eq_getElem?_getD, he1]
    rfl
  subst ee
  have hm : depK (kids.getD i (.halves 0)) ≤ m := by
    rw [List.getD_eq_getElem?_getD, List.getElem?_eq_getElem hik]
    exact hdep _ (List.getElem_mem hik)
  exact ev_callD (Evl.ea_cons (Evl.ev_var rfl) (Evl.ea_cons (Evl.ev_var rfl) Evl.ea_nil)) fun H5 e5 Q5 q5 => ⟨x, y, _, _, rfl, hk2.up (eB.trans e5), hm, he2.up (eB.trans e5), hf _ (List.mem_of_getElem? he1), q5⟩
theorem is_rule_body {f : Addr} {fd : FuncData} (F : Fun K "_law_is_rule" "_law_is_rule" s_is_rule f fd) (T : TxQ mg) (Z : ZipRule mg) (n : Nat) (D_Lis_row : DefAt P w K mg base "_law_is_row" 1 ["_law_thing", "_law_many"] (spBp K isP)) (D_is_ends : DefAt P w K mg base "_law_is_ends" 2 ["_law_thing", "_law_many"] (spBp K fun p d => isR d && allD (isB p) d))
    (D_is_rule : DefAt P w K mg base "_law_is_rule" (n + 3) ["_law_spec_here", "_law_thing"] (spIsRP K n)) : FnOk P w K mg base CX0 (n + 4) f fd ["_law_spec_here", "_law_thing"] (spIsR K n) := by
  refine F.ok sc_is_rule (fun vs H Q E h => ?_) (fun cdv A outer s H vs Q E hr h => ?_)
  · obtain ⟨_, _, _, _, rfl, _⟩ := h
    rfl
  · obtain ⟨x, v, k, d, rfl, hk, hn, hd, hw, kk⟩ := h
    refine ⟨_, (pss_cons (ps_set (i := 2) sc_is_rule.nd rfl (by first | exact Or.inl rfl | exact Or.inr rfl) (pe_disp (pps_cons pe_str pe_str (pps_cons pe_str pe_str (pps_cons pe_str pe_str (pps_cons pe_str pe_str (pps_cons pe_str pe_str pps_nil))))) rfl rfl (by simp) (by decide)))
    (pss_cons (ps_set (i := 3) sc_is_rule.nd rfl (by first | exact Or.inl rfl | exact Or.inr rfl) (pe_ix ix_tup (pv 0) pe_int (fun _ _ => rfl)))
    (pss_cons (ps_if (PW.pt (pw_or (pt_not (pt_val (pe_callB call_isiT (by rfl) T.m_isinstance (by decide +kernel) (pa_cons (pv 1) (pa_cons (pe_tup (pa_cons (pe_bltn (v := .ty "list") (by rfl) T.m_list (by decide +kernel) rfl) (pa_cons (pe_bltn (v := .ty "tuple") (by rfl) T.m_tuple (by decide +kernel) rfl) pa_nil))) pa_nil))))) (pw_or (pt_cmpR op_eq (pe_callB call_len_seq (by rfl) T.m_len (by decide +kernel) (pa_cons (pv 1) pa_nil)) pe_int (nomark _)) (pw_or1 (pt_not (pt_val (pe_callB call_isi (by rfl) T.m_isinstance (by decide +kernel) (pa_cons (pe_ix ix_seq (pv 1) pe_int (fun _ _ => rfl)) (pa_cons (pe_bltn (v := .ty "str") (by rfl) T.m_str (by decide +kernel) rfl) pa_nil))))))))) (pss_one (ps_ret pe_bl)) pss_nil)
    (pss_cons (ps_if (pt_cmpR op_in_seq (pv 3) (pe_tup (pa_cons pe_str (pa_cons pe_str (pa_cons pe_str pa_nil)))) (by rfl)) (pss_cons (ps_if (PW.pt (pw_or (pt_cmpR op_ne (pe_ix ix_seq (pv 1) pe_int (fun _ _ => rfl)) (pv 3) (nomark _)) (pw_or1 (pt_cmpR op_ne (pe_callB call_len_seq (by rfl) T.m_len (by decide +kernel) (pa_cons (pv 1) pa_nil)) (pe_callB call_len_seq (by rfl) T.m_len (by decide +kernel) (pa_cons (pv 0) pa_nil)) (nomark _))))) (pss_one (ps_ret pe_bl)) pss_nil)
      (pss_cons (ps_set (i := 4) sc_is_rule.nd rfl (by first | exact Or.inl rfl | exact Or.inr rfl) (Z _ _ _ _ _ _ _ _ _ rfl rfl (hr.mono (by omega)) T.m_list T.m_zip (by rfl) (by rfl) (pe_slice sl_tup (pv 0) (po_some pe_int) po_none) (pe_slice sl_seq (pv 1) (po_some pe_int) po_none) rfl rfl rfl))
      (pss_one (ps_ret (pe_callB (cr_all rfl) (by rfl) T.m_all (by decide +kernel) (pa_cons (pe_lc (own := [("_law_inner", 5), ("_law_part_here", 6)]) (g := gTup K 2 (gCons (gName 5) (gCons (gName 6) (gNil)))) (tt := tYes) (te := tCallD (spIsRP K n) (tCons (tVar 5) (tCons (tVar 6) tNil))) (by rfl) sc_is_rule.nd (pi_seq (pv 4)) (blkOk_by (N := sc_is_rule_N) (sc := defScope s_is_rule) (by decide +kernel)) (fun _ _ _ _ _ => (pg_tup (by rfl) (pgs_cons (pg_name (i := 5) sc_is_rule.nd rfl (by first | exact Or.inl rfl | exact Or.inr rfl)) (pgs_cons (pg_name (i := 6) sc_is_rule.nd rfl (by first | exact Or.inl rfl | exact Or.inr rfl)) pgs_nil)))) (fun _ _ _ _ _ => pts_nil) (fun _ _ _ _ _ => (pe_callD D_is_rule (by first | exact hr | exact hr.mono (by decide) | exact hr.mono (by omega)) (by rfl) (pa_cons (pv 5) (pa_cons (pv 6) pa_nil))))) pa_nil)))))) pss_nil)
    (pss_cons (ps_if (pt_cmpR op_eq (pv 3) pe_str (nomark _)) (pss_cons (ps_if (PW.pt (pw_or (pt_cmpR op_ne (pe_callB call_len_seq (by rfl) T.m_len (by decide +kernel) (pa_cons (pv 1) pa_nil)) pe_int (nomark _)) (pw_or1 (pt_cmpR op_notIn_seq (pe_ix ix_seq (pv 1) pe_int (fun _ _ => rfl)) (pe_tup (pa_cons pe_str (pa_cons pe_str pa_nil))) (by rfl))))) (pss_one (ps_ret pe_bl)) pss_nil)
      (pss_one (ps_ret (pe_callD D_is_rule (by first | exact hr | exact hr.mono (by decide) | exact hr.mono (by omega)) (by rfl) (pa_cons (pe_ix ix_tup (pv 0) (pe_op op_add pe_int (pe_callTy call_int1 (by rfl) T.m_int (by decide +kernel) (pa_cons (pe_cmpR op_eq (pe_ix ix_seq (pv 1) pe_int (fun _ _ => rfl)) pe_str (nomark _)) pa_nil))) (fun _ _ => rfl)) (pa_cons (pe_ix ix_seq (pv 1) pe_int (fun _ _ => rfl)) pa_nil)))))) pss_nil)
    (pss_cons (ps_if (PW.pt (pw_or (pt_cmpR op_ne (pe_ix ix_seq (pv 1) pe_int (fun _ _ => rfl)) (pe_dget (Nat.lt_of_le_of_lt (Nat.add_le_add_left (by decide : 1 ≤ 64) _) hr.units) (pv 2) (pv 3) (fun _ _ => rfl)) (nomark _)) (pw_or1 (pt_cmpR op_ne (pe_callB call_len_seq (by rfl) T.m_len (by decide +kernel) (pa_cons (pv 1) pa_nil)) (pe_op op_add pe_int (pe_callTy call_int1 (by rfl) T.m_int (by decide +kernel) (pa_cons (pe_cmpR op_in_seq (pv 3) (pe_tup (pa_cons pe_str (pa_cons pe_str pa_nil))) (by rfl)) pa_nil))) (nomark _))))) (pss_one (ps_ret pe_bl)) pss_nil)
    (pss_cons (ps_if (pt_cmpR op_eq (pv 3) pe_str (nomark _)) (pss_one (ps_ret (pe_and (pe_callD D_Lis_row (by first | exact hr | exact hr.mono (by decide) | exact hr.mono (by omega)) (by rfl) (pa_cons (pe_ix ix_seq (pv 1) pe_int (fun _ _ => rfl)) (pa_cons (pe_ix ix_tup (pv 0) pe_int (fun _ _ => rfl)) pa_nil))) (pe_one (pe_callD D_Lis_row (by first | exact hr | exact hr.mono (by decide) | exact hr.mono (by omega)) (by rfl) (pa_cons (pe_lst (pa_cons (pe_ix ix_seq (pv 1) pe_int (fun _ _ => rfl)) pa_nil)) (pa_cons pe_int pa_nil))))))) pss_nil)
    (pss_cons (ps_if (pt_cmpR op_eq (pv 3) pe_str (nomark _)) (pss_one (ps_ret (pe_and (pe_callD D_is_ends (by first | exact hr | exact hr.mono (by decide) | exact hr.mono (by omega)) (by rfl) (pa_cons (pe_ix ix_seq (pv 1) pe_int (fun _ _ => rfl)) (pa_cons pe_int pa_nil))) (pe_one (pe_cmpR op_eq (pe_callB call_len_seq (by rfl) T.m_len (by decide +kernel) (pa_cons (pe_ix ix_seq (pv 1) pe_int (fun _ _ => rfl)) pa_nil)) (pe_ix ix_tup (pv 0) pe_int (fun _ _ => rfl)) (nomark _)))))) pss_nil)
    (pss_cons (ps_if (pt_cmpR op_eq (pv 3) pe_str (nomark _)) (pss_one (ps_ret (pe_callD D_is_ends (by first | exact hr | exact hr.mono (by decide) | exact hr.mono (by omega)) (by rfl) (pa_cons (pe_ix ix_seq (pv 1) pe_int (fun _ _ => rfl)) (pa_cons (pe_ix ix_tup (pv 0) pe_int (fun _ _ => rfl)) pa_nil))))) pss_nil)
    (pss_cons (ps_if (pt_cmpR op_eq (pv 3) pe_str (nomark _)) (pss_one (ps_ret (pe_and (pe_callB call_isiT (by rfl) T.m_isinstance (by decide +kernel) (pa_cons (pe_ix ix_seq (pv 1) pe_int (fun _ _ => rfl)) (pa_cons (pe_tup (pa_cons (pe_bltn (v := .ty "list") (by rfl) T.m_list (by decide +kernel) rfl) (pa_cons (pe_bltn (v := .ty "tuple") (by rfl) T.m_tuple (by decide +kernel) rfl) pa_nil))) pa_nil))) (pe_one (pe_callB (cr_all rfl) (by rfl) T.m_all (by decide +kernel) (pa_cons (pe_lc (own := [("_law_one", 7)]) (g := gName 7) (tt := tYes) (te := tCallD (spBp K isP) (tCons (tVar 7) (tCons (tOp (rIxT K) (tVar 0) (tC (.int 1))) tNil))) (by rfl) sc_is_rule.nd (pi_seq (pe_ix ix_seq (pv 1) pe_int (fun _ _ => rfl))) (blkOk_by (N := sc_is_rule_N) (sc := defScope s_is_rule) (by decide +kernel)) (fun _ _ _ _ _ => (pg_name (i := 7) sc_is_rule.nd rfl (by first | exact Or.inl rfl | exact Or.inr rfl))) (fun _ _ _ _ _ => pts_nil) (fun _ _ _ _ _ => (pe_callD D_Lis_row (by first | exact hr | exact hr.mono (by decide) | exact hr.mono (by omega)) (by rfl) (pa_cons (pv 7) (pa_cons (pe_ix ix_tup (pv 0) pe_int (fun _ _ => rfl)) pa_nil))))) pa_nil)))))) pss_nil)
    (pss_cons (ps_if (PW.pt (pw_or (pt_not (pt_val (pe_callB call_isi (by rfl) T.m_isinstance (by decide +kernel) (pa_cons (pe_ix ix_seq (pv 1) pe_int (fun _ _ => rfl)) (pa_cons (pe_bltn (v := .ty "bool") (by rfl) T.m_bool (by decide +kernel) rfl) pa_nil))))) (pw_or (pt_not (pt_val (pe_callB call_isiT (by rfl) T.m_isinstance (by decide +kernel) (pa_cons (pe_ix ix_seq (pv 1) pe_int (fun _ _ => rfl)) (pa_cons (pe_tup (pa_cons (pe_bltn (v := .ty "list") (by rfl) T.m_list (by decide +kernel) rfl) (pa_cons (pe_bltn (v := .ty "tuple") (by rfl) T.m_tuple (by decide +kernel) rfl) pa_nil))) pa_nil))))) (pw_or1 (pt_cmpR op_gt (pe_callB call_len_seq (by rfl) T.m_len (by decide +kernel) (pa_cons (pe_ix ix_seq (pv 1) pe_int (fun _ _ => rfl)) pa_nil)) (pe_ix ix_tup (pv 0) pe_int (fun _ _ => rfl)) (nomark _)))))) (pss_one (ps_ret pe_bl)) pss_nil)
    (pss_one (ps_ret (pe_and (pe_callD D_Lis_row (by first | exact hr | exact hr.mono (by decide) | exact hr.mono (by omega)) (by rfl) (pa_cons (pe_ix ix_seq (pv 1) pe_int (fun _ _ => rfl)) (pa_cons (pe_callB call_len_seq (by rfl) T.m_len (by decide +kernel) (pa_cons (pe_ix ix_seq (pv 1) pe_int (fun _ _ => rfl)) pa_nil)) pa_nil))) (pe_one (pe_callB (cr_all rfl) (by rfl) T.m_all (by decide +kernel) (pa_cons (pe_lc (own := [("_law_one", 7), ("_law_two", 8)]) (g := gTup K 2 (gCons (gName 7) (gCons (gName 8) (gNil)))) (tt := tYes) (te := tOp (rI0 (fun a b => .bl (decide (a < b)))) (tVar 7) (tVar 8)) (by rfl) sc_is_rule.nd (RZ.pi_zipA (by rfl) T.m_zip (pa_cons (pe_ix ix_seq (pv 1) pe_int (fun _ _ => rfl)) (pa_cons (pe_slice sl_seq (pe_ix ix_seq (pv 1) pe_int (fun _ _ => rfl)) (po_some pe_int) po_none) pa_nil))) (blkOk_by (N := sc_is_rule_N) (sc := defScope s_is_rule) (by decide +kernel)) (fun _ _ _ _ _ => (pg_tup (by rfl) (pgs_cons (pg_name (i := 7) sc_is_rule.nd rfl (by first | exact Or.inl rfl | exact Or.inr rfl)) (pgs_cons (pg_name (i := 8) sc_is_rule.nd rfl (by first | exact Or.inl rfl | exact Or.inr rfl)) pgs_nil)))) (fun _ _ _ _ _ => pts_nil) (fun _ _ _ _ _ => (pe_cmpR op_lt (pv 7) (pv 8) (nomark _)))) pa_nil))))))))))))))))), ?_⟩
    have bad : ∀ (k : Kd) (z : hd1 d = false) H1, Ex H H1 → (∀ H', Ex H H' → Q (.bl (hasK k d)) H') → Q (.bl false) H1 := fun k z H1 e1 kk => by
      have q : hasK k d = false := by
        cases h : hasK k d with
        | false => rfl
        | true => rw [hasK_hd h] at z; cases z
      rw [← q]
      exact kk H1 e1
    cases k with
    | halves p =>
      cases hk with
      | @tup a0 xs0 _ hs ha =>
        cases ha with
        | @cons c0 _ _ _ r0 q0 =>
          cases r0
          cases q0 with
          | @cons c1 _ _ _ r1 q0 =>
            cases q0
            cases r1
            refine pre_run (w := "halves") hs rfl hd hw (fun z H1 e1 => bad (.halves p) z H1 e1 kk) fun p1 z H1 e1 hp r hz hl => ?_
            refine Evl.q_when (b := false) (Evl.et_is (Evl.et_test (Evl.ev_inU (Evl.ev_var (v := .str "halves") rfl) (Evl.eu_tup (Evl.ea_cons Evl.ev_c (Evl.ea_cons Evl.ev_c (Evl.ea_cons Evl.ev_c Evl.ea_nil))) (by show 3 ≤ 100000; omega)) rfl rfl)) (by decide)) (fun z => nomatch z) (fun _ H2 e2 => ?_)
            refine Evl.q_when (b := false) (Evl.et_is (Evl.et_test (Evl.ev_op (Evl.ev_var (v := .str "halves") rfl) Evl.ev_c (Evl.rv_eq rfl))) (by decide)) (fun z => nomatch z) (fun _ H3 e3 => ?_)
            have eA := (e1.trans e2).trans e3
            have v1 : ∀ H', Evl.Ev (tVar 1) [some (.ref a0), some v, some (.ref p1), some (.str "halves"), none, none, none, none, none] H' v := fun H' => Evl.ev_var rfl
            have v0 : ∀ H', Ex H H' → Evl.Ev (tOp (rIxT K) (tVar 0) (tC (.int 1))) [some (.ref a0), some v, some (.ref p1), some (.str "halves"), none, none, none, none, none] H' (.int p) := fun H' e => Evl.ev_op (Evl.ev_var (v := .ref a0) rfl) Evl.ev_c (Evl.rv_ixT (Evl.ex_t e hs) rfl)
            have hg : Evl.Ev (tDGet (tVar 2) (tVar 3)) [some (.ref a0), some v, some (.ref p1), some (.str "halves"), none, none, none, none, none] H3 (.str "half") := fun H4 e4 Q q => ⟨_, rfl, _, rfl, p1, .str "half", rfl, DGet.k (k := Sum.inr "halves") (kvs := HDs) (e4 _ _ (e3 _ _ (e2 _ _ hp))), q H4 (Ex.refl _)⟩
            obtain ⟨y, ey, dy, _⟩ := ev_at (n := 0) (v1 H3) (hd.up eA) r hw hl
            rw [hz] at dy
            cases dy
            refine Evl.q_when (b := !decide (V.str z = V.str "half") || !decide (((entries d).length : Int) = 3)) (Evl.et_or (Evl.et_test (Evl.ev_op ey hg (Evl.rv_ne rfl))) fun _ => Evl.et_is (Evl.et_test (Evl.ev_op (ev_lenD (v1 H3) (hd.up eA) r hw) (Evl.ev_op Evl.ev_c (ev_int1 (b := true) (Evl.ev_is (Evl.ev_inU (Evl.ev_var (v := .str "halves") rfl) (Evl.eu_tup (Evl.ea_cons Evl.ev_c (Evl.ea_cons Evl.ev_c Evl.ea_nil)) (by show 2 ≤ 100000; omega)) rfl rfl) (by decide))) (Evl.rv_I0 (g := fun i j => .int (i + j)))) (Evl.rv_ne rfl))) (by simp)) (fun q H4 e4 => ?_) (fun q H4 e4 => ?_)
            · refine Evl.s_ret (v := .bl (hasK (.halves p) d)) (Evl.ev_is Evl.ev_c (congrArg V.bl ?_)) fun H5 e5 => kk H5 ((eA.trans e4).trans e5)
              have f0 : isF "half" 3 d = false := by
                rw [isF_of r hz]
                rcases Bool.or_eq_true_iff.mp q with q | q
                · have : ¬ z = ("half" : Str) := fun e => by simp [e] at q
                  simp [this]
                · have q2 := of_decide_eq_false ((Bool.not_eq_true' _).mp q)
                  simp [q2]
              simp [hasK, f0]
            have q' : V.str z = V.str "half" ∧ ((entries d).length : Int) = 3 := by
              rcases Bool.or_eq_false_iff.mp q with ⟨q1, q2⟩
              exact ⟨of_decide_eq_true (by simpa using q1), of_decide_eq_true (by simpa using q2)⟩
            obtain ⟨qz, ql⟩ := q'
            cases qz
            have f1 : isF "half" 3 d = true := by
              rw [isF_of r hz]
              simp [ql]
            refine Evl.q_when (b := true) (Evl.et_is (Evl.et_test (Evl.ev_op (Evl.ev_var (v := .str "halves") rfl) Evl.ev_c (Evl.rv_eq rfl))) (by decide)) (fun _ H5 e5 => ?_) (fun z => nomatch z)
            have eB := (eA.trans e4).trans e5
            have hdB := hd.up eB
            obtain ⟨y1, ey1, dy1, wy1⟩ := ev_at (n := 1) (v1 H5) hdB r hw (by omega)
            obtain ⟨y2, ey2, dy2, wy2⟩ := ev_at (n := 2) (v1 H5) hdB r hw (by omega)
            refine Evl.s_ret (v := .bl (hasK (.halves p) d)) (Evl.ev_is (Evl.ev_andV (a := isP p (el d 1)) (b := isP 1 (.list [el d 2])) (ev_spBpq ey1 (v0 H5 eB) dy1 wy1) fun _ => ev_spBpE (L := []) (evq_lst (fun b hb => nomatch hb) (evqs_cons (evq_of ey2 (by rw [w_nil]; exact dy2)) evqs_nil) (by simp)) (fun _ => Evl.ev_c) (fits_one wy2)) (congrArg V.bl ?_)) fun H99 e99 => kk H99 (eB.trans e99)
            simp [hasK, f1, isP]
    | boxes p =>
      cases hk with
      | @tup a0 xs0 _ hs ha =>
        cases ha with
        | @cons c0 _ _ _ r0 q0 =>
          cases r0
          cases q0 with
          | @cons c1 _ _ _ r1 q0 =>
            cases q0
            cases r1
            refine pre_run (w := "boxes") hs rfl hd hw (fun z H1 e1 => bad (.boxes p) z H1 e1 kk) fun p1 z H1 e1 hp r hz hl => ?_
            refine Evl.q_when (b := false) (Evl.et_is (Evl.et_test (Evl.ev_inU (Evl.ev_var (v := .str "boxes") rfl) (Evl.eu_tup (Evl.ea_cons Evl.ev_c (Evl.ea_cons Evl.ev_c (Evl.ea_cons Evl.ev_c Evl.ea_nil))) (by show 3 ≤ 100000; omega)) rfl rfl)) (by decide)) (fun z => nomatch z) (fun _ H2 e2 => ?_)
            refine Evl.q_when (b := false) (Evl.et_is (Evl.et_test (Evl.ev_op (Evl.ev_var (v := .str "boxes") rfl) Evl.ev_c (Evl.rv_eq rfl))) (by decide)) (fun z => nomatch z) (fun _ H3 e3 => ?_)
            have eA := (e1.trans e2).trans e3
            have v1 : ∀ H', Evl.Ev (tVar 1) [some (.ref a0), some v, some (.ref p1), some (.str "boxes"), none, none, none, none, none] H' v := fun H' => Evl.ev_var rfl
            have v0 : ∀ H', Ex H H' → Evl.Ev (tOp (rIxT K) (tVar 0) (tC (.int 1))) [some (.ref a0), some v, some (.ref p1), some (.str "boxes"), none, none, none, none, none] H' (.int p) := fun H' e => Evl.ev_op (Evl.ev_var (v := .ref a0) rfl) Evl.ev_c (Evl.rv_ixT (Evl.ex_t e hs) rfl)
            have hg : Evl.Ev (tDGet (tVar 2) (tVar 3)) [some (.ref a0), some v, some (.ref p1), some (.str "boxes"), none, none, none, none, none] H3 (.str "box") := fun H4 e4 Q q => ⟨_, rfl, _, rfl, p1, .str "box", rfl, DGet.k (k := Sum.inr "boxes") (kvs := HDs) (e4 _ _ (e3 _ _ (e2 _ _ hp))), q H4 (Ex.refl _)⟩
            obtain ⟨y, ey, dy, _⟩ := ev_at (n := 0) (v1 H3) (hd.up eA) r hw hl
            rw [hz] at dy
            cases dy
            refine Evl.q_when (b := !decide (V.str z = V.str "box") || !decide (((entries d).length : Int) = 2)) (Evl.et_or (Evl.et_test (Evl.ev_op ey hg (Evl.rv_ne rfl))) fun _ => Evl.et_is (Evl.et_test (Evl.ev_op (ev_lenD (v1 H3) (hd.up eA) r hw) (Evl.ev_op Evl.ev_c (ev_int1 (b := false) (Evl.ev_is (Evl.ev_inU (Evl.ev_var (v := .str "boxes") rfl) (Evl.eu_tup (Evl.ea_cons Evl.ev_c (Evl.ea_cons Evl.ev_c Evl.ea_nil)) (by show 2 ≤ 100000; omega)) rfl rfl) (by decide))) (Evl.rv_I0 (g := fun i j => .int (i + j)))) (Evl.rv_ne rfl))) (by simp)) (fun q H4 e4 => ?_) (fun q H4 e4 => ?_)
            · refine Evl.s_ret (v := .bl (hasK (.boxes p) d)) (Evl.ev_is Evl.ev_c (congrArg V.bl ?_)) fun H5 e5 => kk H5 ((eA.trans e4).trans e5)
              have f0 : isF "box" 2 d = false := by
                rw [isF_of r hz]
                rcases Bool.or_eq_true_iff.mp q with q | q
                · have : ¬ z = ("box" : Str) := fun e => by simp [e] at q
                  simp [this]
                · have q2 := of_decide_eq_false ((Bool.not_eq_true' _).mp q)
                  simp [q2]
              simp [hasK, f0]
            have q' : V.str z = V.str "box" ∧ ((entries d).length : Int) = 2 := by
              rcases Bool.or_eq_false_iff.mp q with ⟨q1, q2⟩
              exact ⟨of_decide_eq_true (by simpa using q1), of_decide_eq_true (by simpa using q2)⟩
            obtain ⟨qz, ql⟩ := q'
            cases qz
            have f1 : isF "box" 2 d = true := by
              rw [isF_of r hz]
              simp [ql]
            refine Evl.q_when (b := false) (Evl.et_is (Evl.et_test (Evl.ev_op (Evl.ev_var (v := .str "boxes") rfl) Evl.ev_c (Evl.rv_eq rfl))) (by decide)) (fun z => nomatch z) (fun _ H5 e5 => ?_)
            refine Evl.q_when (b := true) (Evl.et_is (Evl.et_test (Evl.ev_op (Evl.ev_var (v := .str "boxes") rfl) Evl.ev_c (Evl.rv_eq rfl))) (by decide)) (fun _ H6 e6 => ?_) (fun z => nomatch z)
            have eB := ((eA.trans e4).trans e5).trans e6
            have hdB := hd.up eB
            obtain ⟨y1, ey1, dy1, wy1⟩ := ev_at (n := 1) (v1 H6) hdB r hw (by omega)
            refine Evl.s_ret (v := .bl (hasK (.boxes p) d)) (Evl.ev_is (Evl.ev_andV (a := isR (el d 1) && allD (isB 2) (el d 1)) (b := decide (((entries (el d 1)).length : Int) = p)) (ev_spBpq (f := fun p d => isR d && allD (isB p) d) ey1 Evl.ev_c dy1 wy1) fun z => Evl.ev_is (Evl.ev_op (ev_lenD ey1 dy1 (Bool.and_eq_true_iff.mp z).1 wy1) (v0 H6 eB) (Evl.rv_eq rfl)) (by simp)) (congrArg V.bl ?_)) fun H99 e99 => kk H99 (eB.trans e99)
            simp only [hasK, f1]
            cases r1 : isR (el d 1) with
            | false =>
              have : isO p (el d 1) = false := by
                cases q : isO p (el d 1) with
                | false => rfl
                | true => rw [(isO_R q).1] at r1; cases r1
              simp [this]
            | true =>
              rw [isO_of r1]
              cases allD (isB 2) (el d 1) <;> simp
    | rising p =>
      cases hk with
      | @tup a0 xs0 _ hs ha =>
        cases ha with
        | @cons c0 _ _ _ r0 q0 =>
          cases r0
          cases q0 with
          | @cons c1 _ _ _ r1 q0 =>
            cases q0
            cases r1
            refine pre_run (w := "rising") hs rfl hd hw (fun z H1 e1 => bad (.rising p) z H1 e1 kk) fun p1 z H1 e1 hp r hz hl => ?_
            refine Evl.q_when (b := false) (Evl.et_is (Evl.et_test (Evl.ev_inU (Evl.ev_var (v := .str "rising") rfl) (Evl.eu_tup (Evl.ea_cons Evl.ev_c (Evl.ea_cons Evl.ev_c (Evl.ea_cons Evl.ev_c Evl.ea_nil))) (by show 3 ≤ 100000; omega)) rfl rfl)) (by decide)) (fun z => nomatch z) (fun _ H2 e2 => ?_)
            refine Evl.q_when (b := false) (Evl.et_is (Evl.et_test (Evl.ev_op (Evl.ev_var (v := .str "rising") rfl) Evl.ev_c (Evl.rv_eq rfl))) (by decide)) (fun z => nomatch z) (fun _ H3 e3 => ?_)
            have eA := (e1.trans e2).trans e3
            have v1 : ∀ H', Evl.Ev (tVar 1) [some (.ref a0), some v, some (.ref p1), some (.str "rising"), none, none, none, none, none] H' v := fun H' => Evl.ev_var rfl
            have v0 : ∀ H', Ex H H' → Evl.Ev (tOp (rIxT K) (tVar 0) (tC (.int 1))) [some (.ref a0), some v, some (.ref p1), some (.str "rising"), none, none, none, none, none] H' (.int p) := fun H' e => Evl.ev_op (Evl.ev_var (v := .ref a0) rfl) Evl.ev_c (Evl.rv_ixT (Evl.ex_t e hs) rfl)
            have hg : Evl.Ev (tDGet (tVar 2) (tVar 3)) [some (.ref a0), some v, some (.ref p1), some (.str "rising"), none, none, none, none, none] H3 (.str "rise") := fun H4 e4 Q q => ⟨_, rfl, _, rfl, p1, .str "rise", rfl, DGet.k (k := Sum.inr "rising") (kvs := HDs) (e4 _ _ (e3 _ _ (e2 _ _ hp))), q H4 (Ex.refl _)⟩
            obtain ⟨y, ey, dy, _⟩ := ev_at (n := 0) (v1 H3) (hd.up eA) r hw hl
            rw [hz] at dy
            cases dy
            refine Evl.q_when (b := !decide (V.str z = V.str "rise") || !decide (((entries d).length : Int) = 2)) (Evl.et_or (Evl.et_test (Evl.ev_op ey hg (Evl.rv_ne rfl))) fun _ => Evl.et_is (Evl.et_test (Evl.ev_op (ev_lenD (v1 H3) (hd.up eA) r hw) (Evl.ev_op Evl.ev_c (ev_int1 (b := false) (Evl.ev_is (Evl.ev_inU (Evl.ev_var (v := .str "rising") rfl) (Evl.eu_tup (Evl.ea_cons Evl.ev_c (Evl.ea_cons Evl.ev_c Evl.ea_nil)) (by show 2 ≤ 100000; omega)) rfl rfl) (by decide))) (Evl.rv_I0 (g := fun i j => .int (i + j)))) (Evl.rv_ne rfl))) (by simp)) (fun q H4 e4 => ?_) (fun q H4 e4 => ?_)
            · refine Evl.s_ret (v := .bl (hasK (.rising p) d)) (Evl.ev_is Evl.ev_c (congrArg V.bl ?_)) fun H5 e5 => kk H5 ((eA.trans e4).trans e5)
              have f0 : isF "rise" 2 d = false := by
                rw [isF_of r hz]
                rcases Bool.or_eq_true_iff.mp q with q | q
                · have : ¬ z = ("rise" : Str) := fun e => by simp [e] at q
                  simp [this]
                · have q2 := of_decide_eq_false ((Bool.not_eq_true' _).mp q)
                  simp [q2]
              simp [hasK, f0]
            have q' : V.str z = V.str "rise" ∧ ((entries d).length : Int) = 2 := by
              rcases Bool.or_eq_false_iff.mp q with ⟨q1, q2⟩
              exact ⟨of_decide_eq_true (by simpa using q1), of_decide_eq_true (by simpa using q2)⟩
            obtain ⟨qz, ql⟩ := q'
            cases qz
            have f1 : isF "rise" 2 d = true := by
              rw [isF_of r hz]
              simp [ql]
            refine Evl.q_when (b := false) (Evl.et_is (Evl.et_test (Evl.ev_op (Evl.ev_var (v := .str "rising") rfl) Evl.ev_c (Evl.rv_eq rfl))) (by decide)) (fun z => nomatch z) (fun _ H5 e5 => ?_)
            refine Evl.q_when (b := false) (Evl.et_is (Evl.et_test (Evl.ev_op (Evl.ev_var (v := .str "rising") rfl) Evl.ev_c (Evl.rv_eq rfl))) (by decide)) (fun z => nomatch z) (fun _ H6 e6 => ?_)
            refine Evl.q_when (b := true) (Evl.et_is (Evl.et_test (Evl.ev_op (Evl.ev_var (v := .str "rising") rfl) Evl.ev_c (Evl.rv_eq rfl))) (by decide)) (fun _ H7 e7 => ?_) (fun z => nomatch z)
            have eB := (((eA.trans e4).trans e5).trans e6).trans e7
            have hdB := hd.up eB
            obtain ⟨y1, ey1, dy1, wy1⟩ := ev_at (n := 1) (v1 H7) hdB r hw (by omega)
            refine Evl.s_ret (v := .bl (hasK (.rising p) d)) (Evl.ev_is (ev_spBpq (f := fun p d => isR d && allD (isB p) d) ey1 (v0 H7 eB) dy1 wy1) (congrArg V.bl ?_)) fun H99 e99 => kk H99 (eB.trans e99)
            simp [hasK, f1]
    | flats p =>
      cases hk with
      | @tup a0 xs0 _ hs ha =>
        cases ha with
        | @cons c0 _ _ _ r0 q0 =>
          cases r0
          cases q0 with
          | @cons c1 _ _ _ r1 q0 =>
            cases q0
            cases r1
            refine pre_run (w := "flats") hs rfl hd hw (fun z H1 e1 => bad (.flats p) z H1 e1 kk) fun p1 z H1 e1 hp r hz hl => ?_
            refine Evl.q_when (b := false) (Evl.et_is (Evl.et_test (Evl.ev_inU (Evl.ev_var (v := .str "flats") rfl) (Evl.eu_tup (Evl.ea_cons Evl.ev_c (Evl.ea_cons Evl.ev_c (Evl.ea_cons Evl.ev_c Evl.ea_nil))) (by show 3 ≤ 100000; omega)) rfl rfl)) (by decide)) (fun z => nomatch z) (fun _ H2 e2 => ?_)
            refine Evl.q_when (b := false) (Evl.et_is (Evl.et_test (Evl.ev_op (Evl.ev_var (v := .str "flats") rfl) Evl.ev_c (Evl.rv_eq rfl))) (by decide)) (fun z => nomatch z) (fun _ H3 e3 => ?_)
            have eA := (e1.trans e2).trans e3
            have v1 : ∀ H', Evl.Ev (tVar 1) [some (.ref a0), some v, some (.ref p1), some (.str "flats"), none, none, none, none, none] H' v := fun H' => Evl.ev_var rfl
            have v0 : ∀ H', Ex H H' → Evl.Ev (tOp (rIxT K) (tVar 0) (tC (.int 1))) [some (.ref a0), some v, some (.ref p1), some (.str "flats"), none, none, none, none, none] H' (.int p) := fun H' e => Evl.ev_op (Evl.ev_var (v := .ref a0) rfl) Evl.ev_c (Evl.rv_ixT (Evl.ex_t e hs) rfl)
            have hg : Evl.Ev (tDGet (tVar 2) (tVar 3)) [some (.ref a0), some v, some (.ref p1), some (.str "flats"), none, none, none, none, none] H3 (.str "flat") := fun H4 e4 Q q => ⟨_, rfl, _, rfl, p1, .str "flat", rfl, DGet.k (k := Sum.inr "flats") (kvs := HDs) (e4 _ _ (e3 _ _ (e2 _ _ hp))), q H4 (Ex.refl _)⟩
            obtain ⟨y, ey, dy, _⟩ := ev_at (n := 0) (v1 H3) (hd.up eA) r hw hl
            rw [hz] at dy
            cases dy
            refine Evl.q_when (b := !decide (V.str z = V.str "flat") || !decide (((entries d).length : Int) = 2)) (Evl.et_or (Evl.et_test (Evl.ev_op ey hg (Evl.rv_ne rfl))) fun _ => Evl.et_is (Evl.et_test (Evl.ev_op (ev_lenD (v1 H3) (hd.up eA) r hw) (Evl.ev_op Evl.ev_c (ev_int1 (b := false) (Evl.ev_is (Evl.ev_inU (Evl.ev_var (v := .str "flats") rfl) (Evl.eu_tup (Evl.ea_cons Evl.ev_c (Evl.ea_cons Evl.ev_c Evl.ea_nil)) (by show 2 ≤ 100000; omega)) rfl rfl) (by decide))) (Evl.rv_I0 (g := fun i j => .int (i + j)))) (Evl.rv_ne rfl))) (by simp)) (fun q H4 e4 => ?_) (fun q H4 e4 => ?_)
            · refine Evl.s_ret (v := .bl (hasK (.flats p) d)) (Evl.ev_is Evl.ev_c (congrArg V.bl ?_)) fun H5 e5 => kk H5 ((eA.trans e4).trans e5)
              have f0 : isF "flat" 2 d = false := by
                rw [isF_of r hz]
                rcases Bool.or_eq_true_iff.mp q with q | q
                · have : ¬ z = ("flat" : Str) := fun e => by simp [e] at q
                  simp [this]
                · have q2 := of_decide_eq_false ((Bool.not_eq_true' _).mp q)
                  simp [q2]
              simp [hasK, f0]
            have q' : V.str z = V.str "flat" ∧ ((entries d).length : Int) = 2 := by
              rcases Bool.or_eq_false_iff.mp q with ⟨q1, q2⟩
              exact ⟨of_decide_eq_true (by simpa using q1), of_decide_eq_true (by simpa using q2)⟩
            obtain ⟨qz, ql⟩ := q'
            cases qz
            have f1 : isF "flat" 2 d = true := by
              rw [isF_of r hz]
              simp [ql]
            refine Evl.q_when (b := false) (Evl.et_is (Evl.et_test (Evl.ev_op (Evl.ev_var (v := .str "flats") rfl) Evl.ev_c (Evl.rv_eq rfl))) (by decide)) (fun z => nomatch z) (fun _ H5 e5 => ?_)
            refine Evl.q_when (b := false) (Evl.et_is (Evl.et_test (Evl.ev_op (Evl.ev_var (v := .str "flats") rfl) Evl.ev_c (Evl.rv_eq rfl))) (by decide)) (fun z => nomatch z) (fun _ H6 e6 => ?_)
            refine Evl.q_when (b := false) (Evl.et_is (Evl.et_test (Evl.ev_op (Evl.ev_var (v := .str "flats") rfl) Evl.ev_c (Evl.rv_eq rfl))) (by decide)) (fun z => nomatch z) (fun _ H7 e7 => ?_)
            refine Evl.q_when (b := true) (Evl.et_is (Evl.et_test (Evl.ev_op (Evl.ev_var (v := .str "flats") rfl) Evl.ev_c (Evl.rv_eq rfl))) (by decide)) (fun _ H8 e8 => ?_) (fun z => nomatch z)
            have eB := ((((eA.trans e4).trans e5).trans e6).trans e7).trans e8
            have hdB := hd.up eB
            obtain ⟨y1, ey1, dy1, wy1⟩ := ev_at (n := 1) (v1 H8) hdB r hw (by omega)
            refine Evl.s_ret (v := .bl (hasK (.flats p) d)) (Evl.ev_is (Evl.ev_andV (a := isR (el d 1)) (b := allD (isP p) (el d 1)) (ev_isR2 ey1 dy1) fun z => ev_allQ (f := isP p) ey1 dy1 z wy1 (fun _ => rfl) fun x e H8 we e8 hd' => ev_spBpq (Evl.ev_var rfl) (Evl.ev_op (Evl.ev_var (v := .ref a0) rfl) Evl.ev_c (Evl.rv_ixT (Evl.ex_t (eB.trans e8) hs) rfl)) hd' we) (congrArg V.bl ?_)) fun H99 e99 => kk H99 (eB.trans e99)
            simp [hasK, f1]
    | turns p =>
      cases hk with
      | @tup a0 xs0 _ hs ha =>
        cases ha with
        | @cons c0 _ _ _ r0 q0 =>
          cases r0
          cases q0 with
          | @cons c1 _ _ _ r1 q0 =>
            cases q0
            cases r1
            refine pre_run (w := "turns") hs rfl hd hw (fun z H1 e1 => bad (.turns p) z H1 e1 kk) fun p1 z H1 e1 hp r hz hl => ?_
            refine Evl.q_when (b := false) (Evl.et_is (Evl.et_test (Evl.ev_inU (Evl.ev_var (v := .str "turns") rfl) (Evl.eu_tup (Evl.ea_cons Evl.ev_c (Evl.ea_cons Evl.ev_c (Evl.ea_cons Evl.ev_c Evl.ea_nil))) (by show 3 ≤ 100000; omega)) rfl rfl)) (by decide)) (fun z => nomatch z) (fun _ H2 e2 => ?_)
            refine Evl.q_when (b := false) (Evl.et_is (Evl.et_test (Evl.ev_op (Evl.ev_var (v := .str "turns") rfl) Evl.ev_c (Evl.rv_eq rfl))) (by decide)) (fun z => nomatch z) (fun _ H3 e3 => ?_)
            have eA := (e1.trans e2).trans e3
            have v1 : ∀ H', Evl.Ev (tVar 1) [some (.ref a0), some v, some (.ref p1), some (.str "turns"), none, none, none, none, none] H' v := fun H' => Evl.ev_var rfl
            have v0 : ∀ H', Ex H H' → Evl.Ev (tOp (rIxT K) (tVar 0) (tC (.int 1))) [some (.ref a0), some v, some (.ref p1), some (.str "turns"), none, none, none, none, none] H' (.int p) := fun H' e => Evl.ev_op (Evl.ev_var (v := .ref a0) rfl) Evl.ev_c (Evl.rv_ixT (Evl.ex_t e hs) rfl)
            have hg : Evl.Ev (tDGet (tVar 2) (tVar 3)) [some (.ref a0), some v, some (.ref p1), some (.str "turns"), none, none, none, none, none] H3 (.str "turns") := fun H4 e4 Q q => ⟨_, rfl, _, rfl, p1, .str "turns", rfl, DGet.k (k := Sum.inr "turns") (kvs := HDs) (e4 _ _ (e3 _ _ (e2 _ _ hp))), q H4 (Ex.refl _)⟩
            obtain ⟨y, ey, dy, _⟩ := ev_at (n := 0) (v1 H3) (hd.up eA) r hw hl
            rw [hz] at dy
            cases dy
            refine Evl.q_when (b := !decide (V.str z = V.str "turns") || !decide (((entries d).length : Int) = 3)) (Evl.et_or (Evl.et_test (Evl.ev_op ey hg (Evl.rv_ne rfl))) fun _ => Evl.et_is (Evl.et_test (Evl.ev_op (ev_lenD (v1 H3) (hd.up eA) r hw) (Evl.ev_op Evl.ev_c (ev_int1 (b := true) (Evl.ev_is (Evl.ev_inU (Evl.ev_var (v := .str "turns") rfl) (Evl.eu_tup (Evl.ea_cons Evl.ev_c (Evl.ea_cons Evl.ev_c Evl.ea_nil)) (by show 2 ≤ 100000; omega)) rfl rfl) (by decide))) (Evl.rv_I0 (g := fun i j => .int (i + j)))) (Evl.rv_ne rfl))) (by simp)) (fun q H4 e4 => ?_) (fun q H4 e4 => ?_)
            · refine Evl.s_ret (v := .bl (hasK (.turns p) d)) (Evl.ev_is Evl.ev_c (congrArg V.bl ?_)) fun H5 e5 => kk H5 ((eA.trans e4).trans e5)
              have f0 : isF "turns" 3 d = false := by
                rw [isF_of r hz]
                rcases Bool.or_eq_true_iff.mp q with q | q
                · have : ¬ z = ("turns" : Str) := fun e => by simp [e] at q
                  simp [this]
                · have q2 := of_decide_eq_false ((Bool.not_eq_true' _).mp q)
                  simp [q2]
              simp [hasK, f0]
            have q' : V.str z = V.str "turns" ∧ ((entries d).length : Int) = 3 := by
              rcases Bool.or_eq_false_iff.mp q with ⟨q1, q2⟩
              exact ⟨of_decide_eq_true (by simpa using q1), of_decide_eq_true (by simpa using q2)⟩
            obtain ⟨qz, ql⟩ := q'
            cases qz
            have f1 : isF "turns" 3 d = true := by
              rw [isF_of r hz]
              simp [ql]
            refine Evl.q_when (b := false) (Evl.et_is (Evl.et_test (Evl.ev_op (Evl.ev_var (v := .str "turns") rfl) Evl.ev_c (Evl.rv_eq rfl))) (by decide)) (fun z => nomatch z) (fun _ H5 e5 => ?_)
            refine Evl.q_when (b := false) (Evl.et_is (Evl.et_test (Evl.ev_op (Evl.ev_var (v := .str "turns") rfl) Evl.ev_c (Evl.rv_eq rfl))) (by decide)) (fun z => nomatch z) (fun _ H6 e6 => ?_)
            refine Evl.q_when (b := false) (Evl.et_is (Evl.et_test (Evl.ev_op (Evl.ev_var (v := .str "turns") rfl) Evl.ev_c (Evl.rv_eq rfl))) (by decide)) (fun z => nomatch z) (fun _ H7 e7 => ?_)
            refine Evl.q_when (b := false) (Evl.et_is (Evl.et_test (Evl.ev_op (Evl.ev_var (v := .str "turns") rfl) Evl.ev_c (Evl.rv_eq rfl))) (by decide)) (fun z => nomatch z) (fun _ H8 e8 => ?_)
            have eB := ((((eA.trans e4).trans e5).trans e6).trans e7).trans e8
            have hdB := hd.up eB
            obtain ⟨y1, ey1, dy1, wy1⟩ := ev_at (n := 1) (v1 H8) hdB r hw (by omega)
            obtain ⟨y2, ey2, dy2, wy2⟩ := ev_at (n := 2) (v1 H8) hdB r hw (by omega)
            refine Evl.q_when (b := !isL (el d 1) || (!isR (el d 2) || decide (p < ((entries (el d 2)).length : Int)))) (Evl.et_or (Evl.et_not (Evl.et_B (ev_isLq ey1 dy1))) fun _ => Evl.et_or (Evl.et_not (Evl.et_B (ev_isR2 ey2 dy2))) fun z => Evl.et_test (Evl.ev_op (ev_lenD ey2 dy2 (by simpa using z) wy2) (v0 H8 eB) (Evl.rv_I0 (g := fun i j => .bl (decide (j < i)))))) (fun q H9 e9 => ?_) (fun q H9 e9 => ?_)
            · refine Evl.s_ret (v := .bl (hasK (.turns p) d)) (Evl.ev_is Evl.ev_c (congrArg V.bl ?_)) fun H99 e99 => kk H99 ((eB.trans e9).trans e99)
              have g : (isL (el d 1) && isR (el d 2) && decide (((entries (el d 2)).length : Int) ≤ p)) = false := by
                by_cases hp2 : ((entries (el d 2)).length : Int) ≤ p
                · rw [decide_eq_false (by omega : ¬ p < ((entries (el d 2)).length : Int))] at q
                  revert q
                  cases isL (el d 1) <;> cases isR (el d 2) <;> simp
                · rw [decide_eq_false hp2]
                  simp
              simp only [hasK, f1, Bool.true_and]
              rw [g]
              rfl
            · have q' : isL (el d 1) = true ∧ isR (el d 2) = true ∧ ((entries (el d 2)).length : Int) ≤ p := by
                by_cases hp2 : ((entries (el d 2)).length : Int) ≤ p
                · rw [decide_eq_false (by omega : ¬ p < ((entries (el d 2)).length : Int))] at q
                  revert q
                  cases isL (el d 1) <;> cases isR (el d 2) <;> simp [hp2]
                · rw [decide_eq_true (by omega : p < ((entries (el d 2)).length : Int))] at q
                  simp at q
              obtain ⟨l1, r2, lp⟩ := q'
              have eC := eB.trans e9
              obtain ⟨y2, ey2, dy2, wy2⟩ := ev_at (n := 2) (v1 H9) (hd.up eC) r hw (by omega)
              have iP : isP ((entries (el d 2)).length : Int) (el d 2) = allD isI (el d 2) := by
                cases e : el d 2 <;> rw [e] at r2 <;> first | (simp [isP, allD, entries]; done) | cases r2
              refine Evl.s_ret (v := .bl (hasK (.turns p) d)) (Evl.ev_is (Evl.ev_andV (a := isP ((entries (el d 2)).length : Int) (el d 2)) (b := ascD (entries (el d 2))) (ev_spBpq ey2 (ev_lenD ey2 dy2 r2 wy2) dy2 wy2) fun z => ?_) (congrArg V.bl ?_)) fun H99 e99 => kk H99 (eC.trans e99)
              · obtain ⟨a2, xs2, rfl, hx2, ha2, hl2, _⟩ := seq_of dy2 r2 wy2
                exact ev_asc (i1 := 7) (i2 := 8) (vs := [7, 8]) ey2 hx2 ha2 hl2 (iP.symm.trans z) (fun _ _ => rfl) (fun _ _ => Evl.ev_op (Evl.ev_var rfl) (Evl.ev_var rfl) (Evl.rv_I0 (g := fun a b => .bl (decide (a < b)))))
              · rw [iP]
                simp [hasK, f1, l1, r2, lp]
    | no k1 =>
      cases hk with
      | @tup a0 xs0 _ hs ha =>
        cases ha with
        | @cons c0 _ _ _ r0 q0 =>
          cases r0
          cases q0 with
          | @cons c1 _ _ _ r1 q0 =>
            cases q0
            have dp := hn
            simp only [depK] at dp
            obtain ⟨m, rfl⟩ : ∃ m, n = m + 1 := ⟨n - 1, by omega⟩
            refine pre_run (w := "not") hs rfl hd hw (fun z H1 e1 => bad (.no k1) z H1 e1 kk) fun p1 z H1 e1 hp r hz hl => ?_
            have v1 : ∀ H', Evl.Ev (tVar 1) [some (.ref a0), some v, some (.ref p1), some (.str "not"), none, none, none, none, none] H' v := fun H' => Evl.ev_var rfl
            refine Evl.q_when (b := true) (Evl.et_is (Evl.et_test (Evl.ev_inU (Evl.ev_var (v := .str "not") rfl) (Evl.eu_tup (Evl.ea_cons Evl.ev_c (Evl.ea_cons Evl.ev_c (Evl.ea_cons Evl.ev_c Evl.ea_nil))) (by show 3 ≤ 100000; omega)) rfl rfl)) (by decide)) (fun _ H2 e2 => ?_) (fun z => nomatch z)
            have eA := e1.trans e2
            obtain ⟨y, ey, dy, _⟩ := ev_at (n := 0) (v1 H2) (hd.up eA) r hw hl
            rw [hz] at dy
            cases dy
            refine Evl.q_when (b := !decide (V.str z = V.str "not") || !decide (((entries d).length : Int) = 2)) (Evl.et_or (Evl.et_test (Evl.ev_op ey (Evl.ev_var (v := .str "not") rfl) (Evl.rv_ne rfl))) fun _ => Evl.et_is (Evl.et_test (Evl.ev_op (ev_lenD (v1 H2) (hd.up eA) r hw) (ev_lenS (Evl.ev_var (v := .ref a0) rfl) (.inr (Evl.ex_t eA hs))) (Evl.rv_ne rfl))) (by simp)) (fun q H3 e3 => ?_) (fun q H3 e3 => ?_)
            · refine Evl.s_ret (v := .bl (hasK (.no k1) d)) (Evl.ev_is Evl.ev_c (congrArg V.bl ?_)) fun H5 e5 => kk H5 ((eA.trans e3).trans e5)
              have f0 : isF "not" 2 d = false := by
                rw [isF_of r hz]
                rcases Bool.or_eq_true_iff.mp q with q | q
                · have : ¬ z = ("not" : Str) := fun e => by simp [e] at q
                  simp [this]
                · have q2 := of_decide_eq_false ((Bool.not_eq_true' _).mp q)
                  simp [q2]
              simp [hasK, f0]
            · have q' : V.str z = V.str "not" ∧ ((entries d).length : Int) = 2 := by
                rcases Bool.or_eq_false_iff.mp q with ⟨q1, q2⟩
                exact ⟨of_decide_eq_true (by simpa using q1), of_decide_eq_true (by simpa using q2)⟩
              obtain ⟨qz, ql⟩ := q'
              cases qz
              have f1 : isF "not" 2 d = true := by
                rw [isF_of r hz]
                simp [ql]
              have eB := eA.trans e3
              refine kids_rule (kids := [k1]) (m := m) (Evl.ex_t eB hs) (.cons (r1.up eB) .nil) (by simp) (by simp) (fun k hk => by rw [List.mem_singleton.mp hk]; omega) (hd.up eB) hw r (by show _ = 2; omega) fun H5 e5 => ?_
              have fin : ((List.range 1).map fun i => hasK ([k1].getD i (.halves 0)) (el d (i + 1))).all id = hasK (.no k1) d := by
                simp only [hasK, f1, Bool.true_and]
                show (hasK k1 (el d 1) && true) = _
                simp
              have q9 := kk H5 (eB.trans e5)
              rw [← fin] at q9
              exact q9
    | both k1 k2 =>
      cases hk with
      | @tup a0 xs0 _ hs ha =>
        cases ha with
        | @cons c0 _ _ _ r0 q0 =>
          cases r0
          cases q0 with
          | @cons c1 _ _ _ r1 q0 =>
            cases q0 with
            | @cons c2 _ _ _ r2 q0 =>
              cases q0
              have dp := hn
              simp only [depK] at dp
              obtain ⟨m, rfl⟩ : ∃ m, n = m + 1 := ⟨n - 1, by omega⟩
              refine pre_run (w := "both") hs rfl hd hw (fun z H1 e1 => bad (.both k1 k2) z H1 e1 kk) fun p1 z H1 e1 hp r hz hl => ?_
              have v1 : ∀ H', Evl.Ev (tVar 1) [some (.ref a0), some v, some (.ref p1), some (.str "both"), none, none, none, none, none] H' v := fun H' => Evl.ev_var rfl
              refine Evl.q_when (b := true) (Evl.et_is (Evl.et_test (Evl.ev_inU (Evl.ev_var (v := .str "both") rfl) (Evl.eu_tup (Evl.ea_cons Evl.ev_c (Evl.ea_cons Evl.ev_c (Evl.ea_cons Evl.ev_c Evl.ea_nil))) (by show 3 ≤ 100000; omega)) rfl rfl)) (by decide)) (fun _ H2 e2 => ?_) (fun z => nomatch z)
              have eA := e1.trans e2
              obtain ⟨y, ey, dy, _⟩ := ev_at (n := 0) (v1 H2) (hd.up eA) r hw hl
              rw [hz] at dy
              cases dy
              refine Evl.q_when (b := !decide (V.str z = V.str "both") || !decide (((entries d).length : Int) = 3)) (Evl.et_or (Evl.et_test (Evl.ev_op ey (Evl.ev_var (v := .str "both") rfl) (Evl.rv_ne rfl))) fun _ => Evl.et_is (Evl.et_test (Evl.ev_op (ev_lenD (v1 H2) (hd.up eA) r hw) (ev_lenS (Evl.ev_var (v := .ref a0) rfl) (.inr (Evl.ex_t eA hs))) (Evl.rv_ne rfl))) (by simp)) (fun q H3 e3 => ?_) (fun q H3 e3 => ?_)
              · refine Evl.s_ret (v := .bl (hasK (.both k1 k2) d)) (Evl.ev_is Evl.ev_c (congrArg V.bl ?_)) fun H5 e5 => kk H5 ((eA.trans e3).trans e5)
                have f0 : isF "both" 3 d = false := by
                  rw [isF_of r hz]
                  rcases Bool.or_eq_true_iff.mp q with q | q
                  · have : ¬ z = ("both" : Str) := fun e => by simp [e] at q
                    simp [this]
                  · have q2 := of_decide_eq_false ((Bool.not_eq_true' _).mp q)
                    simp [q2]
                simp [hasK, f0]
              · have q' : V.str z = V.str "both" ∧ ((entries d).length : Int) = 3 := by
                  rcases Bool.or_eq_false_iff.mp q with ⟨q1, q2⟩
                  exact ⟨of_decide_eq_true (by simpa using q1), of_decide_eq_true (by simpa using q2)⟩
                obtain ⟨qz, ql⟩ := q'
                cases qz
                have f1 : isF "both" 3 d = true := by
                  rw [isF_of r hz]
                  simp [ql]
                have eB := eA.trans e3
                refine kids_rule (kids := [k1, k2]) (m := m) (Evl.ex_t eB hs) (.cons (r1.up eB) (.cons (r2.up eB) .nil)) (by simp) (by simp) (fun k hk => (List.mem_cons.mp hk).elim (fun h => by rw [h]; omega) fun h => by rw [List.mem_singleton.mp h]; omega) (hd.up eB) hw r (by show _ = 3; omega) fun H5 e5 => ?_
                have fin : ((List.range 2).map fun i => hasK ([k1, k2].getD i (.halves 0)) (el d (i + 1))).all id = hasK (.both k1 k2) d := by
                  simp only [hasK, f1, Bool.true_and]
                  show (hasK k1 (el d 1) && (hasK k2 (el d 2) && true)) = _
                  simp
                have q9 := kk H5 (eB.trans e5)
                rw [← fin] at q9
                exact q9
    | either k1 k2 =>
      cases hk with
      | @tup a0 xs0 _ hs ha =>
        cases ha with
        | @cons c0 _ _ _ r0 q0 =>
          cases r0
          cases q0 with
          | @cons c1 _ _ _ r1 q0 =>
            cases q0 with
            | @cons c2 _ _ _ r2 q0 =>
              cases q0
              have dp := hn
              simp only [depK] at dp
              obtain ⟨m, rfl⟩ : ∃ m, n = m + 1 := ⟨n - 1, by omega⟩
              refine pre_run (w := "either") hs rfl hd hw (fun z H1 e1 => bad (.either k1 k2) z H1 e1 kk) fun p1 z H1 e1 hp r hz hl => ?_
              have v1 : ∀ H', Evl.Ev (tVar 1) [some (.ref a0), some v, some (.ref p1), some (.str "either"), none, none, none, none, none] H' v := fun H' => Evl.ev_var rfl
              refine Evl.q_when (b := true) (Evl.et_is (Evl.et_test (Evl.ev_inU (Evl.ev_var (v := .str "either") rfl) (Evl.eu_tup (Evl.ea_cons Evl.ev_c (Evl.ea_cons Evl.ev_c (Evl.ea_cons Evl.ev_c Evl.ea_nil))) (by show 3 ≤ 100000; omega)) rfl rfl)) (by decide)) (fun _ H2 e2 => ?_) (fun z => nomatch z)
              have eA := e1.trans e2
              obtain ⟨y, ey, dy, _⟩ := ev_at (n := 0) (v1 H2) (hd.up eA) r hw hl
              rw [hz] at dy
              cases dy
              refine Evl.q_when (b := !decide (V.str z = V.str "either") || !decide (((entries d).length : Int) = 3)) (Evl.et_or (Evl.et_test (Evl.ev_op ey (Evl.ev_var (v := .str "either") rfl) (Evl.rv_ne rfl))) fun _ => Evl.et_is (Evl.et_test (Evl.ev_op (ev_lenD (v1 H2) (hd.up eA) r hw) (ev_lenS (Evl.ev_var (v := .ref a0) rfl) (.inr (Evl.ex_t eA hs))) (Evl.rv_ne rfl))) (by simp)) (fun q H3 e3 => ?_) (fun q H3 e3 => ?_)
              · refine Evl.s_ret (v := .bl (hasK (.either k1 k2) d)) (Evl.ev_is Evl.ev_c (congrArg V.bl ?_)) fun H5 e5 => kk H5 ((eA.trans e3).trans e5)
                have f0 : isF "either" 3 d = false := by
                  rw [isF_of r hz]
                  rcases Bool.or_eq_true_iff.mp q with q | q
                  · have : ¬ z = ("either" : Str) := fun e => by simp [e] at q
                    simp [this]
                  · have q2 := of_decide_eq_false ((Bool.not_eq_true' _).mp q)
                    simp [q2]
                simp [hasK, f0]
              · have q' : V.str z = V.str "either" ∧ ((entries d).length : Int) = 3 := by
                  rcases Bool.or_eq_false_iff.mp q with ⟨q1, q2⟩
                  exact ⟨of_decide_eq_true (by simpa using q1), of_decide_eq_true (by simpa using q2)⟩
                obtain ⟨qz, ql⟩ := q'
                cases qz
                have f1 : isF "either" 3 d = true := by
                  rw [isF_of r hz]
                  simp [ql]
                have eB := eA.trans e3
                refine kids_rule (kids := [k1, k2]) (m := m) (Evl.ex_t eB hs) (.cons (r1.up eB) (.cons (r2.up eB) .nil)) (by simp) (by simp) (fun k hk => (List.mem_cons.mp hk).elim (fun h => by rw [h]; omega) fun h => by rw [List.mem_singleton.mp h]; omega) (hd.up eB) hw r (by show _ = 3; omega) fun H5 e5 => ?_
                have fin : ((List.range 2).map fun i => hasK ([k1, k2].getD i (.halves 0)) (el d (i + 1))).all id = hasK (.either k1 k2) d := by
                  simp only [hasK, f1, Bool.true_and]
                  show (hasK k1 (el d 1) && (hasK k2 (el d 2) && true)) = _
                  simp
                have q9 := kk H5 (eB.trans e5)
                rw [← fin] at q9
                exact q9
    | any k1 k2 =>
      cases hk with
      | @tup a0 xs0 _ hs ha =>
        cases ha with
        | @cons c0 _ _ _ r0 q0 =>
          cases r0
          cases q0 with
          | @cons c1 _ _ _ r1 q0 =>
            cases q0 with
            | @cons c2 _ _ _ r2 q0 =>
              cases q0
              have dp := hn
              simp only [depK] at dp
              obtain ⟨m, rfl⟩ : ∃ m, n = m + 1 := ⟨n - 1, by omega⟩
              refine pre_run (w := "any") hs rfl hd hw (fun z H1 e1 => bad (.any k1 k2) z H1 e1 kk) fun p1 z H1 e1 hp r hz hl => ?_
              have v1 : ∀ H', Evl.Ev (tVar 1) [some (.ref a0), some v, some (.ref p1), some (.str "any"), none, none, none, none, none] H' v := fun H' => Evl.ev_var rfl
              refine Evl.q_when (b := false) (Evl.et_is (Evl.et_test (Evl.ev_inU (Evl.ev_var (v := .str "any") rfl) (Evl.eu_tup (Evl.ea_cons Evl.ev_c (Evl.ea_cons Evl.ev_c (Evl.ea_cons Evl.ev_c Evl.ea_nil))) (by show 3 ≤ 100000; omega)) rfl rfl)) (by decide)) (fun z => nomatch z) (fun _ H2 e2 => ?_)
              refine Evl.q_when (b := true) (Evl.et_is (Evl.et_test (Evl.ev_op (Evl.ev_var (v := .str "any") rfl) Evl.ev_c (Evl.rv_eq rfl))) (by decide)) (fun _ H3 e3 => ?_) (fun z => nomatch z)
              have eA := (e1.trans e2).trans e3
              obtain ⟨y, ey, dy, _⟩ := ev_at (n := 0) (v1 H3) (hd.up eA) r hw hl
              rw [hz] at dy
              cases dy
              refine Evl.q_when (b := !decide (((entries d).length : Int) = 2) || !(decide (z = "first") || decide (z = "second"))) (Evl.et_or (Evl.et_is (Evl.et_test (Evl.ev_op (ev_lenD (v1 H3) (hd.up eA) r hw) Evl.ev_c (Evl.rv_ne rfl))) (by simp)) fun _ => Evl.et_is (Evl.et_test (Evl.ev_niU ey (Evl.eu_tup (Evl.ea_cons Evl.ev_c (Evl.ea_cons Evl.ev_c Evl.ea_nil)) (by show 2 ≤ 100000; omega)) rfl rfl)) (by rw [inv2])) (fun q H4 e4 => ?_) (fun q H4 e4 => ?_)
              · refine Evl.s_ret (v := .bl (hasK (.any k1 k2) d)) (Evl.ev_is Evl.ev_c (congrArg V.bl ?_)) fun H5 e5 => kk H5 ((eA.trans e4).trans e5)
                have f0 : isF "first" 2 d = false ∧ isF "second" 2 d = false := by
                  rw [isF_of r hz, isF_of r hz]
                  rcases Bool.or_eq_true_iff.mp q with q | q
                  · have q2 := of_decide_eq_false ((Bool.not_eq_true' _).mp q)
                    simp [q2]
                  · have q2 : ¬ z = ("first" : Str) ∧ ¬ z = ("second" : Str) := by simpa using q
                    simp [q2.1, q2.2]
                simp [hasK, f0.1, f0.2]
              · have q' : ((entries d).length : Int) = 2 ∧ (z = ("first" : Str) ∨ z = ("second" : Str)) := by
                  rcases Bool.or_eq_false_iff.mp q with ⟨q1, q2⟩
                  exact ⟨of_decide_eq_true (by simpa using q1), Classical.byCases (fun h => .inl h) fun h => .inr (by simpa [h] using q2)⟩
                obtain ⟨ql, qz⟩ := q'
                have eB := eA.trans e4
                obtain ⟨y1, ey1, dy1, wy1⟩ := ev_at (n := 1) (v1 H4) (hd.up eB) r hw (by omega)
                obtain ⟨y0, ey0, dy0, _⟩ := ev_at (n := 0) (v1 H4) (hd.up eB) r hw hl
                rw [hz] at dy0
                cases dy0
                rcases qz with rfl | rfl
                · have f1 : isF "first" 2 d = true := by
                    rw [isF_of r hz]
                    simp [ql]
                  have f2 : isF "second" 2 d = false := by
                    rw [isF_of r hz]
                    have : ((("first" : Str) == ("second" : Str)) = false) := by decide
                    rw [this, Bool.and_false]
                  refine Evl.s_ret (v := .bl (hasK (.any k1 k2) d)) (Evl.ev_is (ev_callD (z := .bl (hasK k1 (el d 1))) (Evl.ea_cons (Evl.ev_op (Evl.ev_var (v := .ref a0) rfl) (Evl.ev_op Evl.ev_c (ev_int1 (b := false) (Evl.ev_is (Evl.ev_op ey0 Evl.ev_c (Evl.rv_eq rfl)) (by decide))) (Evl.rv_I0 (g := fun i j => .int (i + j)))) (Evl.rv_ixT (Evl.ex_t eB hs) rfl)) (Evl.ea_cons ey1 Evl.ea_nil)) fun H5 e5 Q5 q5 => ⟨_, y1, k1, el d 1, rfl, (r1.up (eB.trans e5)), by omega, dy1.up e5, wy1, q5⟩) (congrArg V.bl ?_)) fun H99 e99 => kk H99 (eB.trans e99)
                  simp [hasK, f1, f2]
                · have f1 : isF "second" 2 d = true := by
                    rw [isF_of r hz]
                    simp [ql]
                  have f2 : isF "first" 2 d = false := by
                    rw [isF_of r hz]
                    have : ((("second" : Str) == ("first" : Str)) = false) := by decide
                    rw [this, Bool.and_false]
                  refine Evl.s_ret (v := .bl (hasK (.any k1 k2) d)) (Evl.ev_is (ev_callD (z := .bl (hasK k2 (el d 1))) (Evl.ea_cons (Evl.ev_op (Evl.ev_var (v := .ref a0) rfl) (Evl.ev_op Evl.ev_c (ev_int1 (b := true) (Evl.ev_is (Evl.ev_op ey0 Evl.ev_c (Evl.rv_eq rfl)) (by decide))) (Evl.rv_I0 (g := fun i j => .int (i + j)))) (Evl.rv_ixT (Evl.ex_t eB hs) rfl)) (Evl.ea_cons ey1 Evl.ea_nil)) fun H5 e5 Q5 q5 => ⟨_, y1, k2, el d 1, rfl, (r2.up (eB.trans e5)), by omega, dy1.up e5, wy1, q5⟩) (congrArg V.bl ?_)) fun H99 e99 => kk H99 (eB.trans e99)
                  simp [hasK, f1, f2]
end
end U

set_option Elab.async false
set_option linter.all false
set_option maxRecDepth 100000
set_option maxHeartbeats 4000000
/-! the law's last loop, and its last test -/
namespace U
open PySem PySem.Spec PyProof.Rows L2
open Evl (Ex)
/-- bent, of any depth up to N -/
def spBents (K : PySem.W.Frag) (N : Nat) : Sp := fun vs H Q E => ∃ n, n ≤ N ∧ spBent K n vs H Q E
section
variable {P : Program} {w : World} {K : PySem.W.Frag} {mg : Str → Option Value} {base : Heap}
theorem bents_ok {f : Addr} {fd : FuncData} {ps : List Str} {N : Nat} (h : ∀ n, n ≤ N → FnOk P w K mg base CX0 (n + 4) f fd ps (spBent K n)) : FnOk P w K mg base CX0 (N + 4) f fd ps (spBents K N) :=
  ⟨fun vs H Q E ⟨n, hn, q⟩ => (h n hn).len vs H Q E q, fun A outer s H args us vs Q E hr e0 hb hv ⟨n, hn, q⟩ => ((h n hn).mono (by omega)).run A outer s H args us vs Q E hr e0 hb hv q⟩
theorem draw_runJ {σ : L2.St} {H : Hp} {tm : TE} {l : Addr} {n j : Nat} {many : Int} {Q : VK} (h0 : σ[j]? = some (some (.ref l))) (hd : Dr n H l) (hn : n < 1000000) (hm : Evl.Ev tm σ H (.int many)) (m0 : 0 < many) (m1 : many < 1073741824)
    (k : ∀ r H', 0 ≤ r → r < many → Dr (n + 1) H' l → ExB l H H' → Q (.int r) H') : tCallD spDraw (tCons (tVar j) (tCons tm tNil)) σ H Q :=
  ⟨_, h0, hm H (Ex.refl H) _ fun H1 e1 => ⟨l, many, n, rfl, hd.ex e1, hn, m0, m1, fun r o r0 r1 hd' => k r _ r0 r1 hd' ((ExB.of e1).trans ExB.upd)⟩⟩
end
section
variable {K : PySem.W.Frag} {c : KC} {H : Hp}
theorem ev_has2 {σ : L2.St} {L : List Addr} {ta te : TE} {k : Kd} {d : PyData} {n : Nat} (h : EvK c L ta σ H k) (h2 : EvQ K L te σ H d) (hn : depK k ≤ n) (hw : ∃ m, fits m d) : Evl.Ev (tHas K c n ta (tCons te tNil)) σ H (.bl (hasK k d)) := fun H1 e Q q => by
  refine ⟨kiOf k, trivial, h H1 e _ fun x H2 hx e2 hk => ?_⟩
  have hk2 := hk.up w_sub
  obtain ⟨dx, fs, hx2, hl⟩ := hk2.insH
  refine ⟨x, dx, fs, rfl, hx2, hl, h2 H2 (e.trans e2) _ fun v H3 e3 hv => ?_⟩
  exact ⟨x, v, k, d, rfl, hk2.up e3, rfl, hn, hv.up w_sub, hw, fun H4 e4 => q H4 ((e2.trans e3).trans e4)⟩
/-- has and the law's own look say the same of every thing -/
theorem things_run {t x : Addr} {xs : List V} {ds : List PyData} {k : Kd} {vs v0 v1 v2 v3 v5 v7 : V} {s9 s10 s11 : Option V} {D : Ends} {tz : TS} (hx : H t = some (.lst xs)) (hd : DqAll K H xs ds) (hw : ∀ d ∈ ds, ∃ m, fits m d) (hk : Kin c H k x) (hs : Dp K H vs (kdD k)) (hn : depK k ≤ 4)
    (q : ∀ H' s11, Ex H H' → tz D [some v0, some v1, some v2, some v3, some vs, some v5, some (.ref x), some v7, some (.ref t), s9, s10, s11] H') :
    tSeq (tFor (iList K (tVar 8)) (gName 11) (tIfS (tNot (tB (tCallD (spSame K 2) (tCons (tHas K c 4 (tVar 6) (tCons (tVar 11) tNil)) (tCons (tCallD (spIsR K 4) (tCons (tVar 4) (tCons (tVar 11) tNil))) tNil))))) (tRet (tC (V.bl false))) tNext)) tz D
      [some v0, some v1, some v2, some v3, some vs, some v5, some (.ref x), some v7, some (.ref t), s9, s10, s11] H := by
  let Pv : Nat → L2.St → Hp → Prop := fun _ σ' H' => Ex H H' ∧ ∃ s11, σ' = [some v0, some v1, some v2, some v3, some vs, some v5, some (.ref x), some v7, some (.ref t), s9, s10, s11]
  refine ⟨_, rfl, t, rfl, ⟨xs, SqL.of hx⟩, for_it (walk_list (xs := xs)) Pv ⟨Ex.refl _, _, rfl⟩ (fun j σ' H' _ pv => SqL.of (pv.1 t _ hx)) (fun j y σ' HL HM hj pv yp => ?_) (fun σ' HL pv => ?_)⟩
  · obtain ⟨eL, s11, rfl⟩ := pv
    obtain ⟨rfl, hy⟩ := yp
    obtain ⟨dy, hd1, hd2⟩ := dqa_get hd hy
    have hw' := hw dy (List.mem_of_getElem? hd1)
    refine Evl.s_when (b := false) (Evl.et_not (a := true) (Evl.et_B (ev_callD (z := .bl true) (Evl.ea_cons (ev_has (Evl.ev_var rfl) (fun H1 e1 => Evl.ev_var rfl) (hk.up eL) hn (hd2.up eL) hw') (Evl.ea_cons (ev_callD (z := .bl (hasK k dy)) (Evl.ea_cons (Evl.ev_var rfl) (Evl.ea_cons (Evl.ev_var rfl) Evl.ea_nil)) fun H5 e5 Q5 q5 => ⟨vs, y, k, dy, rfl, hs.up (eL.trans e5), hn, hd2.up (eL.trans e5), hw', q5⟩) Evl.ea_nil)) fun H6 e6 Q6 q6 => ⟨_, _, .bool (hasK k dy), rfl, .bl _, .bl _, trivial, q6⟩))) (fun z => nomatch z) (fun _ H7 e7 => ⟨eL.trans e7, _, rfl⟩)
  · obtain ⟨eL, s11, rfl⟩ := pv
    exact q HL s11 eL
/-- all but l and t stays -/
def ExB2 (l t : Addr) (H H' : Hp) : Prop := ∀ a o, a ≠ l → a ≠ t → H a = some o → H' a = some o
theorem ExB2.w {l t : Addr} {H H' : Hp} (e : ExB2 l t H H') : Ex (W [t, l] H) (W [t, l] H') := fun a o h => by
  obtain ⟨h1, na⟩ := w_in h
  exact w_of na (e a o (fun q => na (by rw [q]; simp)) (fun q => na (by rw [q]; simp)) h1)
theorem ExB2.of {l t : Addr} {H H' : Hp} (e : ExB l H H') : ExB2 l t H H' := fun a o n _ h => e a o n h
theorem ExB2.trans {l t : Addr} {H H1 H2 : Hp} (e : ExB2 l t H H1) (e2 : ExB2 l t H1 H2) : ExB2 l t H H2 := fun a o n m h => e2 a o n m (e a o n m h)
theorem ExB2.upd {l t : Addr} {H : Hp} {o : HO} : ExB2 l t H (upd H t o) := fun a u _ n h => by
  rw [upd_ne n]
  exact h
/-- a rule is bent six times, and the things grow -/
theorem bents_run {t l : Addr} {ds : List PyData} {m : Nat} {vr v0 v1 v3 v4 v5 v6 : V} {dr : PyData} {s10 s11 : Option V} {D : Ends} {tz : TS} (g : Gq K [l] H t ds) (hl : ds.length = 12) (hb : ∀ d ∈ ds, bq 20 30 d) (hd : Dr m H l) (hm : m < 500000) (hv : Dq K (W [t, l] H) vr dr) (hbr : bq 7 10 dr)
    (q : ∀ ds' H' s9 s10, ExB2 l t H H' → Gq K [l] H' t ds' → (∀ d ∈ ds', bq 20 30 d) → Dr (m + 1200) H' l → tz D [some v0, some v1, some (.ref l), some v3, some v4, some v5, some v6, some vr, some (.ref t), s9, s10, s11] H') :
    tSeq (tFor (iRng1 (tCons (tC (V.int 6)) tNil)) (gName 10) (tSeq (tAsg (tCallD (spBents K 20) (tCons (tVar 2) (tCons (tOp (rIxL K) (tLst (tCons (tVar 7) (tCons (tVar 9) tNil))) (tCallD spDraw (tCons (tVar 2) (tCons (tC (V.int 2)) tNil)))) tNil))) (gName 9)) (tDrop (tBM K "list" rAppend (tVar 8) (tCons (tVar 9) tNil))))) tz D
      [some v0, some v1, some (.ref l), some v3, some v4, some v5, some v6, some vr, some (.ref t), some vr, s10, s11] H := by
  have tl : t ≠ l := fun e => g.1 (by rw [e]; simp)
  refine Evl.q_forR1 (n := 6) (Evl.ea_cons Evl.ev_c Evl.ea_nil) (by decide) (fun i σ' H' => ExB2 l t H H' ∧ Dr (m + 200 * i) H' l ∧ ∃ ds' v d s10, σ' = [some v0, some v1, some (.ref l), some v3, some v4, some v5, some v6, some vr, some (.ref t), some v, s10, s11] ∧ Gq K [l] H' t ds' ∧ ds'.length = 12 + i ∧ (∀ d ∈ ds', bq 20 30 d) ∧ Dq K (W [t, l] H') v d ∧ bq (7 + i) (10 + i) d)
    (fun H1 e => ⟨ExB2.of (ExB.of e), hd.ex e, ds, vr, dr, _, rfl, g.up e, hl, hb, hv.up (w_ex e), hbr⟩) ?_ ?_
  · rintro i σ' H1 hi ⟨e1, d1, ds', v, d, s10, rfl, g1, l1, b1, hv1, bd⟩
    -- which of the two
    refine ⟨_, rfl, _, rfl, _, rfl, by show 2 ≤ sizeLine; decide, fun p hp => ?_⟩
    have eA : Ex H1 (upd H1 p (.lst [vr, v])) := Ex.new hp
    have hA : (upd H1 p (.lst [vr, v])) p = some (.lst [vr, v]) := upd_same
    have pl : p ≠ l := ne_of_none' hp d1.ne
    generalize upd H1 p (.lst [vr, v]) = HA at eA hA ⊢
    refine draw_runJ (j := 2) (n := m + 200 * i) (l := l) (many := 2) rfl (d1.ex eA) (by omega) Evl.ev_c (by decide) (by decide) fun r H3 r0 r1 d3 e3 => ?_
    have e13 : ExB l H1 H3 := (ExB.of eA).trans e3
    have E3 := e1.trans (ExB2.of e13)
    have g3 := gq_exB g1 e13 (by simp)
    have hv3 : Dq K (W [t, l] H3) v d := hv1.up (ExB2.of e13).w
    have hr3 : Dq K (W [t, l] H3) vr dr := hv.up E3.w
    obtain ⟨u, du, hu, hdu, hbu⟩ : ∃ u du, atI [vr, v] r = some u ∧ Dq K (W [t, l] H3) u du ∧ bq (7 + i) (10 + i) du := by
      rcases (by omega : r = 0 ∨ r = 1) with rfl | rfl
      · exact ⟨vr, dr, rfl, hr3, bq_up (by omega) (by omega) hbr⟩
      · exact ⟨v, d, rfl, hv3, bd⟩
    have hL3 : Hid [t, l] H3 := fun a ha => by
      rcases List.mem_cons.mp ha with z | z
      · rw [z]
        exact g3.ne
      · rw [List.mem_singleton.mp z]
        exact d3.ne
    refine ⟨p, _, r, u, rfl, rfl, SqL.of (e3 p _ pl hA), hu, ?_⟩
    refine ⟨7 + i, by omega, l, u, du, 10 + i, m + 200 * i + 1, [t, l], rfl, d3, by omega, by simp, hL3, hdu, hbu, by omega, fun v' d' H4 e4 d4 hv4 bv4 => ?_⟩
    have g4 := gq_exB g3 e4 (by simp)
    have E4 := E3.trans (ExB2.of e4)
    refine dq_app g4 (Evl.ev_var rfl) (evq_of (L := [t, l]) (Evl.ev_var rfl) hv4) (by omega) fun o H5 e5 g5 => ?_
    have d5 : Dr (m + 200 * (i + 1)) (upd H5 t o) l := (dr_upd ((d4.ex e5).up (by omega)) (Ne.symm tl))
    refine ⟨(E4.trans (ExB2.of (ExB.of e5))).trans ExB2.upd, d5, ds' ++ [d'], v', d', _, rfl, g5, by rw [List.length_append, l1]; rfl, fun z hz => ?_, ?_, bq_up (by omega) (by omega) bv4⟩
    · rcases List.mem_append.mp hz with h | h
      · exact b1 z h
      · rw [List.mem_singleton.mp h]
        exact bq_up (by omega) (by omega) bv4
    · rw [w_upd_in (by simp)]
      exact hv4.up (w_ex e5)
  · rintro σ' H1 ⟨e1, d1, ds', v, d, s10, rfl, g1, l1, b1, hv1, bd⟩
    exact q ds' H1 _ _ e1 g1 b1 d1
end
end U

set_option Elab.async false
set_option linter.all false
set_option maxRecDepth 100000
set_option maxHeartbeats 4000000
/-! the law: its reading -/
namespace U
open PySem PySem.Spec PyProof.Rows L2
open Evl (Ex)
abbrev s_law : Stmt := top 47
abbrev sc_law_N : List Str := ["_law_script", "_law_turn", "_law_draws", "_law_places", "_law_spec_here", "_law_other", "_law_kind", "_law_rule_here", "_law_things", "_law_bent_here", "_law_k", "_law_thing"]
theorem sc_law : FnScope sc_law_N ["_law_script"] (defScope s_law) := ⟨rfl, rfl, rfl, by decide +kernel, rfl, by decide +kernel, by decide +kernel⟩
section
variable {P : Program} {w : World} {K : PySem.W.Frag} {mg : Str → Option Value} {base : Heap} {c : KC}
theorem run_qs {K : PySem.W.Frag} {ta : TA} {σ : L2.St} {H : Hp} {L : List Addr} {ds : List PyData} {Q : List V → Hp → Prop} (h : EvQs K L ta σ H ds) (k : ∀ vs H2, Ex H H2 → DqAll K (W L H2) vs ds → Q vs H2) : ta σ H Q := h H (Ex.refl _) Q k
theorem hid1 {H : Hp} {l : Addr} (h : H l ≠ none) : Hid [l] H := fun a m => by
  rw [List.mem_singleton.mp m]
  exact h
def spLaw7 (K : PySem.W.Frag) : Sp := fun vs H Q _ => ∃ (sa : Addr) (ns : List Int), vs = [.ref sa] ∧ SqL K H sa (ns.map V.int) ∧ ns.length ≤ 63 ∧ ∀ H', Ex H H' → Q (.bl true) H'
theorem law_body {f : Addr} {fd : FuncData} (F : Fun K "law" "law" s_law f fd) (T : TxQ mg) (M : HasM P w K mg base c 4) (O : KOp P w K mg base c) (N : KMk P w K mg base c)
    (D_source : DefAt P w K mg base "_law_source" 1 ["_law_script", "_law_at"] (spSource K)) (D_draw : DefAt P w K mg base "_law_draw" 1 ["_law_draws", "_law_many"] spDraw)
    (D_spec : DefAt P w K mg base "_law_spec" 8 ["_law_draws", "_law_places", "_law_deep"] (spJoint K 2))
    (D_spec1 : DefAt P w K mg base "_law_spec" 6 ["_law_draws", "_law_places", "_law_deep"] (spJoint K 1)) (D_built : DefAt P w K mg base "_law_built" 11 ["_law_spec_here"] (spBuilt K c 4)) (D_rule : DefAt P w K mg base "_law_rule" 8 ["_law_draws", "_law_spec_here", "_law_wide"] (spDrawn K 4))
    (D_bents : DefAt P w K mg base "_law_bent" 24 ["_law_draws", "_law_thing"] (spBents K 20)) (D_is_rule : DefAt P w K mg base "_law_is_rule" 8 ["_law_spec_here", "_law_thing"] (spIsR K 4))
    (D_same : DefAt P w K mg base "_law_same" 3 ["_law_found", "_law_due"] (spSame K 2)) : FnOk P w K mg base CX0 30 f fd ["_law_script"] (spLaw7 K) := by
  refine F.ok sc_law (fun vs H Q E h => ?_) (fun cdv A outer s H vs Q E hr h => ?_)
  · obtain ⟨_, _, rfl, _⟩ := h
    rfl
  · obtain ⟨sa, ns, rfl, hS, hl, k⟩ := h
    refine ⟨_, (pss_cons (ps_for PassesOwn.never rfl (pi_range1 (by rfl) T.m_range (pa_cons pe_int pa_nil)) (pg_name (i := 1) sc_law.nd rfl (by first | exact Or.inl rfl | exact Or.inr rfl))
      (pss_cons (ps_set (i := 2) sc_law.nd rfl (by first | exact Or.inl rfl | exact Or.inr rfl) (pe_callD D_source (by first | exact hr | exact hr.mono (by decide) | exact hr.mono (by omega)) (by rfl) (pa_cons (pv 0) (pa_cons (pv 1) pa_nil))))
      (pss_cons (ps_set (i := 3) sc_law.nd rfl (by first | exact Or.inl rfl | exact Or.inr rfl) (pe_op op_add pe_int (pe_callD D_draw (by first | exact hr | exact hr.mono (by decide) | exact hr.mono (by omega)) (by rfl) (pa_cons (pv 2) (pa_cons pe_int pa_nil)))))
      (pss_cons (ps_par (i := 4) (j := 5) (by rfl) sc_law.nd rfl rfl (by decide) rfl rfl (pa_cons (pe_callD D_spec (by first | exact hr | exact hr.mono (by decide) | exact hr.mono (by omega)) (by rfl) (pa_cons (pv 2) (pa_cons (pv 3) (pa_cons pe_int pa_nil)))) (pa_cons (pe_callD D_spec1 (by first | exact hr | exact hr.mono (by decide) | exact hr.mono (by omega)) (by rfl) (pa_cons (pv 2) (pa_cons (pe_op op_add pe_int (pe_callD D_draw (by first | exact hr | exact hr.mono (by decide) | exact hr.mono (by omega)) (by rfl) (pa_cons (pv 2) (pa_cons pe_int pa_nil)))) (pa_cons pe_int pa_nil)))) pa_nil)) (by rfl))
      (pss_cons (ps_par (i := 6) (j := 7) (by rfl) sc_law.nd rfl rfl (by decide) rfl rfl (pa_cons (pe_callD D_built (by first | exact hr | exact hr.mono (by decide) | exact hr.mono (by omega)) (by rfl) (pa_cons (pv 4) pa_nil)) (pa_cons (pe_callD D_rule (by first | exact hr | exact hr.mono (by decide) | exact hr.mono (by omega)) (by rfl) (pa_cons (pv 2) (pa_cons (pv 4) (pa_cons pe_int pa_nil)))) pa_nil)) (by rfl))
      (pss_cons (ps_set (i := 8) sc_law.nd rfl (by first | exact Or.inl rfl | exact Or.inr rfl) (pe_lst (pa_cons (pv 7) (pa_cons (pe_callD D_rule (by first | exact hr | exact hr.mono (by decide) | exact hr.mono (by omega)) (by rfl) (pa_cons (pv 2) (pa_cons (pv 5) (pa_cons pe_int pa_nil)))) (pa_cons (pe_callTy call_list_of (by rfl) T.m_list (by decide +kernel) (pa_cons (pv 7) pa_nil)) (pa_cons pe_non (pa_cons pe_int (pa_cons pe_str (pa_cons (pe_tup pa_nil) (pa_cons (pe_lst pa_nil) (pa_cons (pe_dnewK) (pa_cons pe_bl (pa_cons (pe_tup (pa_cons (pv 7) pa_nil)) (pa_cons (pv 4) pa_nil))))))))))))))
      (pss_cons (ps_set (i := 9) sc_law.nd rfl (by first | exact Or.inl rfl | exact Or.inr rfl) (pv 7))
      (pss_cons (ps_for PassesOwn.never rfl (pi_range1 (by rfl) T.m_range (pa_cons pe_int pa_nil)) (pg_name (i := 10) sc_law.nd rfl (by first | exact Or.inl rfl | exact Or.inr rfl))
        (pss_cons (ps_set (i := 9) sc_law.nd rfl (by first | exact Or.inl rfl | exact Or.inr rfl) (pe_callD D_bents (by first | exact hr | exact hr.mono (by decide) | exact hr.mono (by omega)) (by rfl) (pa_cons (pv 2) (pa_cons (pe_ix ix_list (pe_lst (pa_cons (pv 7) (pa_cons (pv 9) pa_nil))) (pe_callD D_draw (by first | exact hr | exact hr.mono (by decide) | exact hr.mono (by omega)) (by rfl) (pa_cons (pv 2) (pa_cons pe_int pa_nil))) (fun _ _ => rfl)) pa_nil))))
        (pss_one (ps_expr (pe_bm PySem.F.plainAttrs_list PySem.F.slot_list_append PySem.F.type_list_append mt_append (pv 8) (pa_cons (pv 9) pa_nil))))))
      (pss_cons (ps_for PassesOwn.never rfl (pi_list (pv 8)) (pg_name (i := 11) sc_law.nd rfl (by first | exact Or.inl rfl | exact Or.inr rfl))
        (pss_one (ps_if (pt_not (pt_val (pe_callD D_same (by first | exact hr | exact hr.mono (by decide) | exact hr.mono (by omega)) (by rfl) (pa_cons (pe_has M hr (by omega) (pv 6) (pa_cons (pv 11) pa_nil)) (pa_cons (pe_callD D_is_rule (by first | exact hr | exact hr.mono (by decide) | exact hr.mono (by omega)) (by rfl) (pa_cons (pv 4) (pa_cons (pv 11) pa_nil))) pa_nil))))) (pss_one (ps_ret pe_bl)) pss_nil)))
      (pss_one (ps_if (PW.pt (pw_or (pt_not (pt_val (pe_has M hr (by omega) (pv 6) (pa_cons (pv 7) pa_nil)))) (pw_or (pt_not (pt_val (pe_has M hr (by omega) (pe_k1 O.inv hr (by omega) (pv 6)) (pa_cons (pe_tup (pa_cons pe_str (pa_cons (pv 7) pa_nil))) pa_nil)))) (pw_or1 (pt_not (pt_val (pe_has M hr (by omega) (pe_k2 O.add O.sub hr (by omega) (pv 6) (pv 6)) (pa_cons (pe_tup (pa_cons pe_str (pa_cons (pv 7) pa_nil))) pa_nil)))))))) (pss_one (ps_ret pe_bl)) pss_nil)))))))))))
    (pss_one (ps_ret pe_bl))), ?_⟩
    have sp4 : (4 : Nat) ≤ 4 := Nat.le_refl _
    refine Evl.q_forR1 (n := 5) (Evl.ea_cons Evl.ev_c Evl.ea_nil) (by decide) (fun _ σ' H' => Ex H H' ∧ ∃ o1 o2 o3 o4 o5 o6 o7 o8 o9 o10 o11, σ' = [some (.ref sa), o1, o2, o3, o4, o5, o6, o7, o8, o9, o10, o11])
      (fun H1 e => ⟨e, _, _, _, _, _, _, _, _, _, _, _, rfl⟩) ?_ ?_
    · rintro i σ' H1 hi ⟨e1, o1, o2, o3, o4, o5, o6, o7, o8, o9, o10, o11, rfl⟩
      refine ⟨_, rfl, _, rfl, sa, ns, i, rfl, Evl.ex_l e1 hS, hl, by omega, fun l o hl' hd => ?_⟩
      have hl0 : H l = none := Evl.fresh_back e1 hl'
      have e2 : Ex H (upd H1 l o) := e1.trans (Ex.new hl')
      generalize upd H1 l o = H2 at hd e2 ⊢
      have ml : l ∈ [l] := List.mem_singleton.mpr rfl
      refine draw_runJ (j := 2) (n := 0) (l := l) (many := 3) (by rfl) hd (by decide) Evl.ev_c (by decide) (by decide) fun r1 H3 r10 r11 d3 b3 => ?_
      refine ⟨_, _, rfl, rfl, ?_⟩
      obtain ⟨p, hp⟩ : ∃ p : Int, p = 1 + r1 := ⟨_, rfl⟩
      show tSeq _ _ _ (List.set _ 3 (some (.int (1 + r1)))) H3
      rw [← hp]
      have p1 : 1 ≤ p := by omega
      have p3 : p ≤ 3 := by omega
      refine ⟨_, rfl, _, rfl, l, p, 1, [l], rfl, d3, by decide, ml, hid1 d3.ne, p1, p3, fun vk kd H4 b4 d4 ok dk hk => ?_⟩
      refine ⟨_, rfl, ?_⟩
      refine draw_runJ (j := 2) (n := 100) (l := l) (many := 3) (by rfl) (d4.up (by decide)) (by decide) Evl.ev_c (by decide) (by decide) fun r2 H5 r20 r21 d5 b5 => ?_
      refine ⟨_, _, rfl, rfl, l, 1 + r2, 101, [l], rfl, d5, by decide, ml, hid1 d5.ne, by omega, by omega, fun vo ko H6 b6 d6 ok2 dk2 hk2 => ?_⟩
      refine ⟨_, _, rfl, ?_⟩
      have hk6 : Dp K (W [l] H6) vk (kdD kd) := (hk.up (b5.w ml)).up (b6.w ml)
      refine ⟨_, rfl, vk, kd, p, [l], rfl, hid1 d6.ne, hk6, ok, p1, p3, by omega, fun x H7 hx7 e7 hkin => ?_⟩
      have d7 := d6.ex e7
      refine ⟨_, rfl, _, rfl, l, vk, kd, p, 9, 200, [l], rfl, d7.up (by decide), by decide, ml, hid1 d7.ne, p1, p3, by decide, by decide, hk6.up (w_ex e7), ok, by omega, fun vr r H8 b8 d8 or dr br of hr => ?_⟩
      refine ⟨_, _, rfl, ?_⟩
      refine ⟨_, rfl, ?_⟩
      refine ⟨_, rfl, _, rfl, l, vo, ko, 1 + r2, 9, 600, [l], rfl, d8.up (by decide), by decide, ml, hid1 d8.ne, by omega, by omega, by decide, by decide, (hk2.up (w_ex e7)).up (b8.w ml), ok2, by omega, fun vr2 rr H9 b9 d9 or2 dr2 br2 of2 hr2 => ?_⟩
      have hr9 : Dp K (W [l] H9) vr (rlD true r) := hr.up (b9.w ml)
      have hk9 : Dp K (W [l] H9) vk (kdD kd) := ((hk6.up (w_ex e7)).up (b8.w ml)).up (b9.w ml)
      have kin9 : Kin c (W [l] H9) kd x := (hkin.up (b8.w ml)).up (b9.w ml)
      obtain ⟨dr0, hdr0⟩ : ∃ ds, rlD true r = .tuple ds := by cases r <;> exact ⟨_, rfl⟩
      have hL9 : Hid [l] H9 := hid1 d9.ne
      have hr9' : Dq K (W [l] H9) vr (.tuple dr0) := by rw [← hdr0]; exact hr9.q
      refine run_qs (L := [l]) (evqs_cons (EvGq.dat (egq_list (Evl.ev_var rfl) (.inr hr9') hL9)) (evqs_cons evq_non (evqs_cons evq_int (evqs_cons evq_str (evqs_cons (evq_tup hL9 evqs_nil (by simp)) (evqs_cons (evq_lst hL9 evqs_nil (by simp)) (evqs_cons (evq_dnew hL9) (evqs_cons evq_bl (evqs_cons (evq_tup hL9 (evqs_cons (evq_of (Evl.ev_var rfl) hr9') evqs_nil) (by simp)) (evqs_cons (evq_of (Evl.ev_var rfl) hk9.q) evqs_nil)))))))))) fun vs H10 e10 hvs => ?_
      have lv := dqa_len hvs
      refine ⟨Evl.sz_of (by show vs.length + 2 ≤ 100000; rw [lv]; simp), fun t ht => ?_⟩
      have d10 := d9.ex e10
      have hL10 : Hid [l] H10 := hid1 d10.ne
      have g10 := gq_new hL10 ht (.cons (hr9'.up (w_ex e10)) (.cons ((hr2.q).up (w_ex e10)) hvs))
      have eT : Ex (W [l] H10) (W [t, l] (upd H10 t (.lst (vr :: vr2 :: vs)))) := w_fresh ht
      have d11 := d10.ex (Ex.new (o := .lst (vr :: vr2 :: vs)) ht)
      have eN : Ex H10 (upd H10 t (.lst (vr :: vr2 :: vs))) := Ex.new ht
      generalize upd H10 t (.lst (vr :: vr2 :: vs)) = H11 at g10 eT d11 eN ⊢
      refine Evl.q_asg (v := vr) (Evl.ev_var rfl) fun H12 e12 => ?_
      have W12 : Ex (W [l] H9) (W [t, l] H12) := ((w_ex e10).trans eT).trans (w_ex e12)
      have b0 : bq 7 10 (.tuple dr0) := by rw [← hdr0]; exact bq_rl r 7 br (by omega)
      refine bents_run (t := t) (l := l) (m := 1300) (g10.up e12) rfl ?_ ((d11.ex e12).up (by decide)) (by decide) (hr9'.up W12) b0 fun ds' H13 s9 s10 b13 g13 hb13 d13 => ?_
      · intro z hz
        simp only [List.mem_cons, List.not_mem_nil, or_false] at hz
        have b0L : bq 7 10 (.list dr0) := b0
        rcases hz with rfl | rfl | rfl | rfl | rfl | rfl | rfl | rfl | rfl | rfl | rfl | rfl
        · exact bq_up (by decide) (by decide) b0
        · exact bq_up (by decide) (by decide) (bq_rl rr 7 br2 (by omega))
        · exact bq_up (by decide) (by decide) b0L
        · trivial
        · exact bq_int (by decide)
        · exact bq_str
        · exact ⟨by decide, fun z hz => nomatch hz⟩
        · exact ⟨by decide, fun z hz => nomatch hz⟩
        · rfl
        · exact bq_bool
        · refine ⟨by show 1 ≤ 30; decide, fun z hz => ?_⟩
          rw [List.mem_singleton.mp hz]
          exact bq_up (by decide) (by decide) b0
        · exact bq_up (by decide) (by decide) (bq_kd kd 7 ok p1 p3 (by omega))
      obtain ⟨_, xs13, hx13, ha13⟩ := id g13
      have W13 : Ex (W [l] H9) H13 := (W12.trans b13.w).trans w_sub
      refine things_run (k := kd) hx13 (ha13.up w_sub) (fun d hd => ⟨_, bq_fits (by decide) (hb13 d hd)⟩) (kin9.up W13) (hk9.up W13) (by omega) fun H14 s11 e14 => ?_
      have h1 : hasK kd (.tuple dr0) = true := by rw [← hdr0]; exact hasK_of kd r (by omega) ok or of
      have h2 : hasK (.no kd) (.tuple [.str "not", .tuple dr0]) = true := by
        show (true && hasK kd (.tuple dr0)) = true
        rw [h1]
        rfl
      have h3 : hasK (.any kd kd) (.tuple [.str "second", .tuple dr0]) = true := by
        show ((false && hasK kd (.tuple dr0)) || (true && hasK kd (.tuple dr0))) = true
        rw [h1]
        rfl
      have W14 := W13.trans e14
      have kin14 : Kin c (W [] H14) kd x := by rw [w_nil]; exact kin9.up W14
      have hr14 : Dq K (W [] H14) vr (.tuple dr0) := by rw [w_nil]; exact hr9'.up W14
      have hid0 : Hid [] H14 := fun a ha => nomatch ha
      have hr14' : Dq K H14 vr (.tuple dr0) := hr9'.up W14
      refine Evl.s_when (b := false) (Evl.et_is (Evl.et_or (a := false) (b := false) (Evl.et_not (a := true) (Evl.et_B (Evl.ev_is (ev_has (k := kd) (d := .tuple dr0) (Evl.ev_var rfl) (fun H1 e1 => Evl.ev_var rfl) (kin9.up W14) (by omega) hr14' ⟨_, bq_fits (by decide) b0⟩) (congrArg V.bl h1)))) fun _ =>
        Evl.et_or (a := false) (b := false) (Evl.et_not (a := true) (Evl.et_B (Evl.ev_is (ev_has2 (L := []) (k := .no kd) (d := .tuple [.str "not", .tuple dr0]) (evk_1 (Evl.ev_var rfl) hid0 kin14) (evq_tup hid0 (evqs_cons evq_str (evqs_cons (evq_of (Evl.ev_var rfl) hr14) evqs_nil)) (by simp)) (by show depK kd + 1 ≤ 4; omega) ⟨_, bq_fits (by decide) (bq_two (by decide) b0)⟩) (congrArg V.bl h2)))) fun _ =>
        Evl.et_not (a := true) (Evl.et_B (Evl.ev_is (ev_has2 (L := []) (k := .any kd kd) (d := .tuple [.str "second", .tuple dr0]) (evk_2 (Evl.ev_var rfl) (Evl.ev_var rfl) hid0 kin14 kin14 rfl) (evq_tup hid0 (evqs_cons evq_str (evqs_cons (evq_of (Evl.ev_var rfl) hr14) evqs_nil)) (by simp)) (by show max (depK kd) (depK kd) + 1 ≤ 4; rw [Nat.max_self]; omega) ⟨_, bq_fits (by decide) (bq_two (by decide) b0)⟩) (congrArg V.bl h3)))) rfl) (fun z => nomatch z) (fun _ H15 e15 => ?_)
      have X10 : ExB l H H10 := ((((((((ExB.of e2).trans b3).trans b4).trans b5).trans b6).trans (ExB.of e7)).trans b8).trans b9).trans (ExB.of e10)
      refine ⟨fun a o h => ?_, _, _, _, _, _, _, _, _, _, _, _, rfl⟩
      have nl := ne_of_none h hl0
      have h10 := X10 a o nl h
      exact e15 _ _ (e14 _ _ (b13 a o nl (ne_of_none h10 ht) (e12 _ _ (eN _ _ h10))))
    · rintro σ' H1 ⟨e1, o1, o2, o3, o4, o5, o6, o7, o8, o9, o10, o11, rfl⟩
      exact Evl.s_ret (v := .bl true) Evl.ev_c fun H2 e2 => k H2 (e1.trans e2)
end
end U

set_option Elab.async false
set_option linter.all false
set_option maxRecDepth 100000
set_option maxHeartbeats 8000000
namespace U
open PySem PySem.Spec PyProof.Rows L2
open Evl (Ex)
open C8 (Met Mak)
theorem dn_and : PySem.dunder Operator.BitAnd.info.2 = "__and__" ∧ dunderR Operator.BitAnd.info.2 = "__rand__" := by decide +kernel
theorem dn_or : PySem.dunder Operator.BitOr.info.2 = "__or__" ∧ dunderR Operator.BitOr.info.2 = "__ror__" := by decide +kernel
theorem dn_add : PySem.dunder Operator.Add.info.2 = "__add__" ∧ dunderR Operator.Add.info.2 = "__radd__" := by decide +kernel
theorem all_mk {l : PySem.W.OpenLaw} {w : World} {K : PySem.W.Frag} {h : Heap} {mg : Str → Option Value} {fa fF_is_integer fF_is_integer_or_none fF_is_label fF_is_row fF_is_row_of fF_is_form fF_is_number_of_places fF_is_point fF_check_number_of_places fF_is_row_of_bounds fL_source fL_draw fL_pick fL_same fL_point fL_plain fL_spec fL_built fL_rule fL_range fL_corner fL_part fL_joint fL_pair fL_is_row fL_is_ends fL_is_rule fL_bent fL_law Cha fMha_init fMha_has fMha_invert fMha_and fMha_or fMha_add Cbo fMbo_init fMbo_has fMbo_invert fMbo_and fMbo_or fMbo_add Cri fMri_init fMri_has fMri_invert fMri_and fMri_or fMri_add Cfl fMfl_init fMfl_has fMfl_invert fMfl_and fMfl_or fMfl_add Ctu fMtu_init fMtu_has fMtu_invert fMtu_and fMtu_or fMtu_add Cco fMco_init fMco_has fMco_invert fMco_and fMco_or fMco_add Cpa fMpa_init fMpa_has fMpa_invert fMpa_and fMpa_or fMpa_add : Addr} {tLEAST_PLACES tMOST_PLACES tGREATEST_MOST : Tok}
   {ocF_is_integer kVF_is_integer dcF_is_integer pmF_is_integer cdF_is_integer ctF_is_integer : Value} {odF_is_integer anF_is_integer : Option Addr} {slF_is_integer : Array (Option Value)} {ocF_is_integer_or_none kVF_is_integer_or_none dcF_is_integer_or_none pmF_is_integer_or_none cdF_is_integer_or_none ctF_is_integer_or_none : Value} {odF_is_integer_or_none anF_is_integer_or_none : Option Addr} {slF_is_integer_or_none : Array (Option Value)} {ocF_is_label kVF_is_label dcF_is_label pmF_is_label cdF_is_label ctF_is_label : Value} {odF_is_label anF_is_label : Option Addr} {slF_is_label : Array (Option Value)} {ocF_is_row kVF_is_row dcF_is_row pmF_is_row cdF_is_row ctF_is_row : Value} {odF_is_row anF_is_row : Option Addr} {slF_is_row : Array (Option Value)} {ocF_is_row_of kVF_is_row_of dcF_is_row_of pmF_is_row_of cdF_is_row_of ctF_is_row_of : Value} {odF_is_row_of anF_is_row_of : Option Addr} {slF_is_row_of : Array (Option Value)} {ocF_is_form kVF_is_form dcF_is_form pmF_is_form cdF_is_form ctF_is_form : Value} {odF_is_form anF_is_form : Option Addr} {slF_is_form : Array (Option Value)} {ocF_is_number_of_places kVF_is_number_of_places dcF_is_number_of_places pmF_is_number_of_places cdF_is_number_of_places ctF_is_number_of_places : Value} {odF_is_number_of_places anF_is_number_of_places : Option Addr} {slF_is_number_of_places : Array (Option Value)} {ocF_is_point kVF_is_point dcF_is_point pmF_is_point cdF_is_point ctF_is_point : Value} {odF_is_point anF_is_point : Option Addr} {slF_is_point : Array (Option Value)} {ocF_check_number_of_places kVF_check_number_of_places dcF_check_number_of_places pmF_check_number_of_places cdF_check_number_of_places ctF_check_number_of_places : Value} {odF_check_number_of_places anF_check_number_of_places : Option Addr} {slF_check_number_of_places : Array (Option Value)} {ocF_is_row_of_bounds kVF_is_row_of_bounds dcF_is_row_of_bounds pmF_is_row_of_bounds cdF_is_row_of_bounds ctF_is_row_of_bounds : Value} {odF_is_row_of_bounds anF_is_row_of_bounds : Option Addr} {slF_is_row_of_bounds : Array (Option Value)} {ocL_source kVL_source dcL_source pmL_source cdL_source ctL_source : Value} {odL_source anL_source : Option Addr} {slL_source : Array (Option Value)} {ocL_draw kVL_draw dcL_draw pmL_draw cdL_draw ctL_draw : Value} {odL_draw anL_draw : Option Addr} {slL_draw : Array (Option Value)} {ocL_pick kVL_pick dcL_pick pmL_pick cdL_pick ctL_pick : Value} {odL_pick anL_pick : Option Addr} {slL_pick : Array (Option Value)} {ocL_same kVL_same dcL_same pmL_same cdL_same ctL_same : Value} {odL_same anL_same : Option Addr} {slL_same : Array (Option Value)} {ocL_point kVL_point dcL_point pmL_point cdL_point ctL_point : Value} {odL_point anL_point : Option Addr} {slL_point : Array (Option Value)} {ocL_plain kVL_plain dcL_plain pmL_plain cdL_plain ctL_plain : Value} {odL_plain anL_plain : Option Addr} {slL_plain : Array (Option Value)} {ocL_spec kVL_spec dcL_spec pmL_spec cdL_spec ctL_spec : Value} {odL_spec anL_spec : Option Addr} {slL_spec : Array (Option Value)} {ocL_built kVL_built dcL_built pmL_built cdL_built ctL_built : Value} {odL_built anL_built : Option Addr} {slL_built : Array (Option Value)} {ocL_rule kVL_rule dcL_rule pmL_rule cdL_rule ctL_rule : Value} {odL_rule anL_rule : Option Addr} {slL_rule : Array (Option Value)} {ocL_range kVL_range dcL_range pmL_range cdL_range ctL_range : Value} {odL_range anL_range : Option Addr} {slL_range : Array (Option Value)} {ocL_corner kVL_corner dcL_corner pmL_corner cdL_corner ctL_corner : Value} {odL_corner anL_corner : Option Addr} {slL_corner : Array (Option Value)} {ocL_part kVL_part dcL_part pmL_part cdL_part ctL_part : Value} {odL_part anL_part : Option Addr} {slL_part : Array (Option Value)} {ocL_joint kVL_joint dcL_joint pmL_joint cdL_joint ctL_joint : Value} {odL_joint anL_joint : Option Addr} {slL_joint : Array (Option Value)} {ocL_pair kVL_pair dcL_pair pmL_pair cdL_pair ctL_pair : Value} {odL_pair anL_pair : Option Addr} {slL_pair : Array (Option Value)} {ocL_is_row kVL_is_row dcL_is_row pmL_is_row cdL_is_row ctL_is_row : Value} {odL_is_row anL_is_row : Option Addr} {slL_is_row : Array (Option Value)} {ocL_is_ends kVL_is_ends dcL_is_ends pmL_is_ends cdL_is_ends ctL_is_ends : Value} {odL_is_ends anL_is_ends : Option Addr} {slL_is_ends : Array (Option Value)} {ocL_is_rule kVL_is_rule dcL_is_rule pmL_is_rule cdL_is_rule ctL_is_rule : Value} {odL_is_rule anL_is_rule : Option Addr} {slL_is_rule : Array (Option Value)} {ocL_bent kVL_bent dcL_bent pmL_bent cdL_bent ctL_bent : Value} {odL_bent anL_bent : Option Addr} {slL_bent : Array (Option Value)} {ocL_law kVL_law dcL_law pmL_law cdL_law ctL_law : Value} {odL_law anL_law : Option Addr} {slL_law : Array (Option Value)} {ocMha_init kVMha_init dcMha_init pmMha_init cdMha_init ctMha_init : Value} {odMha_init anMha_init : Option Addr} {slMha_init : Array (Option Value)} {ocMha_has kVMha_has dcMha_has pmMha_has cdMha_has ctMha_has : Value} {odMha_has anMha_has : Option Addr} {slMha_has : Array (Option Value)} {ocMha_invert kVMha_invert dcMha_invert pmMha_invert cdMha_invert ctMha_invert : Value} {odMha_invert anMha_invert : Option Addr} {slMha_invert : Array (Option Value)} {ocMha_and kVMha_and dcMha_and pmMha_and cdMha_and ctMha_and : Value} {odMha_and anMha_and : Option Addr} {slMha_and : Array (Option Value)} {ocMha_or kVMha_or dcMha_or pmMha_or cdMha_or ctMha_or : Value} {odMha_or anMha_or : Option Addr} {slMha_or : Array (Option Value)} {ocMha_add kVMha_add dcMha_add pmMha_add cdMha_add ctMha_add : Value} {odMha_add anMha_add : Option Addr} {slMha_add : Array (Option Value)} {ocMbo_init kVMbo_init dcMbo_init pmMbo_init cdMbo_init ctMbo_init : Value} {odMbo_init anMbo_init : Option Addr} {slMbo_init : Array (Option Value)} {ocMbo_has kVMbo_has dcMbo_has pmMbo_has cdMbo_has ctMbo_has : Value} {odMbo_has anMbo_has : Option Addr} {slMbo_has : Array (Option Value)} {ocMbo_invert kVMbo_invert dcMbo_invert pmMbo_invert cdMbo_invert ctMbo_invert : Value} {odMbo_invert anMbo_invert : Option Addr} {slMbo_invert : Array (Option Value)} {ocMbo_and kVMbo_and dcMbo_and pmMbo_and cdMbo_and ctMbo_and : Value} {odMbo_and anMbo_and : Option Addr} {slMbo_and : Array (Option Value)} {ocMbo_or kVMbo_or dcMbo_or pmMbo_or cdMbo_or ctMbo_or : Value} {odMbo_or anMbo_or : Option Addr} {slMbo_or : Array (Option Value)} {ocMbo_add kVMbo_add dcMbo_add pmMbo_add cdMbo_add ctMbo_add : Value} {odMbo_add anMbo_add : Option Addr} {slMbo_add : Array (Option Value)} {ocMri_init kVMri_init dcMri_init pmMri_init cdMri_init ctMri_init : Value} {odMri_init anMri_init : Option Addr} {slMri_init : Array (Option Value)} {ocMri_has kVMri_has dcMri_has pmMri_has cdMri_has ctMri_has : Value} {odMri_has anMri_has : Option Addr} {slMri_has : Array (Option Value)} {ocMri_invert kVMri_invert dcMri_invert pmMri_invert cdMri_invert ctMri_invert : Value} {odMri_invert anMri_invert : Option Addr} {slMri_invert : Array (Option Value)} {ocMri_and kVMri_and dcMri_and pmMri_and cdMri_and ctMri_and : Value} {odMri_and anMri_and : Option Addr} {slMri_and : Array (Option Value)} {ocMri_or kVMri_or dcMri_or pmMri_or cdMri_or ctMri_or : Value} {odMri_or anMri_or : Option Addr} {slMri_or : Array (Option Value)} {ocMri_add kVMri_add dcMri_add pmMri_add cdMri_add ctMri_add : Value} {odMri_add anMri_add : Option Addr} {slMri_add : Array (Option Value)} {ocMfl_init kVMfl_init dcMfl_init pmMfl_init cdMfl_init ctMfl_init : Value} {odMfl_init anMfl_init : Option Addr} {slMfl_init : Array (Option Value)} {ocMfl_has kVMfl_has dcMfl_has pmMfl_has cdMfl_has ctMfl_has : Value} {odMfl_has anMfl_has : Option Addr} {slMfl_has : Array (Option Value)} {ocMfl_invert kVMfl_invert dcMfl_invert pmMfl_invert cdMfl_invert ctMfl_invert : Value} {odMfl_invert anMfl_invert : Option Addr} {slMfl_invert : Array (Option Value)} {ocMfl_and kVMfl_and dcMfl_and pmMfl_and cdMfl_and ctMfl_and : Value} {odMfl_and anMfl_and : Option Addr} {slMfl_and : Array (Option Value)} {ocMfl_or kVMfl_or dcMfl_or pmMfl_or cdMfl_or ctMfl_or : Value} {odMfl_or anMfl_or : Option Addr} {slMfl_or : Array (Option Value)} {ocMfl_add kVMfl_add dcMfl_add pmMfl_add cdMfl_add ctMfl_add : Value} {odMfl_add anMfl_add : Option Addr} {slMfl_add : Array (Option Value)} {ocMtu_init kVMtu_init dcMtu_init pmMtu_init cdMtu_init ctMtu_init : Value} {odMtu_init anMtu_init : Option Addr} {slMtu_init : Array (Option Value)} {ocMtu_has kVMtu_has dcMtu_has pmMtu_has cdMtu_has ctMtu_has : Value} {odMtu_has anMtu_has : Option Addr} {slMtu_has : Array (Option Value)} {ocMtu_invert kVMtu_invert dcMtu_invert pmMtu_invert cdMtu_invert ctMtu_invert : Value} {odMtu_invert anMtu_invert : Option Addr} {slMtu_invert : Array (Option Value)} {ocMtu_and kVMtu_and dcMtu_and pmMtu_and cdMtu_and ctMtu_and : Value} {odMtu_and anMtu_and : Option Addr} {slMtu_and : Array (Option Value)} {ocMtu_or kVMtu_or dcMtu_or pmMtu_or cdMtu_or ctMtu_or : Value} {odMtu_or anMtu_or : Option Addr} {slMtu_or : Array (Option Value)} {ocMtu_add kVMtu_add dcMtu_add pmMtu_add cdMtu_add ctMtu_add : Value} {odMtu_add anMtu_add : Option Addr} {slMtu_add : Array (Option Value)} {ocMco_init kVMco_init dcMco_init pmMco_init cdMco_init ctMco_init : Value} {odMco_init anMco_init : Option Addr} {slMco_init : Array (Option Value)} {ocMco_has kVMco_has dcMco_has pmMco_has cdMco_has ctMco_has : Value} {odMco_has anMco_has : Option Addr} {slMco_has : Array (Option Value)} {ocMco_invert kVMco_invert dcMco_invert pmMco_invert cdMco_invert ctMco_invert : Value} {odMco_invert anMco_invert : Option Addr} {slMco_invert : Array (Option Value)} {ocMco_and kVMco_and dcMco_and pmMco_and cdMco_and ctMco_and : Value} {odMco_and anMco_and : Option Addr} {slMco_and : Array (Option Value)} {ocMco_or kVMco_or dcMco_or pmMco_or cdMco_or ctMco_or : Value} {odMco_or anMco_or : Option Addr} {slMco_or : Array (Option Value)} {ocMco_add kVMco_add dcMco_add pmMco_add cdMco_add ctMco_add : Value} {odMco_add anMco_add : Option Addr} {slMco_add : Array (Option Value)} {ocMpa_init kVMpa_init dcMpa_init pmMpa_init cdMpa_init ctMpa_init : Value} {odMpa_init anMpa_init : Option Addr} {slMpa_init : Array (Option Value)} {ocMpa_has kVMpa_has dcMpa_has pmMpa_has cdMpa_has ctMpa_has : Value} {odMpa_has anMpa_has : Option Addr} {slMpa_has : Array (Option Value)} {ocMpa_invert kVMpa_invert dcMpa_invert pmMpa_invert cdMpa_invert ctMpa_invert : Value} {odMpa_invert anMpa_invert : Option Addr} {slMpa_invert : Array (Option Value)} {ocMpa_and kVMpa_and dcMpa_and pmMpa_and cdMpa_and ctMpa_and : Value} {odMpa_and anMpa_and : Option Addr} {slMpa_and : Array (Option Value)} {ocMpa_or kVMpa_or dcMpa_or pmMpa_or cdMpa_or ctMpa_or : Value} {odMpa_or anMpa_or : Option Addr} {slMpa_or : Array (Option Value)} {ocMpa_add kVMpa_add dcMpa_add pmMpa_add cdMpa_add ctMpa_add : Value} {odMpa_add anMpa_add : Option Addr} {slMpa_add : Array (Option Value)} (X : K.In h) (G : h.Ns mainGlobals mg) (hfa : mg "law" = some (.ref fa))
    (aF_is_integer : PySem.W.nsIn K mainGlobals "is_integer" = some (some (.ref fF_is_integer)))
    (lF_is_integer : K.lookup fF_is_integer = some ⟨ocF_is_integer, odF_is_integer, .func (PySem.W.fnOf "is_integer" "is_integer" (defArgs s_is_integer) (defBody s_is_integer) (defScope s_is_integer) .none kVF_is_integer dcF_is_integer pmF_is_integer anF_is_integer cdF_is_integer ctF_is_integer), slF_is_integer⟩)
    (cF_is_integer : PySem.W.codeIn K cdF_is_integer "is_integer" = true)
    (kF_is_integer : PySem.W.keepIn K (.ref fF_is_integer) = true)
    (aF_is_integer_or_none : PySem.W.nsIn K mainGlobals "is_integer_or_none" = some (some (.ref fF_is_integer_or_none)))
    (lF_is_integer_or_none : K.lookup fF_is_integer_or_none = some ⟨ocF_is_integer_or_none, odF_is_integer_or_none, .func (PySem.W.fnOf "is_integer_or_none" "is_integer_or_none" (defArgs s_is_integer_or_none) (defBody s_is_integer_or_none) (defScope s_is_integer_or_none) .none kVF_is_integer_or_none dcF_is_integer_or_none pmF_is_integer_or_none anF_is_integer_or_none cdF_is_integer_or_none ctF_is_integer_or_none), slF_is_integer_or_none⟩)
    (cF_is_integer_or_none : PySem.W.codeIn K cdF_is_integer_or_none "is_integer_or_none" = true)
    (kF_is_integer_or_none : PySem.W.keepIn K (.ref fF_is_integer_or_none) = true)
    (aF_is_label : PySem.W.nsIn K mainGlobals "is_label" = some (some (.ref fF_is_label)))
    (lF_is_label : K.lookup fF_is_label = some ⟨ocF_is_label, odF_is_label, .func (PySem.W.fnOf "is_label" "is_label" (defArgs s_is_label) (defBody s_is_label) (defScope s_is_label) .none kVF_is_label dcF_is_label pmF_is_label anF_is_label cdF_is_label ctF_is_label), slF_is_label⟩)
    (cF_is_label : PySem.W.codeIn K cdF_is_label "is_label" = true)
    (kF_is_label : PySem.W.keepIn K (.ref fF_is_label) = true)
    (aF_is_row : PySem.W.nsIn K mainGlobals "is_row" = some (some (.ref fF_is_row)))
    (lF_is_row : K.lookup fF_is_row = some ⟨ocF_is_row, odF_is_row, .func (PySem.W.fnOf "is_row" "is_row" (defArgs s_is_row) (defBody s_is_row) (defScope s_is_row) .none kVF_is_row dcF_is_row pmF_is_row anF_is_row cdF_is_row ctF_is_row), slF_is_row⟩)
    (cF_is_row : PySem.W.codeIn K cdF_is_row "is_row" = true)
    (kF_is_row : PySem.W.keepIn K (.ref fF_is_row) = true)
    (aF_is_row_of : PySem.W.nsIn K mainGlobals "is_row_of" = some (some (.ref fF_is_row_of)))
    (lF_is_row_of : K.lookup fF_is_row_of = some ⟨ocF_is_row_of, odF_is_row_of, .func (PySem.W.fnOf "is_row_of" "is_row_of" (defArgs s_is_row_of) (defBody s_is_row_of) (defScope s_is_row_of) .none kVF_is_row_of dcF_is_row_of pmF_is_row_of anF_is_row_of cdF_is_row_of ctF_is_row_of), slF_is_row_of⟩)
    (cF_is_row_of : PySem.W.codeIn K cdF_is_row_of "is_row_of" = true)
    (kF_is_row_of : PySem.W.keepIn K (.ref fF_is_row_of) = true)
    (aF_is_form : PySem.W.nsIn K mainGlobals "is_form" = some (some (.ref fF_is_form)))
    (lF_is_form : K.lookup fF_is_form = some ⟨ocF_is_form, odF_is_form, .func (PySem.W.fnOf "is_form" "is_form" (defArgs s_is_form) (defBody s_is_form) (defScope s_is_form) .none kVF_is_form dcF_is_form pmF_is_form anF_is_form cdF_is_form ctF_is_form), slF_is_form⟩)
    (cF_is_form : PySem.W.codeIn K cdF_is_form "is_form" = true)
    (kF_is_form : PySem.W.keepIn K (.ref fF_is_form) = true)
    (aF_is_number_of_places : PySem.W.nsIn K mainGlobals "is_number_of_places" = some (some (.ref fF_is_number_of_places)))
    (lF_is_number_of_places : K.lookup fF_is_number_of_places = some ⟨ocF_is_number_of_places, odF_is_number_of_places, .func (PySem.W.fnOf "is_number_of_places" "is_number_of_places" (defArgs s_is_number_of_places) (defBody s_is_number_of_places) (defScope s_is_number_of_places) .none kVF_is_number_of_places dcF_is_number_of_places pmF_is_number_of_places anF_is_number_of_places cdF_is_number_of_places ctF_is_number_of_places), slF_is_number_of_places⟩)
    (cF_is_number_of_places : PySem.W.codeIn K cdF_is_number_of_places "is_number_of_places" = true)
    (kF_is_number_of_places : PySem.W.keepIn K (.ref fF_is_number_of_places) = true)
    (aF_is_point : PySem.W.nsIn K mainGlobals "is_point" = some (some (.ref fF_is_point)))
    (lF_is_point : K.lookup fF_is_point = some ⟨ocF_is_point, odF_is_point, .func (PySem.W.fnOf "is_point" "is_point" (defArgs s_is_point) (defBody s_is_point) (defScope s_is_point) .none kVF_is_point dcF_is_point pmF_is_point anF_is_point cdF_is_point ctF_is_point), slF_is_point⟩)
    (cF_is_point : PySem.W.codeIn K cdF_is_point "is_point" = true)
    (kF_is_point : PySem.W.keepIn K (.ref fF_is_point) = true)
    (aF_check_number_of_places : PySem.W.nsIn K mainGlobals "_check_number_of_places" = some (some (.ref fF_check_number_of_places)))
    (lF_check_number_of_places : K.lookup fF_check_number_of_places = some ⟨ocF_check_number_of_places, odF_check_number_of_places, .func (PySem.W.fnOf "_check_number_of_places" "_check_number_of_places" (defArgs s_check_number_of_places) (defBody s_check_number_of_places) (defScope s_check_number_of_places) .none kVF_check_number_of_places dcF_check_number_of_places pmF_check_number_of_places anF_check_number_of_places cdF_check_number_of_places ctF_check_number_of_places), slF_check_number_of_places⟩)
    (cF_check_number_of_places : PySem.W.codeIn K cdF_check_number_of_places "_check_number_of_places" = true)
    (kF_check_number_of_places : PySem.W.keepIn K (.ref fF_check_number_of_places) = true)
    (aF_is_row_of_bounds : PySem.W.nsIn K mainGlobals "_is_row_of_bounds" = some (some (.ref fF_is_row_of_bounds)))
    (lF_is_row_of_bounds : K.lookup fF_is_row_of_bounds = some ⟨ocF_is_row_of_bounds, odF_is_row_of_bounds, .func (PySem.W.fnOf "_is_row_of_bounds" "_is_row_of_bounds" (defArgs s_is_row_of_bounds) (defBody s_is_row_of_bounds) (defScope s_is_row_of_bounds) .none kVF_is_row_of_bounds dcF_is_row_of_bounds pmF_is_row_of_bounds anF_is_row_of_bounds cdF_is_row_of_bounds ctF_is_row_of_bounds), slF_is_row_of_bounds⟩)
    (cF_is_row_of_bounds : PySem.W.codeIn K cdF_is_row_of_bounds "_is_row_of_bounds" = true)
    (kF_is_row_of_bounds : PySem.W.keepIn K (.ref fF_is_row_of_bounds) = true)
    (aL_source : PySem.W.nsIn K mainGlobals "_law_source" = some (some (.ref fL_source)))
    (lL_source : K.lookup fL_source = some ⟨ocL_source, odL_source, .func (PySem.W.fnOf "_law_source" "_law_source" (defArgs s_source) (defBody s_source) (defScope s_source) .none kVL_source dcL_source pmL_source anL_source cdL_source ctL_source), slL_source⟩)
    (cL_source : PySem.W.codeIn K cdL_source "_law_source" = true)
    (kL_source : PySem.W.keepIn K (.ref fL_source) = true)
    (aL_draw : PySem.W.nsIn K mainGlobals "_law_draw" = some (some (.ref fL_draw)))
    (lL_draw : K.lookup fL_draw = some ⟨ocL_draw, odL_draw, .func (PySem.W.fnOf "_law_draw" "_law_draw" (defArgs s_draw) (defBody s_draw) (defScope s_draw) .none kVL_draw dcL_draw pmL_draw anL_draw cdL_draw ctL_draw), slL_draw⟩)
    (cL_draw : PySem.W.codeIn K cdL_draw "_law_draw" = true)
    (kL_draw : PySem.W.keepIn K (.ref fL_draw) = true)
    (aL_pick : PySem.W.nsIn K mainGlobals "_law_pick" = some (some (.ref fL_pick)))
    (lL_pick : K.lookup fL_pick = some ⟨ocL_pick, odL_pick, .func (PySem.W.fnOf "_law_pick" "_law_pick" (defArgs s_pick) (defBody s_pick) (defScope s_pick) .none kVL_pick dcL_pick pmL_pick anL_pick cdL_pick ctL_pick), slL_pick⟩)
    (cL_pick : PySem.W.codeIn K cdL_pick "_law_pick" = true)
    (kL_pick : PySem.W.keepIn K (.ref fL_pick) = true)
    (aL_same : PySem.W.nsIn K mainGlobals "_law_same" = some (some (.ref fL_same)))
    (lL_same : K.lookup fL_same = some ⟨ocL_same, odL_same, .func (PySem.W.fnOf "_law_same" "_law_same" (defArgs s_same) (defBody s_same) (defScope s_same) .none kVL_same dcL_same pmL_same anL_same cdL_same ctL_same), slL_same⟩)
    (cL_same : PySem.W.codeIn K cdL_same "_law_same" = true)
    (kL_same : PySem.W.keepIn K (.ref fL_same) = true)
    (aL_point : PySem.W.nsIn K mainGlobals "_law_point" = some (some (.ref fL_point)))
    (lL_point : K.lookup fL_point = some ⟨ocL_point, odL_point, .func (PySem.W.fnOf "_law_point" "_law_point" (defArgs s_point) (defBody s_point) (defScope s_point) .none kVL_point dcL_point pmL_point anL_point cdL_point ctL_point), slL_point⟩)
    (cL_point : PySem.W.codeIn K cdL_point "_law_point" = true)
    (kL_point : PySem.W.keepIn K (.ref fL_point) = true)
    (aL_plain : PySem.W.nsIn K mainGlobals "_law_plain" = some (some (.ref fL_plain)))
    (lL_plain : K.lookup fL_plain = some ⟨ocL_plain, odL_plain, .func (PySem.W.fnOf "_law_plain" "_law_plain" (defArgs s_plain) (defBody s_plain) (defScope s_plain) .none kVL_plain dcL_plain pmL_plain anL_plain cdL_plain ctL_plain), slL_plain⟩)
    (cL_plain : PySem.W.codeIn K cdL_plain "_law_plain" = true)
    (kL_plain : PySem.W.keepIn K (.ref fL_plain) = true)
    (aL_spec : PySem.W.nsIn K mainGlobals "_law_spec" = some (some (.ref fL_spec)))
    (lL_spec : K.lookup fL_spec = some ⟨ocL_spec, odL_spec, .func (PySem.W.fnOf "_law_spec" "_law_spec" (defArgs s_spec) (defBody s_spec) (defScope s_spec) .none kVL_spec dcL_spec pmL_spec anL_spec cdL_spec ctL_spec), slL_spec⟩)
    (cL_spec : PySem.W.codeIn K cdL_spec "_law_spec" = true)
    (kL_spec : PySem.W.keepIn K (.ref fL_spec) = true)
    (aL_built : PySem.W.nsIn K mainGlobals "_law_built" = some (some (.ref fL_built)))
    (lL_built : K.lookup fL_built = some ⟨ocL_built, odL_built, .func (PySem.W.fnOf "_law_built" "_law_built" (defArgs s_built) (defBody s_built) (defScope s_built) .none kVL_built dcL_built pmL_built anL_built cdL_built ctL_built), slL_built⟩)
    (cL_built : PySem.W.codeIn K cdL_built "_law_built" = true)
    (kL_built : PySem.W.keepIn K (.ref fL_built) = true)
    (aL_rule : PySem.W.nsIn K mainGlobals "_law_rule" = some (some (.ref fL_rule)))
    (lL_rule : K.lookup fL_rule = some ⟨ocL_rule, odL_rule, .func (PySem.W.fnOf "_law_rule" "_law_rule" (defArgs s_rule) (defBody s_rule) (defScope s_rule) .none kVL_rule dcL_rule pmL_rule anL_rule cdL_rule ctL_rule), slL_rule⟩)
    (cL_rule : PySem.W.codeIn K cdL_rule "_law_rule" = true)
    (kL_rule : PySem.W.keepIn K (.ref fL_rule) = true)
    (aL_range : PySem.W.nsIn K mainGlobals "_law_range" = some (some (.ref fL_range)))
    (lL_range : K.lookup fL_range = some ⟨ocL_range, odL_range, .func (PySem.W.fnOf "_law_range" "_law_range" (defArgs s_range) (defBody s_range) (defScope s_range) .none kVL_range dcL_range pmL_range anL_range cdL_range ctL_range), slL_range⟩)
    (cL_range : PySem.W.codeIn K cdL_range "_law_range" = true)
    (kL_range : PySem.W.keepIn K (.ref fL_range) = true)
    (aL_corner : PySem.W.nsIn K mainGlobals "_law_corner" = some (some (.ref fL_corner)))
    (lL_corner : K.lookup fL_corner = some ⟨ocL_corner, odL_corner, .func (PySem.W.fnOf "_law_corner" "_law_corner" (defArgs s_corner) (defBody s_corner) (defScope s_corner) .none kVL_corner dcL_corner pmL_corner anL_corner cdL_corner ctL_corner), slL_corner⟩)
    (cL_corner : PySem.W.codeIn K cdL_corner "_law_corner" = true)
    (kL_corner : PySem.W.keepIn K (.ref fL_corner) = true)
    (aL_part : PySem.W.nsIn K mainGlobals "_law_part" = some (some (.ref fL_part)))
    (lL_part : K.lookup fL_part = some ⟨ocL_part, odL_part, .func (PySem.W.fnOf "_law_part" "_law_part" (defArgs s_part) (defBody s_part) (defScope s_part) .none kVL_part dcL_part pmL_part anL_part cdL_part ctL_part), slL_part⟩)
    (cL_part : PySem.W.codeIn K cdL_part "_law_part" = true)
    (kL_part : PySem.W.keepIn K (.ref fL_part) = true)
    (aL_joint : PySem.W.nsIn K mainGlobals "_law_joint" = some (some (.ref fL_joint)))
    (lL_joint : K.lookup fL_joint = some ⟨ocL_joint, odL_joint, .func (PySem.W.fnOf "_law_joint" "_law_joint" (defArgs s_joint) (defBody s_joint) (defScope s_joint) .none kVL_joint dcL_joint pmL_joint anL_joint cdL_joint ctL_joint), slL_joint⟩)
    (cL_joint : PySem.W.codeIn K cdL_joint "_law_joint" = true)
    (kL_joint : PySem.W.keepIn K (.ref fL_joint) = true)
    (aL_pair : PySem.W.nsIn K mainGlobals "_law_pair" = some (some (.ref fL_pair)))
    (lL_pair : K.lookup fL_pair = some ⟨ocL_pair, odL_pair, .func (PySem.W.fnOf "_law_pair" "_law_pair" (defArgs s_pair) (defBody s_pair) (defScope s_pair) .none kVL_pair dcL_pair pmL_pair anL_pair cdL_pair ctL_pair), slL_pair⟩)
    (cL_pair : PySem.W.codeIn K cdL_pair "_law_pair" = true)
    (kL_pair : PySem.W.keepIn K (.ref fL_pair) = true)
    (aL_is_row : PySem.W.nsIn K mainGlobals "_law_is_row" = some (some (.ref fL_is_row)))
    (lL_is_row : K.lookup fL_is_row = some ⟨ocL_is_row, odL_is_row, .func (PySem.W.fnOf "_law_is_row" "_law_is_row" (defArgs s_Lis_row) (defBody s_Lis_row) (defScope s_Lis_row) .none kVL_is_row dcL_is_row pmL_is_row anL_is_row cdL_is_row ctL_is_row), slL_is_row⟩)
    (cL_is_row : PySem.W.codeIn K cdL_is_row "_law_is_row" = true)
    (kL_is_row : PySem.W.keepIn K (.ref fL_is_row) = true)
    (aL_is_ends : PySem.W.nsIn K mainGlobals "_law_is_ends" = some (some (.ref fL_is_ends)))
    (lL_is_ends : K.lookup fL_is_ends = some ⟨ocL_is_ends, odL_is_ends, .func (PySem.W.fnOf "_law_is_ends" "_law_is_ends" (defArgs s_is_ends) (defBody s_is_ends) (defScope s_is_ends) .none kVL_is_ends dcL_is_ends pmL_is_ends anL_is_ends cdL_is_ends ctL_is_ends), slL_is_ends⟩)
    (cL_is_ends : PySem.W.codeIn K cdL_is_ends "_law_is_ends" = true)
    (kL_is_ends : PySem.W.keepIn K (.ref fL_is_ends) = true)
    (aL_is_rule : PySem.W.nsIn K mainGlobals "_law_is_rule" = some (some (.ref fL_is_rule)))
    (lL_is_rule : K.lookup fL_is_rule = some ⟨ocL_is_rule, odL_is_rule, .func (PySem.W.fnOf "_law_is_rule" "_law_is_rule" (defArgs s_is_rule) (defBody s_is_rule) (defScope s_is_rule) .none kVL_is_rule dcL_is_rule pmL_is_rule anL_is_rule cdL_is_rule ctL_is_rule), slL_is_rule⟩)
    (cL_is_rule : PySem.W.codeIn K cdL_is_rule "_law_is_rule" = true)
    (kL_is_rule : PySem.W.keepIn K (.ref fL_is_rule) = true)
    (aL_bent : PySem.W.nsIn K mainGlobals "_law_bent" = some (some (.ref fL_bent)))
    (lL_bent : K.lookup fL_bent = some ⟨ocL_bent, odL_bent, .func (PySem.W.fnOf "_law_bent" "_law_bent" (defArgs s_bent) (defBody s_bent) (defScope s_bent) .none kVL_bent dcL_bent pmL_bent anL_bent cdL_bent ctL_bent), slL_bent⟩)
    (cL_bent : PySem.W.codeIn K cdL_bent "_law_bent" = true)
    (kL_bent : PySem.W.keepIn K (.ref fL_bent) = true)
    (aL_law : PySem.W.nsIn K mainGlobals "law" = some (some (.ref fL_law)))
    (lL_law : K.lookup fL_law = some ⟨ocL_law, odL_law, .func (PySem.W.fnOf "law" "law" (defArgs s_law) (defBody s_law) (defScope s_law) .none kVL_law dcL_law pmL_law anL_law cdL_law ctL_law), slL_law⟩)
    (cL_law : PySem.W.codeIn K cdL_law "law" = true)
    (kL_law : PySem.W.keepIn K (.ref fL_law) = true)
    (aCha : PySem.W.nsIn K mainGlobals "Halves" = some (some (.ref Cha)))
    (pgha : PySem.W.plainGet K Cha Str.empty = true)
    (hdha : PySem.W.hasDictIn K Cha = true)
    (poha : PySem.W.plainOver K Cha = true)
    (saha : PySem.W.findIn K (.ref Cha) "__setattr__" = some (some (.builtin "object.__setattr__")))
    (mkha : PySem.W.makesIn K Cha = true)
    (kcha : PySem.W.keepIn K (.ref Cha) = true)
    (sfha : PySem.W.selfFirst K Cha = true)
    (nha_places : PySem.W.findIn K (.ref Cha) "places" = some none)
    (nha_most : PySem.W.findIn K (.ref Cha) "most" = some none)
    (nha_kind : PySem.W.findIn K (.ref Cha) "kind" = some none)
    (nha_word : PySem.W.findIn K (.ref Cha) "word" = some none)
    (nha_one : PySem.W.findIn K (.ref Cha) "one" = some none)
    (nha_other : PySem.W.findIn K (.ref Cha) "other" = some none)
    (rha_rand : PySem.W.findIn K (.ref Cha) "__rand__" = some none)
    (rha_ror : PySem.W.findIn K (.ref Cha) "__ror__" = some none)
    (rha_radd : PySem.W.findIn K (.ref Cha) "__radd__" = some none)
    (aMha_init : PySem.W.findIn K (.ref Cha) "__init__" = some (some (.ref fMha_init)))
    (iMha_init : PySem.W.isFn K (.ref fMha_init) = true)
    (lMha_init : K.lookup fMha_init = some ⟨ocMha_init, odMha_init, .func (PySem.W.fnOf "__init__" "Halves.__init__" (defArgs s_Halves_init) (defBody s_Halves_init) (defScope s_Halves_init) .none kVMha_init dcMha_init pmMha_init anMha_init cdMha_init ctMha_init), slMha_init⟩)
    (cMha_init : PySem.W.codeIn K cdMha_init "Halves.__init__" = true)
    (kMha_init : PySem.W.keepIn K (.ref fMha_init) = true)
    (aMha_has : PySem.W.findIn K (.ref Cha) "has" = some (some (.ref fMha_has)))
    (iMha_has : PySem.W.isFn K (.ref fMha_has) = true)
    (lMha_has : K.lookup fMha_has = some ⟨ocMha_has, odMha_has, .func (PySem.W.fnOf "has" "Halves.has" (defArgs s_Halves_has) (defBody s_Halves_has) (defScope s_Halves_has) .none kVMha_has dcMha_has pmMha_has anMha_has cdMha_has ctMha_has), slMha_has⟩)
    (cMha_has : PySem.W.codeIn K cdMha_has "Halves.has" = true)
    (kMha_has : PySem.W.keepIn K (.ref fMha_has) = true)
    (aMha_invert : PySem.W.findIn K (.ref Cha) "__invert__" = some (some (.ref fMha_invert)))
    (iMha_invert : PySem.W.isFn K (.ref fMha_invert) = true)
    (lMha_invert : K.lookup fMha_invert = some ⟨ocMha_invert, odMha_invert, .func (PySem.W.fnOf "__invert__" "Halves.__invert__" (defArgs s_Halves_invert) (defBody s_Halves_invert) (defScope s_Halves_invert) .none kVMha_invert dcMha_invert pmMha_invert anMha_invert cdMha_invert ctMha_invert), slMha_invert⟩)
    (cMha_invert : PySem.W.codeIn K cdMha_invert "Halves.__invert__" = true)
    (kMha_invert : PySem.W.keepIn K (.ref fMha_invert) = true)
    (aMha_and : PySem.W.findIn K (.ref Cha) "__and__" = some (some (.ref fMha_and)))
    (iMha_and : PySem.W.isFn K (.ref fMha_and) = true)
    (lMha_and : K.lookup fMha_and = some ⟨ocMha_and, odMha_and, .func (PySem.W.fnOf "__and__" "Halves.__and__" (defArgs s_Halves_and) (defBody s_Halves_and) (defScope s_Halves_and) .none kVMha_and dcMha_and pmMha_and anMha_and cdMha_and ctMha_and), slMha_and⟩)
    (cMha_and : PySem.W.codeIn K cdMha_and "Halves.__and__" = true)
    (kMha_and : PySem.W.keepIn K (.ref fMha_and) = true)
    (aMha_or : PySem.W.findIn K (.ref Cha) "__or__" = some (some (.ref fMha_or)))
    (iMha_or : PySem.W.isFn K (.ref fMha_or) = true)
    (lMha_or : K.lookup fMha_or = some ⟨ocMha_or, odMha_or, .func (PySem.W.fnOf "__or__" "Halves.__or__" (defArgs s_Halves_or) (defBody s_Halves_or) (defScope s_Halves_or) .none kVMha_or dcMha_or pmMha_or anMha_or cdMha_or ctMha_or), slMha_or⟩)
    (cMha_or : PySem.W.codeIn K cdMha_or "Halves.__or__" = true)
    (kMha_or : PySem.W.keepIn K (.ref fMha_or) = true)
    (aMha_add : PySem.W.findIn K (.ref Cha) "__add__" = some (some (.ref fMha_add)))
    (iMha_add : PySem.W.isFn K (.ref fMha_add) = true)
    (lMha_add : K.lookup fMha_add = some ⟨ocMha_add, odMha_add, .func (PySem.W.fnOf "__add__" "Halves.__add__" (defArgs s_Halves_add) (defBody s_Halves_add) (defScope s_Halves_add) .none kVMha_add dcMha_add pmMha_add anMha_add cdMha_add ctMha_add), slMha_add⟩)
    (cMha_add : PySem.W.codeIn K cdMha_add "Halves.__add__" = true)
    (kMha_add : PySem.W.keepIn K (.ref fMha_add) = true)
    (aCbo : PySem.W.nsIn K mainGlobals "Boxes" = some (some (.ref Cbo)))
    (pgbo : PySem.W.plainGet K Cbo Str.empty = true)
    (hdbo : PySem.W.hasDictIn K Cbo = true)
    (pobo : PySem.W.plainOver K Cbo = true)
    (sabo : PySem.W.findIn K (.ref Cbo) "__setattr__" = some (some (.builtin "object.__setattr__")))
    (mkbo : PySem.W.makesIn K Cbo = true)
    (kcbo : PySem.W.keepIn K (.ref Cbo) = true)
    (sfbo : PySem.W.selfFirst K Cbo = true)
    (nbo_places : PySem.W.findIn K (.ref Cbo) "places" = some none)
    (nbo_most : PySem.W.findIn K (.ref Cbo) "most" = some none)
    (nbo_kind : PySem.W.findIn K (.ref Cbo) "kind" = some none)
    (nbo_word : PySem.W.findIn K (.ref Cbo) "word" = some none)
    (nbo_one : PySem.W.findIn K (.ref Cbo) "one" = some none)
    (nbo_other : PySem.W.findIn K (.ref Cbo) "other" = some none)
    (rbo_rand : PySem.W.findIn K (.ref Cbo) "__rand__" = some none)
    (rbo_ror : PySem.W.findIn K (.ref Cbo) "__ror__" = some none)
    (rbo_radd : PySem.W.findIn K (.ref Cbo) "__radd__" = some none)
    (aMbo_init : PySem.W.findIn K (.ref Cbo) "__init__" = some (some (.ref fMbo_init)))
    (iMbo_init : PySem.W.isFn K (.ref fMbo_init) = true)
    (lMbo_init : K.lookup fMbo_init = some ⟨ocMbo_init, odMbo_init, .func (PySem.W.fnOf "__init__" "Boxes.__init__" (defArgs s_Boxes_init) (defBody s_Boxes_init) (defScope s_Boxes_init) .none kVMbo_init dcMbo_init pmMbo_init anMbo_init cdMbo_init ctMbo_init), slMbo_init⟩)
    (cMbo_init : PySem.W.codeIn K cdMbo_init "Boxes.__init__" = true)
    (kMbo_init : PySem.W.keepIn K (.ref fMbo_init) = true)
    (aMbo_has : PySem.W.findIn K (.ref Cbo) "has" = some (some (.ref fMbo_has)))
    (iMbo_has : PySem.W.isFn K (.ref fMbo_has) = true)
    (lMbo_has : K.lookup fMbo_has = some ⟨ocMbo_has, odMbo_has, .func (PySem.W.fnOf "has" "Boxes.has" (defArgs s_Boxes_has) (defBody s_Boxes_has) (defScope s_Boxes_has) .none kVMbo_has dcMbo_has pmMbo_has anMbo_has cdMbo_has ctMbo_has), slMbo_has⟩)
    (cMbo_has : PySem.W.codeIn K cdMbo_has "Boxes.has" = true)
    (kMbo_has : PySem.W.keepIn K (.ref fMbo_has) = true)
    (aMbo_invert : PySem.W.findIn K (.ref Cbo) "__invert__" = some (some (.ref fMbo_invert)))
    (iMbo_invert : PySem.W.isFn K (.ref fMbo_invert) = true)
    (lMbo_invert : K.lookup fMbo_invert = some ⟨ocMbo_invert, odMbo_invert, .func (PySem.W.fnOf "__invert__" "Boxes.__invert__" (defArgs s_Boxes_invert) (defBody s_Boxes_invert) (defScope s_Boxes_invert) .none kVMbo_invert dcMbo_invert pmMbo_invert anMbo_invert cdMbo_invert ctMbo_invert), slMbo_invert⟩)
    (cMbo_invert : PySem.W.codeIn K cdMbo_invert "Boxes.__invert__" = true)
    (kMbo_invert : PySem.W.keepIn K (.ref fMbo_invert) = true)
    (aMbo_and : PySem.W.findIn K (.ref Cbo) "__and__" = some (some (.ref fMbo_and)))
    (iMbo_and : PySem.W.isFn K (.ref fMbo_and) = true)
    (lMbo_and : K.lookup fMbo_and = some ⟨ocMbo_and, odMbo_and, .func (PySem.W.fnOf "__and__" "Boxes.__and__" (defArgs s_Boxes_and) (defBody s_Boxes_and) (defScope s_Boxes_and) .none kVMbo_and dcMbo_and pmMbo_and anMbo_and cdMbo_and ctMbo_and), slMbo_and⟩)
    (cMbo_and : PySem.W.codeIn K cdMbo_and "Boxes.__and__" = true)
    (kMbo_and : PySem.W.keepIn K (.ref fMbo_and) = true)
    (aMbo_or : PySem.W.findIn K (.ref Cbo) "__or__" = some (some (.ref fMbo_or)))
    (iMbo_or : PySem.W.isFn K (.ref fMbo_or) = true)
    (lMbo_or : K.lookup fMbo_or = some ⟨ocMbo_or, odMbo_or, .func (PySem.W.fnOf "__or__" "Boxes.__or__" (defArgs s_Boxes_or) (defBody s_Boxes_or) (defScope s_Boxes_or) .none kVMbo_or dcMbo_or pmMbo_or anMbo_or cdMbo_or ctMbo_or), slMbo_or⟩)
    (cMbo_or : PySem.W.codeIn K cdMbo_or "Boxes.__or__" = true)
    (kMbo_or : PySem.W.keepIn K (.ref fMbo_or) = true)
    (aMbo_add : PySem.W.findIn K (.ref Cbo) "__add__" = some (some (.ref fMbo_add)))
    (iMbo_add : PySem.W.isFn K (.ref fMbo_add) = true)
    (lMbo_add : K.lookup fMbo_add = some ⟨ocMbo_add, odMbo_add, .func (PySem.W.fnOf "__add__" "Boxes.__add__" (defArgs s_Boxes_add) (defBody s_Boxes_add) (defScope s_Boxes_add) .none kVMbo_add dcMbo_add pmMbo_add anMbo_add cdMbo_add ctMbo_add), slMbo_add⟩)
    (cMbo_add : PySem.W.codeIn K cdMbo_add "Boxes.__add__" = true)
    (kMbo_add : PySem.W.keepIn K (.ref fMbo_add) = true)
    (aCri : PySem.W.nsIn K mainGlobals "Rising" = some (some (.ref Cri)))
    (pgri : PySem.W.plainGet K Cri Str.empty = true)
    (hdri : PySem.W.hasDictIn K Cri = true)
    (pori : PySem.W.plainOver K Cri = true)
    (sari : PySem.W.findIn K (.ref Cri) "__setattr__" = some (some (.builtin "object.__setattr__")))
    (mkri : PySem.W.makesIn K Cri = true)
    (kcri : PySem.W.keepIn K (.ref Cri) = true)
    (sfri : PySem.W.selfFirst K Cri = true)
    (nri_places : PySem.W.findIn K (.ref Cri) "places" = some none)
    (nri_most : PySem.W.findIn K (.ref Cri) "most" = some none)
    (nri_kind : PySem.W.findIn K (.ref Cri) "kind" = some none)
    (nri_word : PySem.W.findIn K (.ref Cri) "word" = some none)
    (nri_one : PySem.W.findIn K (.ref Cri) "one" = some none)
    (nri_other : PySem.W.findIn K (.ref Cri) "other" = some none)
    (rri_rand : PySem.W.findIn K (.ref Cri) "__rand__" = some none)
    (rri_ror : PySem.W.findIn K (.ref Cri) "__ror__" = some none)
    (rri_radd : PySem.W.findIn K (.ref Cri) "__radd__" = some none)
    (aMri_init : PySem.W.findIn K (.ref Cri) "__init__" = some (some (.ref fMri_init)))
    (iMri_init : PySem.W.isFn K (.ref fMri_init) = true)
    (lMri_init : K.lookup fMri_init = some ⟨ocMri_init, odMri_init, .func (PySem.W.fnOf "__init__" "Rising.__init__" (defArgs s_Rising_init) (defBody s_Rising_init) (defScope s_Rising_init) .none kVMri_init dcMri_init pmMri_init anMri_init cdMri_init ctMri_init), slMri_init⟩)
    (cMri_init : PySem.W.codeIn K cdMri_init "Rising.__init__" = true)
    (kMri_init : PySem.W.keepIn K (.ref fMri_init) = true)
    (aMri_has : PySem.W.findIn K (.ref Cri) "has" = some (some (.ref fMri_has)))
    (iMri_has : PySem.W.isFn K (.ref fMri_has) = true)
    (lMri_has : K.lookup fMri_has = some ⟨ocMri_has, odMri_has, .func (PySem.W.fnOf "has" "Rising.has" (defArgs s_Rising_has) (defBody s_Rising_has) (defScope s_Rising_has) .none kVMri_has dcMri_has pmMri_has anMri_has cdMri_has ctMri_has), slMri_has⟩)
    (cMri_has : PySem.W.codeIn K cdMri_has "Rising.has" = true)
    (kMri_has : PySem.W.keepIn K (.ref fMri_has) = true)
    (aMri_invert : PySem.W.findIn K (.ref Cri) "__invert__" = some (some (.ref fMri_invert)))
    (iMri_invert : PySem.W.isFn K (.ref fMri_invert) = true)
    (lMri_invert : K.lookup fMri_invert = some ⟨ocMri_invert, odMri_invert, .func (PySem.W.fnOf "__invert__" "Rising.__invert__" (defArgs s_Rising_invert) (defBody s_Rising_invert) (defScope s_Rising_invert) .none kVMri_invert dcMri_invert pmMri_invert anMri_invert cdMri_invert ctMri_invert), slMri_invert⟩)
    (cMri_invert : PySem.W.codeIn K cdMri_invert "Rising.__invert__" = true)
    (kMri_invert : PySem.W.keepIn K (.ref fMri_invert) = true)
    (aMri_and : PySem.W.findIn K (.ref Cri) "__and__" = some (some (.ref fMri_and)))
    (iMri_and : PySem.W.isFn K (.ref fMri_and) = true)
    (lMri_and : K.lookup fMri_and = some ⟨ocMri_and, odMri_and, .func (PySem.W.fnOf "__and__" "Rising.__and__" (defArgs s_Rising_and) (defBody s_Rising_and) (defScope s_Rising_and) .none kVMri_and dcMri_and pmMri_and anMri_and cdMri_and ctMri_and), slMri_and⟩)
    (cMri_and : PySem.W.codeIn K cdMri_and "Rising.__and__" = true)
    (kMri_and : PySem.W.keepIn K (.ref fMri_and) = true)
    (aMri_or : PySem.W.findIn K (.ref Cri) "__or__" = some (some (.ref fMri_or)))
    (iMri_or : PySem.W.isFn K (.ref fMri_or) = true)
    (lMri_or : K.lookup fMri_or = some ⟨ocMri_or, odMri_or, .func (PySem.W.fnOf "__or__" "Rising.__or__" (defArgs s_Rising_or) (defBody s_Rising_or) (defScope s_Rising_or) .none kVMri_or dcMri_or pmMri_or anMri_or cdMri_or ctMri_or), slMri_or⟩)
    (cMri_or : PySem.W.codeIn K cdMri_or "Rising.__or__" = true)
    (kMri_or : PySem.W.keepIn K (.ref fMri_or) = true)
    (aMri_add : PySem.W.findIn K (.ref Cri) "__add__" = some (some (.ref fMri_add)))
    (iMri_add : PySem.W.isFn K (.ref fMri_add) = true)
    (lMri_add : K.lookup fMri_add = some ⟨ocMri_add, odMri_add, .func (PySem.W.fnOf "__add__" "Rising.__add__" (defArgs s_Rising_add) (defBody s_Rising_add) (defScope s_Rising_add) .none kVMri_add dcMri_add pmMri_add anMri_add cdMri_add ctMri_add), slMri_add⟩)
    (cMri_add : PySem.W.codeIn K cdMri_add "Rising.__add__" = true)
    (kMri_add : PySem.W.keepIn K (.ref fMri_add) = true)
    (aCfl : PySem.W.nsIn K mainGlobals "Flats" = some (some (.ref Cfl)))
    (pgfl : PySem.W.plainGet K Cfl Str.empty = true)
    (hdfl : PySem.W.hasDictIn K Cfl = true)
    (pofl : PySem.W.plainOver K Cfl = true)
    (safl : PySem.W.findIn K (.ref Cfl) "__setattr__" = some (some (.builtin "object.__setattr__")))
    (mkfl : PySem.W.makesIn K Cfl = true)
    (kcfl : PySem.W.keepIn K (.ref Cfl) = true)
    (sffl : PySem.W.selfFirst K Cfl = true)
    (nfl_places : PySem.W.findIn K (.ref Cfl) "places" = some none)
    (nfl_most : PySem.W.findIn K (.ref Cfl) "most" = some none)
    (nfl_kind : PySem.W.findIn K (.ref Cfl) "kind" = some none)
    (nfl_word : PySem.W.findIn K (.ref Cfl) "word" = some none)
    (nfl_one : PySem.W.findIn K (.ref Cfl) "one" = some none)
    (nfl_other : PySem.W.findIn K (.ref Cfl) "other" = some none)
    (rfl_rand : PySem.W.findIn K (.ref Cfl) "__rand__" = some none)
    (rfl_ror : PySem.W.findIn K (.ref Cfl) "__ror__" = some none)
    (rfl_radd : PySem.W.findIn K (.ref Cfl) "__radd__" = some none)
    (aMfl_init : PySem.W.findIn K (.ref Cfl) "__init__" = some (some (.ref fMfl_init)))
    (iMfl_init : PySem.W.isFn K (.ref fMfl_init) = true)
    (lMfl_init : K.lookup fMfl_init = some ⟨ocMfl_init, odMfl_init, .func (PySem.W.fnOf "__init__" "Flats.__init__" (defArgs s_Flats_init) (defBody s_Flats_init) (defScope s_Flats_init) .none kVMfl_init dcMfl_init pmMfl_init anMfl_init cdMfl_init ctMfl_init), slMfl_init⟩)
    (cMfl_init : PySem.W.codeIn K cdMfl_init "Flats.__init__" = true)
    (kMfl_init : PySem.W.keepIn K (.ref fMfl_init) = true)
    (aMfl_has : PySem.W.findIn K (.ref Cfl) "has" = some (some (.ref fMfl_has)))
    (iMfl_has : PySem.W.isFn K (.ref fMfl_has) = true)
    (lMfl_has : K.lookup fMfl_has = some ⟨ocMfl_has, odMfl_has, .func (PySem.W.fnOf "has" "Flats.has" (defArgs s_Flats_has) (defBody s_Flats_has) (defScope s_Flats_has) .none kVMfl_has dcMfl_has pmMfl_has anMfl_has cdMfl_has ctMfl_has), slMfl_has⟩)
    (cMfl_has : PySem.W.codeIn K cdMfl_has "Flats.has" = true)
    (kMfl_has : PySem.W.keepIn K (.ref fMfl_has) = true)
    (aMfl_invert : PySem.W.findIn K (.ref Cfl) "__invert__" = some (some (.ref fMfl_invert)))
    (iMfl_invert : PySem.W.isFn K (.ref fMfl_invert) = true)
    (lMfl_invert : K.lookup fMfl_invert = some ⟨ocMfl_invert, odMfl_invert, .func (PySem.W.fnOf "__invert__" "Flats.__invert__" (defArgs s_Flats_invert) (defBody s_Flats_invert) (defScope s_Flats_invert) .none kVMfl_invert dcMfl_invert pmMfl_invert anMfl_invert cdMfl_invert ctMfl_invert), slMfl_invert⟩)
    (cMfl_invert : PySem.W.codeIn K cdMfl_invert "Flats.__invert__" = true)
    (kMfl_invert : PySem.W.keepIn K (.ref fMfl_invert) = true)
    (aMfl_and : PySem.W.findIn K (.ref Cfl) "__and__" = some (some (.ref fMfl_and)))
    (iMfl_and : PySem.W.isFn K (.ref fMfl_and) = true)
    (lMfl_and : K.lookup fMfl_and = some ⟨ocMfl_and, odMfl_and, .func (PySem.W.fnOf "__and__" "Flats.__and__" (defArgs s_Flats_and) (defBody s_Flats_and) (defScope s_Flats_and) .none kVMfl_and dcMfl_and pmMfl_and anMfl_and cdMfl_and ctMfl_and), slMfl_and⟩)
    (cMfl_and : PySem.W.codeIn K cdMfl_and "Flats.__and__" = true)
    (kMfl_and : PySem.W.keepIn K (.ref fMfl_and) = true)
    (aMfl_or : PySem.W.findIn K (.ref Cfl) "__or__" = some (some (.ref fMfl_or)))
    (iMfl_or : PySem.W.isFn K (.ref fMfl_or) = true)
    (lMfl_or : K.lookup fMfl_or = some ⟨ocMfl_or, odMfl_or, .func (PySem.W.fnOf "__or__" "Flats.__or__" (defArgs s_Flats_or) (defBody s_Flats_or) (defScope s_Flats_or) .none kVMfl_or dcMfl_or pmMfl_or anMfl_or cdMfl_or ctMfl_or), slMfl_or⟩)
    (cMfl_or : PySem.W.codeIn K cdMfl_or "Flats.__or__" = true)
    (kMfl_or : PySem.W.keepIn K (.ref fMfl_or) = true)
    (aMfl_add : PySem.W.findIn K (.ref Cfl) "__add__" = some (some (.ref fMfl_add)))
    (iMfl_add : PySem.W.isFn K (.ref fMfl_add) = true)
    (lMfl_add : K.lookup fMfl_add = some ⟨ocMfl_add, odMfl_add, .func (PySem.W.fnOf "__add__" "Flats.__add__" (defArgs s_Flats_add) (defBody s_Flats_add) (defScope s_Flats_add) .none kVMfl_add dcMfl_add pmMfl_add anMfl_add cdMfl_add ctMfl_add), slMfl_add⟩)
    (cMfl_add : PySem.W.codeIn K cdMfl_add "Flats.__add__" = true)
    (kMfl_add : PySem.W.keepIn K (.ref fMfl_add) = true)
    (aCtu : PySem.W.nsIn K mainGlobals "Turns" = some (some (.ref Ctu)))
    (pgtu : PySem.W.plainGet K Ctu Str.empty = true)
    (hdtu : PySem.W.hasDictIn K Ctu = true)
    (potu : PySem.W.plainOver K Ctu = true)
    (satu : PySem.W.findIn K (.ref Ctu) "__setattr__" = some (some (.builtin "object.__setattr__")))
    (mktu : PySem.W.makesIn K Ctu = true)
    (kctu : PySem.W.keepIn K (.ref Ctu) = true)
    (sftu : PySem.W.selfFirst K Ctu = true)
    (ntu_places : PySem.W.findIn K (.ref Ctu) "places" = some none)
    (ntu_most : PySem.W.findIn K (.ref Ctu) "most" = some none)
    (ntu_kind : PySem.W.findIn K (.ref Ctu) "kind" = some none)
    (ntu_word : PySem.W.findIn K (.ref Ctu) "word" = some none)
    (ntu_one : PySem.W.findIn K (.ref Ctu) "one" = some none)
    (ntu_other : PySem.W.findIn K (.ref Ctu) "other" = some none)
    (rtu_rand : PySem.W.findIn K (.ref Ctu) "__rand__" = some none)
    (rtu_ror : PySem.W.findIn K (.ref Ctu) "__ror__" = some none)
    (rtu_radd : PySem.W.findIn K (.ref Ctu) "__radd__" = some none)
    (aMtu_init : PySem.W.findIn K (.ref Ctu) "__init__" = some (some (.ref fMtu_init)))
    (iMtu_init : PySem.W.isFn K (.ref fMtu_init) = true)
    (lMtu_init : K.lookup fMtu_init = some ⟨ocMtu_init, odMtu_init, .func (PySem.W.fnOf "__init__" "Turns.__init__" (defArgs s_Turns_init) (defBody s_Turns_init) (defScope s_Turns_init) .none kVMtu_init dcMtu_init pmMtu_init anMtu_init cdMtu_init ctMtu_init), slMtu_init⟩)
    (cMtu_init : PySem.W.codeIn K cdMtu_init "Turns.__init__" = true)
    (kMtu_init : PySem.W.keepIn K (.ref fMtu_init) = true)
    (aMtu_has : PySem.W.findIn K (.ref Ctu) "has" = some (some (.ref fMtu_has)))
    (iMtu_has : PySem.W.isFn K (.ref fMtu_has) = true)
    (lMtu_has : K.lookup fMtu_has = some ⟨ocMtu_has, odMtu_has, .func (PySem.W.fnOf "has" "Turns.has" (defArgs s_Turns_has) (defBody s_Turns_has) (defScope s_Turns_has) .none kVMtu_has dcMtu_has pmMtu_has anMtu_has cdMtu_has ctMtu_has), slMtu_has⟩)
    (cMtu_has : PySem.W.codeIn K cdMtu_has "Turns.has" = true)
    (kMtu_has : PySem.W.keepIn K (.ref fMtu_has) = true)
    (aMtu_invert : PySem.W.findIn K (.ref Ctu) "__invert__" = some (some (.ref fMtu_invert)))
    (iMtu_invert : PySem.W.isFn K (.ref fMtu_invert) = true)
    (lMtu_invert : K.lookup fMtu_invert = some ⟨ocMtu_invert, odMtu_invert, .func (PySem.W.fnOf "__invert__" "Turns.__invert__" (defArgs s_Turns_invert) (defBody s_Turns_invert) (defScope s_Turns_invert) .none kVMtu_invert dcMtu_invert pmMtu_invert anMtu_invert cdMtu_invert ctMtu_invert), slMtu_invert⟩)
    (cMtu_invert : PySem.W.codeIn K cdMtu_invert "Turns.__invert__" = true)
    (kMtu_invert : PySem.W.keepIn K (.ref fMtu_invert) = true)
    (aMtu_and : PySem.W.findIn K (.ref Ctu) "__and__" = some (some (.ref fMtu_and)))
    (iMtu_and : PySem.W.isFn K (.ref fMtu_and) = true)
    (lMtu_and : K.lookup fMtu_and = some ⟨ocMtu_and, odMtu_and, .func (PySem.W.fnOf "__and__" "Turns.__and__" (defArgs s_Turns_and) (defBody s_Turns_and) (defScope s_Turns_and) .none kVMtu_and dcMtu_and pmMtu_and anMtu_and cdMtu_and ctMtu_and), slMtu_and⟩)
    (cMtu_and : PySem.W.codeIn K cdMtu_and "Turns.__and__" = true)
    (kMtu_and : PySem.W.keepIn K (.ref fMtu_and) = true)
    (aMtu_or : PySem.W.findIn K (.ref Ctu) "__or__" = some (some (.ref fMtu_or)))
    (iMtu_or : PySem.W.isFn K (.ref fMtu_or) = true)
    (lMtu_or : K.lookup fMtu_or = some ⟨ocMtu_or, odMtu_or, .func (PySem.W.fnOf "__or__" "Turns.__or__" (defArgs s_Turns_or) (defBody s_Turns_or) (defScope s_Turns_or) .none kVMtu_or dcMtu_or pmMtu_or anMtu_or cdMtu_or ctMtu_or), slMtu_or⟩)
    (cMtu_or : PySem.W.codeIn K cdMtu_or "Turns.__or__" = true)
    (kMtu_or : PySem.W.keepIn K (.ref fMtu_or) = true)
    (aMtu_add : PySem.W.findIn K (.ref Ctu) "__add__" = some (some (.ref fMtu_add)))
    (iMtu_add : PySem.W.isFn K (.ref fMtu_add) = true)
    (lMtu_add : K.lookup fMtu_add = some ⟨ocMtu_add, odMtu_add, .func (PySem.W.fnOf "__add__" "Turns.__add__" (defArgs s_Turns_add) (defBody s_Turns_add) (defScope s_Turns_add) .none kVMtu_add dcMtu_add pmMtu_add anMtu_add cdMtu_add ctMtu_add), slMtu_add⟩)
    (cMtu_add : PySem.W.codeIn K cdMtu_add "Turns.__add__" = true)
    (kMtu_add : PySem.W.keepIn K (.ref fMtu_add) = true)
    (aCco : PySem.W.nsIn K mainGlobals "Contrary" = some (some (.ref Cco)))
    (pgco : PySem.W.plainGet K Cco Str.empty = true)
    (hdco : PySem.W.hasDictIn K Cco = true)
    (poco : PySem.W.plainOver K Cco = true)
    (saco : PySem.W.findIn K (.ref Cco) "__setattr__" = some (some (.builtin "object.__setattr__")))
    (mkco : PySem.W.makesIn K Cco = true)
    (kcco : PySem.W.keepIn K (.ref Cco) = true)
    (sfco : PySem.W.selfFirst K Cco = true)
    (nco_places : PySem.W.findIn K (.ref Cco) "places" = some none)
    (nco_most : PySem.W.findIn K (.ref Cco) "most" = some none)
    (nco_kind : PySem.W.findIn K (.ref Cco) "kind" = some none)
    (nco_word : PySem.W.findIn K (.ref Cco) "word" = some none)
    (nco_one : PySem.W.findIn K (.ref Cco) "one" = some none)
    (nco_other : PySem.W.findIn K (.ref Cco) "other" = some none)
    (rco_rand : PySem.W.findIn K (.ref Cco) "__rand__" = some none)
    (rco_ror : PySem.W.findIn K (.ref Cco) "__ror__" = some none)
    (rco_radd : PySem.W.findIn K (.ref Cco) "__radd__" = some none)
    (aMco_init : PySem.W.findIn K (.ref Cco) "__init__" = some (some (.ref fMco_init)))
    (iMco_init : PySem.W.isFn K (.ref fMco_init) = true)
    (lMco_init : K.lookup fMco_init = some ⟨ocMco_init, odMco_init, .func (PySem.W.fnOf "__init__" "Contrary.__init__" (defArgs s_Contrary_init) (defBody s_Contrary_init) (defScope s_Contrary_init) .none kVMco_init dcMco_init pmMco_init anMco_init cdMco_init ctMco_init), slMco_init⟩)
    (cMco_init : PySem.W.codeIn K cdMco_init "Contrary.__init__" = true)
    (kMco_init : PySem.W.keepIn K (.ref fMco_init) = true)
    (aMco_has : PySem.W.findIn K (.ref Cco) "has" = some (some (.ref fMco_has)))
    (iMco_has : PySem.W.isFn K (.ref fMco_has) = true)
    (lMco_has : K.lookup fMco_has = some ⟨ocMco_has, odMco_has, .func (PySem.W.fnOf "has" "Contrary.has" (defArgs s_Contrary_has) (defBody s_Contrary_has) (defScope s_Contrary_has) .none kVMco_has dcMco_has pmMco_has anMco_has cdMco_has ctMco_has), slMco_has⟩)
    (cMco_has : PySem.W.codeIn K cdMco_has "Contrary.has" = true)
    (kMco_has : PySem.W.keepIn K (.ref fMco_has) = true)
    (aMco_invert : PySem.W.findIn K (.ref Cco) "__invert__" = some (some (.ref fMco_invert)))
    (iMco_invert : PySem.W.isFn K (.ref fMco_invert) = true)
    (lMco_invert : K.lookup fMco_invert = some ⟨ocMco_invert, odMco_invert, .func (PySem.W.fnOf "__invert__" "Contrary.__invert__" (defArgs s_Contrary_invert) (defBody s_Contrary_invert) (defScope s_Contrary_invert) .none kVMco_invert dcMco_invert pmMco_invert anMco_invert cdMco_invert ctMco_invert), slMco_invert⟩)
    (cMco_invert : PySem.W.codeIn K cdMco_invert "Contrary.__invert__" = true)
    (kMco_invert : PySem.W.keepIn K (.ref fMco_invert) = true)
    (aMco_and : PySem.W.findIn K (.ref Cco) "__and__" = some (some (.ref fMco_and)))
    (iMco_and : PySem.W.isFn K (.ref fMco_and) = true)
    (lMco_and : K.lookup fMco_and = some ⟨ocMco_and, odMco_and, .func (PySem.W.fnOf "__and__" "Contrary.__and__" (defArgs s_Contrary_and) (defBody s_Contrary_and) (defScope s_Contrary_and) .none kVMco_and dcMco_and pmMco_and anMco_and cdMco_and ctMco_and), slMco_and⟩)
    (cMco_and : PySem.W.codeIn K cdMco_and "Contrary.__and__" = true)
    (kMco_and : PySem.W.keepIn K (.ref fMco_and) = true)
    (aMco_or : PySem.W.findIn K (.ref Cco) "__or__" = some (some (.ref fMco_or)))
    (iMco_or : PySem.W.isFn K (.ref fMco_or) = true)
    (lMco_or : K.lookup fMco_or = some ⟨ocMco_or, odMco_or, .func (PySem.W.fnOf "__or__" "Contrary.__or__" (defArgs s_Contrary_or) (defBody s_Contrary_or) (defScope s_Contrary_or) .none kVMco_or dcMco_or pmMco_or anMco_or cdMco_or ctMco_or), slMco_or⟩)
    (cMco_or : PySem.W.codeIn K cdMco_or "Contrary.__or__" = true)
    (kMco_or : PySem.W.keepIn K (.ref fMco_or) = true)
    (aMco_add : PySem.W.findIn K (.ref Cco) "__add__" = some (some (.ref fMco_add)))
    (iMco_add : PySem.W.isFn K (.ref fMco_add) = true)
    (lMco_add : K.lookup fMco_add = some ⟨ocMco_add, odMco_add, .func (PySem.W.fnOf "__add__" "Contrary.__add__" (defArgs s_Contrary_add) (defBody s_Contrary_add) (defScope s_Contrary_add) .none kVMco_add dcMco_add pmMco_add anMco_add cdMco_add ctMco_add), slMco_add⟩)
    (cMco_add : PySem.W.codeIn K cdMco_add "Contrary.__add__" = true)
    (kMco_add : PySem.W.keepIn K (.ref fMco_add) = true)
    (aCpa : PySem.W.nsIn K mainGlobals "Pair" = some (some (.ref Cpa)))
    (pgpa : PySem.W.plainGet K Cpa Str.empty = true)
    (hdpa : PySem.W.hasDictIn K Cpa = true)
    (popa : PySem.W.plainOver K Cpa = true)
    (sapa : PySem.W.findIn K (.ref Cpa) "__setattr__" = some (some (.builtin "object.__setattr__")))
    (mkpa : PySem.W.makesIn K Cpa = true)
    (kcpa : PySem.W.keepIn K (.ref Cpa) = true)
    (sfpa : PySem.W.selfFirst K Cpa = true)
    (npa_places : PySem.W.findIn K (.ref Cpa) "places" = some none)
    (npa_most : PySem.W.findIn K (.ref Cpa) "most" = some none)
    (npa_kind : PySem.W.findIn K (.ref Cpa) "kind" = some none)
    (npa_word : PySem.W.findIn K (.ref Cpa) "word" = some none)
    (npa_one : PySem.W.findIn K (.ref Cpa) "one" = some none)
    (npa_other : PySem.W.findIn K (.ref Cpa) "other" = some none)
    (rpa_rand : PySem.W.findIn K (.ref Cpa) "__rand__" = some none)
    (rpa_ror : PySem.W.findIn K (.ref Cpa) "__ror__" = some none)
    (rpa_radd : PySem.W.findIn K (.ref Cpa) "__radd__" = some none)
    (aMpa_init : PySem.W.findIn K (.ref Cpa) "__init__" = some (some (.ref fMpa_init)))
    (iMpa_init : PySem.W.isFn K (.ref fMpa_init) = true)
    (lMpa_init : K.lookup fMpa_init = some ⟨ocMpa_init, odMpa_init, .func (PySem.W.fnOf "__init__" "Pair.__init__" (defArgs s_Pair_init) (defBody s_Pair_init) (defScope s_Pair_init) .none kVMpa_init dcMpa_init pmMpa_init anMpa_init cdMpa_init ctMpa_init), slMpa_init⟩)
    (cMpa_init : PySem.W.codeIn K cdMpa_init "Pair.__init__" = true)
    (kMpa_init : PySem.W.keepIn K (.ref fMpa_init) = true)
    (aMpa_has : PySem.W.findIn K (.ref Cpa) "has" = some (some (.ref fMpa_has)))
    (iMpa_has : PySem.W.isFn K (.ref fMpa_has) = true)
    (lMpa_has : K.lookup fMpa_has = some ⟨ocMpa_has, odMpa_has, .func (PySem.W.fnOf "has" "Pair.has" (defArgs s_Pair_has) (defBody s_Pair_has) (defScope s_Pair_has) .none kVMpa_has dcMpa_has pmMpa_has anMpa_has cdMpa_has ctMpa_has), slMpa_has⟩)
    (cMpa_has : PySem.W.codeIn K cdMpa_has "Pair.has" = true)
    (kMpa_has : PySem.W.keepIn K (.ref fMpa_has) = true)
    (aMpa_invert : PySem.W.findIn K (.ref Cpa) "__invert__" = some (some (.ref fMpa_invert)))
    (iMpa_invert : PySem.W.isFn K (.ref fMpa_invert) = true)
    (lMpa_invert : K.lookup fMpa_invert = some ⟨ocMpa_invert, odMpa_invert, .func (PySem.W.fnOf "__invert__" "Pair.__invert__" (defArgs s_Pair_invert) (defBody s_Pair_invert) (defScope s_Pair_invert) .none kVMpa_invert dcMpa_invert pmMpa_invert anMpa_invert cdMpa_invert ctMpa_invert), slMpa_invert⟩)
    (cMpa_invert : PySem.W.codeIn K cdMpa_invert "Pair.__invert__" = true)
    (kMpa_invert : PySem.W.keepIn K (.ref fMpa_invert) = true)
    (aMpa_and : PySem.W.findIn K (.ref Cpa) "__and__" = some (some (.ref fMpa_and)))
    (iMpa_and : PySem.W.isFn K (.ref fMpa_and) = true)
    (lMpa_and : K.lookup fMpa_and = some ⟨ocMpa_and, odMpa_and, .func (PySem.W.fnOf "__and__" "Pair.__and__" (defArgs s_Pair_and) (defBody s_Pair_and) (defScope s_Pair_and) .none kVMpa_and dcMpa_and pmMpa_and anMpa_and cdMpa_and ctMpa_and), slMpa_and⟩)
    (cMpa_and : PySem.W.codeIn K cdMpa_and "Pair.__and__" = true)
    (kMpa_and : PySem.W.keepIn K (.ref fMpa_and) = true)
    (aMpa_or : PySem.W.findIn K (.ref Cpa) "__or__" = some (some (.ref fMpa_or)))
    (iMpa_or : PySem.W.isFn K (.ref fMpa_or) = true)
    (lMpa_or : K.lookup fMpa_or = some ⟨ocMpa_or, odMpa_or, .func (PySem.W.fnOf "__or__" "Pair.__or__" (defArgs s_Pair_or) (defBody s_Pair_or) (defScope s_Pair_or) .none kVMpa_or dcMpa_or pmMpa_or anMpa_or cdMpa_or ctMpa_or), slMpa_or⟩)
    (cMpa_or : PySem.W.codeIn K cdMpa_or "Pair.__or__" = true)
    (kMpa_or : PySem.W.keepIn K (.ref fMpa_or) = true)
    (aMpa_add : PySem.W.findIn K (.ref Cpa) "__add__" = some (some (.ref fMpa_add)))
    (iMpa_add : PySem.W.isFn K (.ref fMpa_add) = true)
    (lMpa_add : K.lookup fMpa_add = some ⟨ocMpa_add, odMpa_add, .func (PySem.W.fnOf "__add__" "Pair.__add__" (defArgs s_Pair_add) (defBody s_Pair_add) (defScope s_Pair_add) .none kVMpa_add dcMpa_add pmMpa_add anMpa_add cdMpa_add ctMpa_add), slMpa_add⟩)
    (cMpa_add : PySem.W.codeIn K cdMpa_add "Pair.__add__" = true)
    (kMpa_add : PySem.W.keepIn K (.ref fMpa_add) = true)
    (uha_bo : PySem.W.subIn K (.ref Cha) (.ref Cbo) = some false)
    (uha_ri : PySem.W.subIn K (.ref Cha) (.ref Cri) = some false)
    (uha_fl : PySem.W.subIn K (.ref Cha) (.ref Cfl) = some false)
    (uha_tu : PySem.W.subIn K (.ref Cha) (.ref Ctu) = some false)
    (uha_co : PySem.W.subIn K (.ref Cha) (.ref Cco) = some false)
    (uha_pa : PySem.W.subIn K (.ref Cha) (.ref Cpa) = some false)
    (ubo_ha : PySem.W.subIn K (.ref Cbo) (.ref Cha) = some false)
    (ubo_ri : PySem.W.subIn K (.ref Cbo) (.ref Cri) = some false)
    (ubo_fl : PySem.W.subIn K (.ref Cbo) (.ref Cfl) = some false)
    (ubo_tu : PySem.W.subIn K (.ref Cbo) (.ref Ctu) = some false)
    (ubo_co : PySem.W.subIn K (.ref Cbo) (.ref Cco) = some false)
    (ubo_pa : PySem.W.subIn K (.ref Cbo) (.ref Cpa) = some false)
    (uri_ha : PySem.W.subIn K (.ref Cri) (.ref Cha) = some false)
    (uri_bo : PySem.W.subIn K (.ref Cri) (.ref Cbo) = some false)
    (uri_fl : PySem.W.subIn K (.ref Cri) (.ref Cfl) = some false)
    (uri_tu : PySem.W.subIn K (.ref Cri) (.ref Ctu) = some false)
    (uri_co : PySem.W.subIn K (.ref Cri) (.ref Cco) = some false)
    (uri_pa : PySem.W.subIn K (.ref Cri) (.ref Cpa) = some false)
    (ufl_ha : PySem.W.subIn K (.ref Cfl) (.ref Cha) = some false)
    (ufl_bo : PySem.W.subIn K (.ref Cfl) (.ref Cbo) = some false)
    (ufl_ri : PySem.W.subIn K (.ref Cfl) (.ref Cri) = some false)
    (ufl_tu : PySem.W.subIn K (.ref Cfl) (.ref Ctu) = some false)
    (ufl_co : PySem.W.subIn K (.ref Cfl) (.ref Cco) = some false)
    (ufl_pa : PySem.W.subIn K (.ref Cfl) (.ref Cpa) = some false)
    (utu_ha : PySem.W.subIn K (.ref Ctu) (.ref Cha) = some false)
    (utu_bo : PySem.W.subIn K (.ref Ctu) (.ref Cbo) = some false)
    (utu_ri : PySem.W.subIn K (.ref Ctu) (.ref Cri) = some false)
    (utu_fl : PySem.W.subIn K (.ref Ctu) (.ref Cfl) = some false)
    (utu_co : PySem.W.subIn K (.ref Ctu) (.ref Cco) = some false)
    (utu_pa : PySem.W.subIn K (.ref Ctu) (.ref Cpa) = some false)
    (uco_ha : PySem.W.subIn K (.ref Cco) (.ref Cha) = some false)
    (uco_bo : PySem.W.subIn K (.ref Cco) (.ref Cbo) = some false)
    (uco_ri : PySem.W.subIn K (.ref Cco) (.ref Cri) = some false)
    (uco_fl : PySem.W.subIn K (.ref Cco) (.ref Cfl) = some false)
    (uco_tu : PySem.W.subIn K (.ref Cco) (.ref Ctu) = some false)
    (uco_pa : PySem.W.subIn K (.ref Cco) (.ref Cpa) = some false)
    (upa_ha : PySem.W.subIn K (.ref Cpa) (.ref Cha) = some false)
    (upa_bo : PySem.W.subIn K (.ref Cpa) (.ref Cbo) = some false)
    (upa_ri : PySem.W.subIn K (.ref Cpa) (.ref Cri) = some false)
    (upa_fl : PySem.W.subIn K (.ref Cpa) (.ref Cfl) = some false)
    (upa_tu : PySem.W.subIn K (.ref Cpa) (.ref Ctu) = some false)
    (upa_co : PySem.W.subIn K (.ref Cpa) (.ref Cco) = some false)
    (cLEAST_PLACES : PySem.W.nsIn K mainGlobals "LEAST_PLACES" = some (some (.int 1 tLEAST_PLACES)))
    (cMOST_PLACES : PySem.W.nsIn K mainGlobals "MOST_PLACES" = some (some (.int 3 tMOST_PLACES)))
    (cGREATEST_MOST : PySem.W.nsIn K mainGlobals "GREATEST_MOST" = some (some (.int 6 tGREATEST_MOST)))
    (z_len : PySem.W.nsIn K mainGlobals "len" = some none)
    (z_int : PySem.W.nsIn K mainGlobals "int" = some none)
    (z_isinstance : PySem.W.nsIn K mainGlobals "isinstance" = some none)
    (z_list : PySem.W.nsIn K mainGlobals "list" = some none)
    (z_tuple : PySem.W.nsIn K mainGlobals "tuple" = some none)
    (z_bool : PySem.W.nsIn K mainGlobals "bool" = some none)
    (z_all : PySem.W.nsIn K mainGlobals "all" = some none)
    (z_zip : PySem.W.nsIn K mainGlobals "zip" = some none)
    (z_range : PySem.W.nsIn K mainGlobals "range" = some none)
    (z_enumerate : PySem.W.nsIn K mainGlobals "enumerate" = some none)
    (z_sorted : PySem.W.nsIn K mainGlobals "sorted" = some none)
    (z_set : PySem.W.nsIn K mainGlobals "set" = some none)
    (z_str : PySem.W.nsIn K mainGlobals "str" = some none) :
    ∃ fd : FuncData, (∀ (s : Shared) (v : Value), BindsTo s fd ⟨[v], []⟩ [("_law_script", v)]) ∧ ∀ base : Heap, K.In base → base.Ns mainGlobals mg → FnOk l.prog w K mg base CX0 30 fa fd ["_law_script"] (spLaw7 K) := by
  have e := hfa.symm.trans (PySem.W.mg_of X G aL_law)
  cases e
  have M : ∀ {x : Str} {v : Value}, PySem.W.nsIn K mainGlobals x = some (some v) → mg x = some v := fun q => PySem.W.mg_of X G q
  have T : TxQ mg := { m_len := PySem.W.mg_none_of X G z_len, m_int := PySem.W.mg_none_of X G z_int, m_isinstance := PySem.W.mg_none_of X G z_isinstance, m_list := PySem.W.mg_none_of X G z_list, m_tuple := PySem.W.mg_none_of X G z_tuple, m_bool := PySem.W.mg_none_of X G z_bool, m_all := PySem.W.mg_none_of X G z_all, m_zip := PySem.W.mg_none_of X G z_zip, m_range := PySem.W.mg_none_of X G z_range, m_enumerate := PySem.W.mg_none_of X G z_enumerate, m_sorted := PySem.W.mg_none_of X G z_sorted, m_set := PySem.W.mg_none_of X G z_set, m_str := PySem.W.mg_none_of X G z_str, c_LEAST_PLACES := ⟨_, M cLEAST_PLACES⟩, c_MOST_PLACES := ⟨_, M cMOST_PLACES⟩ }
  have TK : TxK mg := { toTxF := T.toTxF, c_GREATEST_MOST := ⟨_, M cGREATEST_MOST⟩ }
  have GF_is_integer := fun_mk (st := s_is_integer) lF_is_integer cF_is_integer kF_is_integer
  have bF_is_integer := GF_is_integer.binds (ps := ["thing"]) fun _ _ _ _ _ _ us hl => match us, hl with | [_], _ => rfl
  have GF_is_integer_or_none := fun_mk (st := s_is_integer_or_none) lF_is_integer_or_none cF_is_integer_or_none kF_is_integer_or_none
  have bF_is_integer_or_none := GF_is_integer_or_none.binds (ps := ["thing"]) fun _ _ _ _ _ _ us hl => match us, hl with | [_], _ => rfl
  have GF_is_label := fun_mk (st := s_is_label) lF_is_label cF_is_label kF_is_label
  have bF_is_label := GF_is_label.binds (ps := ["thing"]) fun _ _ _ _ _ _ us hl => match us, hl with | [_], _ => rfl
  have GF_is_row := fun_mk (st := s_is_row) lF_is_row cF_is_row kF_is_row
  have bF_is_row := GF_is_row.binds (ps := ["thing"]) fun _ _ _ _ _ _ us hl => match us, hl with | [_], _ => rfl
  have GF_is_row_of := fun_mk (st := s_is_row_of) lF_is_row_of cF_is_row_of kF_is_row_of
  have bF_is_row_of := GF_is_row_of.binds (ps := ["thing", "many"]) fun _ _ _ _ _ _ us hl => match us, hl with | [_, _], _ => rfl
  have GF_is_form := fun_mk (st := s_is_form) lF_is_form cF_is_form kF_is_form
  have bF_is_form := GF_is_form.binds (ps := ["thing", "word", "many"]) fun _ _ _ _ _ _ us hl => match us, hl with | [_, _, _], _ => rfl
  have GF_is_number_of_places := fun_mk (st := s_is_number_of_places) lF_is_number_of_places cF_is_number_of_places kF_is_number_of_places
  have bF_is_number_of_places := GF_is_number_of_places.binds (ps := ["thing"]) fun _ _ _ _ _ _ us hl => match us, hl with | [_], _ => rfl
  have GF_is_point := fun_mk (st := s_is_point) lF_is_point cF_is_point kF_is_point
  have bF_is_point := GF_is_point.binds (ps := ["thing", "places"]) fun _ _ _ _ _ _ us hl => match us, hl with | [_, _], _ => rfl
  have GF_check_number_of_places := fun_mk (st := s_check_number_of_places) lF_check_number_of_places cF_check_number_of_places kF_check_number_of_places
  have bF_check_number_of_places := GF_check_number_of_places.binds (ps := ["places"]) fun _ _ _ _ _ _ us hl => match us, hl with | [_], _ => rfl
  have GF_is_row_of_bounds := fun_mk (st := s_is_row_of_bounds) lF_is_row_of_bounds cF_is_row_of_bounds kF_is_row_of_bounds
  have bF_is_row_of_bounds := GF_is_row_of_bounds.binds (ps := ["thing", "many"]) fun _ _ _ _ _ _ us hl => match us, hl with | [_, _], _ => rfl
  have GL_source := fun_mk (st := s_source) lL_source cL_source kL_source
  have bL_source := GL_source.binds (ps := ["_law_script", "_law_at"]) fun _ _ _ _ _ _ us hl => match us, hl with | [_, _], _ => rfl
  have GL_draw := fun_mk (st := s_draw) lL_draw cL_draw kL_draw
  have bL_draw := GL_draw.binds (ps := ["_law_draws", "_law_many"]) fun _ _ _ _ _ _ us hl => match us, hl with | [_, _], _ => rfl
  have GL_pick := fun_mk (st := s_pick) lL_pick cL_pick kL_pick
  have bL_pick := GL_pick.binds (ps := ["_law_draws", "_law_things"]) fun _ _ _ _ _ _ us hl => match us, hl with | [_, _], _ => rfl
  have GL_same := fun_mk (st := s_same) lL_same cL_same kL_same
  have bL_same := GL_same.binds (ps := ["_law_found", "_law_due"]) fun _ _ _ _ _ _ us hl => match us, hl with | [_, _], _ => rfl
  have GL_point := fun_mk (st := s_point) lL_point cL_point kL_point
  have bL_point := GL_point.binds (ps := ["_law_draws", "_law_places", "_law_wide"]) fun _ _ _ _ _ _ us hl => match us, hl with | [_, _, _], _ => rfl
  have GL_plain := fun_mk (st := s_plain) lL_plain cL_plain kL_plain
  have bL_plain := GL_plain.binds (ps := ["_law_draws", "_law_places"]) fun _ _ _ _ _ _ us hl => match us, hl with | [_, _], _ => rfl
  have GL_spec := fun_mk (st := s_spec) lL_spec cL_spec kL_spec
  have bL_spec := GL_spec.binds (ps := ["_law_draws", "_law_places", "_law_deep"]) fun _ _ _ _ _ _ us hl => match us, hl with | [_, _, _], _ => rfl
  have GL_built := fun_mk (st := s_built) lL_built cL_built kL_built
  have bL_built := GL_built.binds (ps := ["_law_spec_here"]) fun _ _ _ _ _ _ us hl => match us, hl with | [_], _ => rfl
  have GL_rule := fun_mk (st := s_rule) lL_rule cL_rule kL_rule
  have bL_rule := GL_rule.binds (ps := ["_law_draws", "_law_spec_here", "_law_wide"]) fun _ _ _ _ _ _ us hl => match us, hl with | [_, _, _], _ => rfl
  have GL_range := fun_mk (st := s_range) lL_range cL_range kL_range
  have bL_range := GL_range.binds (ps := ["_law_draws", "_law_wide"]) fun _ _ _ _ _ _ us hl => match us, hl with | [_, _], _ => rfl
  have GL_corner := fun_mk (st := s_corner) lL_corner cL_corner kL_corner
  have bL_corner := GL_corner.binds (ps := ["_law_draws", "_law_places", "_law_wide"]) fun _ _ _ _ _ _ us hl => match us, hl with | [_, _, _], _ => rfl
  have GL_part := fun_mk (st := s_part) lL_part cL_part kL_part
  have bL_part := GL_part.binds (ps := ["_law_draws", "_law_places"]) fun _ _ _ _ _ _ us hl => match us, hl with | [_, _], _ => rfl
  have GL_joint := fun_mk (st := s_joint) lL_joint cL_joint kL_joint
  have bL_joint := GL_joint.binds (ps := ["_law_draws", "_law_places", "_law_deep"]) fun _ _ _ _ _ _ us hl => match us, hl with | [_, _, _], _ => rfl
  have GL_pair := fun_mk (st := s_pair) lL_pair cL_pair kL_pair
  have bL_pair := GL_pair.binds (ps := ["_law_draws", "_law_places", "_law_deep"]) fun _ _ _ _ _ _ us hl => match us, hl with | [_, _, _], _ => rfl
  have GL_is_row := fun_mk (st := s_Lis_row) lL_is_row cL_is_row kL_is_row
  have bL_is_row := GL_is_row.binds (ps := ["_law_thing", "_law_many"]) fun _ _ _ _ _ _ us hl => match us, hl with | [_, _], _ => rfl
  have GL_is_ends := fun_mk (st := s_is_ends) lL_is_ends cL_is_ends kL_is_ends
  have bL_is_ends := GL_is_ends.binds (ps := ["_law_thing", "_law_many"]) fun _ _ _ _ _ _ us hl => match us, hl with | [_, _], _ => rfl
  have GL_is_rule := fun_mk (st := s_is_rule) lL_is_rule cL_is_rule kL_is_rule
  have bL_is_rule := GL_is_rule.binds (ps := ["_law_spec_here", "_law_thing"]) fun _ _ _ _ _ _ us hl => match us, hl with | [_, _], _ => rfl
  have GL_bent := fun_mk (st := s_bent) lL_bent cL_bent kL_bent
  have bL_bent := GL_bent.binds (ps := ["_law_draws", "_law_thing"]) fun _ _ _ _ _ _ us hl => match us, hl with | [_, _], _ => rfl
  have GL_law := fun_mk (st := s_law) lL_law cL_law kL_law
  have GMha_init := fun_mk (st := s_Halves_init) lMha_init cMha_init kMha_init
  have bMha_init := GMha_init.binds (ps := ["self", "places"]) fun _ _ _ _ _ _ us hl => match us, hl with | [_, _], _ => rfl
  have GMha_has := fun_mk (st := s_Halves_has) lMha_has cMha_has kMha_has
  have bMha_has := GMha_has.binds (ps := ["self", "thing"]) fun _ _ _ _ _ _ us hl => match us, hl with | [_, _], _ => rfl
  have GMha_invert := fun_mk (st := s_Halves_invert) lMha_invert cMha_invert kMha_invert
  have bMha_invert := GMha_invert.binds (ps := ["self"]) fun _ _ _ _ _ _ us hl => match us, hl with | [_], _ => rfl
  have GMha_and := fun_mk (st := s_Halves_and) lMha_and cMha_and kMha_and
  have bMha_and := GMha_and.binds (ps := ["self", "other"]) fun _ _ _ _ _ _ us hl => match us, hl with | [_, _], _ => rfl
  have GMha_or := fun_mk (st := s_Halves_or) lMha_or cMha_or kMha_or
  have bMha_or := GMha_or.binds (ps := ["self", "other"]) fun _ _ _ _ _ _ us hl => match us, hl with | [_, _], _ => rfl
  have GMha_add := fun_mk (st := s_Halves_add) lMha_add cMha_add kMha_add
  have bMha_add := GMha_add.binds (ps := ["self", "other"]) fun _ _ _ _ _ _ us hl => match us, hl with | [_, _], _ => rfl
  have GMbo_init := fun_mk (st := s_Boxes_init) lMbo_init cMbo_init kMbo_init
  have bMbo_init := GMbo_init.binds (ps := ["self", "places"]) fun _ _ _ _ _ _ us hl => match us, hl with | [_, _], _ => rfl
  have GMbo_has := fun_mk (st := s_Boxes_has) lMbo_has cMbo_has kMbo_has
  have bMbo_has := GMbo_has.binds (ps := ["self", "thing"]) fun _ _ _ _ _ _ us hl => match us, hl with | [_, _], _ => rfl
  have GMbo_invert := fun_mk (st := s_Boxes_invert) lMbo_invert cMbo_invert kMbo_invert
  have bMbo_invert := GMbo_invert.binds (ps := ["self"]) fun _ _ _ _ _ _ us hl => match us, hl with | [_], _ => rfl
  have GMbo_and := fun_mk (st := s_Boxes_and) lMbo_and cMbo_and kMbo_and
  have bMbo_and := GMbo_and.binds (ps := ["self", "other"]) fun _ _ _ _ _ _ us hl => match us, hl with | [_, _], _ => rfl
  have GMbo_or := fun_mk (st := s_Boxes_or) lMbo_or cMbo_or kMbo_or
  have bMbo_or := GMbo_or.binds (ps := ["self", "other"]) fun _ _ _ _ _ _ us hl => match us, hl with | [_, _], _ => rfl
  have GMbo_add := fun_mk (st := s_Boxes_add) lMbo_add cMbo_add kMbo_add
  have bMbo_add := GMbo_add.binds (ps := ["self", "other"]) fun _ _ _ _ _ _ us hl => match us, hl with | [_, _], _ => rfl
  have GMri_init := fun_mk (st := s_Rising_init) lMri_init cMri_init kMri_init
  have bMri_init := GMri_init.binds (ps := ["self", "places"]) fun _ _ _ _ _ _ us hl => match us, hl with | [_, _], _ => rfl
  have GMri_has := fun_mk (st := s_Rising_has) lMri_has cMri_has kMri_has
  have bMri_has := GMri_has.binds (ps := ["self", "thing"]) fun _ _ _ _ _ _ us hl => match us, hl with | [_, _], _ => rfl
  have GMri_invert := fun_mk (st := s_Rising_invert) lMri_invert cMri_invert kMri_invert
  have bMri_invert := GMri_invert.binds (ps := ["self"]) fun _ _ _ _ _ _ us hl => match us, hl with | [_], _ => rfl
  have GMri_and := fun_mk (st := s_Rising_and) lMri_and cMri_and kMri_and
  have bMri_and := GMri_and.binds (ps := ["self", "other"]) fun _ _ _ _ _ _ us hl => match us, hl with | [_, _], _ => rfl
  have GMri_or := fun_mk (st := s_Rising_or) lMri_or cMri_or kMri_or
  have bMri_or := GMri_or.binds (ps := ["self", "other"]) fun _ _ _ _ _ _ us hl => match us, hl with | [_, _], _ => rfl
  have GMri_add := fun_mk (st := s_Rising_add) lMri_add cMri_add kMri_add
  have bMri_add := GMri_add.binds (ps := ["self", "other"]) fun _ _ _ _ _ _ us hl => match us, hl with | [_, _], _ => rfl
  have GMfl_init := fun_mk (st := s_Flats_init) lMfl_init cMfl_init kMfl_init
  have bMfl_init := GMfl_init.binds (ps := ["self", "places"]) fun _ _ _ _ _ _ us hl => match us, hl with | [_, _], _ => rfl
  have GMfl_has := fun_mk (st := s_Flats_has) lMfl_has cMfl_has kMfl_has
  have bMfl_has := GMfl_has.binds (ps := ["self", "thing"]) fun _ _ _ _ _ _ us hl => match us, hl with | [_, _], _ => rfl
  have GMfl_invert := fun_mk (st := s_Flats_invert) lMfl_invert cMfl_invert kMfl_invert
  have bMfl_invert := GMfl_invert.binds (ps := ["self"]) fun _ _ _ _ _ _ us hl => match us, hl with | [_], _ => rfl
  have GMfl_and := fun_mk (st := s_Flats_and) lMfl_and cMfl_and kMfl_and
  have bMfl_and := GMfl_and.binds (ps := ["self", "other"]) fun _ _ _ _ _ _ us hl => match us, hl with | [_, _], _ => rfl
  have GMfl_or := fun_mk (st := s_Flats_or) lMfl_or cMfl_or kMfl_or
  have bMfl_or := GMfl_or.binds (ps := ["self", "other"]) fun _ _ _ _ _ _ us hl => match us, hl with | [_, _], _ => rfl
  have GMfl_add := fun_mk (st := s_Flats_add) lMfl_add cMfl_add kMfl_add
  have bMfl_add := GMfl_add.binds (ps := ["self", "other"]) fun _ _ _ _ _ _ us hl => match us, hl with | [_, _], _ => rfl
  have GMtu_init := fun_mk (st := s_Turns_init) lMtu_init cMtu_init kMtu_init
  have bMtu_init := GMtu_init.binds (ps := ["self", "most"]) fun _ _ _ _ _ _ us hl => match us, hl with | [_, _], _ => rfl
  have GMtu_has := fun_mk (st := s_Turns_has) lMtu_has cMtu_has kMtu_has
  have bMtu_has := GMtu_has.binds (ps := ["self", "thing"]) fun _ _ _ _ _ _ us hl => match us, hl with | [_, _], _ => rfl
  have GMtu_invert := fun_mk (st := s_Turns_invert) lMtu_invert cMtu_invert kMtu_invert
  have bMtu_invert := GMtu_invert.binds (ps := ["self"]) fun _ _ _ _ _ _ us hl => match us, hl with | [_], _ => rfl
  have GMtu_and := fun_mk (st := s_Turns_and) lMtu_and cMtu_and kMtu_and
  have bMtu_and := GMtu_and.binds (ps := ["self", "other"]) fun _ _ _ _ _ _ us hl => match us, hl with | [_, _], _ => rfl
  have GMtu_or := fun_mk (st := s_Turns_or) lMtu_or cMtu_or kMtu_or
  have bMtu_or := GMtu_or.binds (ps := ["self", "other"]) fun _ _ _ _ _ _ us hl => match us, hl with | [_, _], _ => rfl
  have GMtu_add := fun_mk (st := s_Turns_add) lMtu_add cMtu_add kMtu_add
  have bMtu_add := GMtu_add.binds (ps := ["self", "other"]) fun _ _ _ _ _ _ us hl => match us, hl with | [_, _], _ => rfl
  have GMco_init := fun_mk (st := s_Contrary_init) lMco_init cMco_init kMco_init
  have bMco_init := GMco_init.binds (ps := ["self", "kind"]) fun _ _ _ _ _ _ us hl => match us, hl with | [_, _], _ => rfl
  have GMco_has := fun_mk (st := s_Contrary_has) lMco_has cMco_has kMco_has
  have bMco_has := GMco_has.binds (ps := ["self", "thing"]) fun _ _ _ _ _ _ us hl => match us, hl with | [_, _], _ => rfl
  have GMco_invert := fun_mk (st := s_Contrary_invert) lMco_invert cMco_invert kMco_invert
  have bMco_invert := GMco_invert.binds (ps := ["self"]) fun _ _ _ _ _ _ us hl => match us, hl with | [_], _ => rfl
  have GMco_and := fun_mk (st := s_Contrary_and) lMco_and cMco_and kMco_and
  have bMco_and := GMco_and.binds (ps := ["self", "other"]) fun _ _ _ _ _ _ us hl => match us, hl with | [_, _], _ => rfl
  have GMco_or := fun_mk (st := s_Contrary_or) lMco_or cMco_or kMco_or
  have bMco_or := GMco_or.binds (ps := ["self", "other"]) fun _ _ _ _ _ _ us hl => match us, hl with | [_, _], _ => rfl
  have GMco_add := fun_mk (st := s_Contrary_add) lMco_add cMco_add kMco_add
  have bMco_add := GMco_add.binds (ps := ["self", "other"]) fun _ _ _ _ _ _ us hl => match us, hl with | [_, _], _ => rfl
  have GMpa_init := fun_mk (st := s_Pair_init) lMpa_init cMpa_init kMpa_init
  have bMpa_init := GMpa_init.binds (ps := ["self", "word", "one", "other"]) fun _ _ _ _ _ _ us hl => match us, hl with | [_, _, _, _], _ => rfl
  have GMpa_has := fun_mk (st := s_Pair_has) lMpa_has cMpa_has kMpa_has
  have bMpa_has := GMpa_has.binds (ps := ["self", "thing"]) fun _ _ _ _ _ _ us hl => match us, hl with | [_, _], _ => rfl
  have GMpa_invert := fun_mk (st := s_Pair_invert) lMpa_invert cMpa_invert kMpa_invert
  have bMpa_invert := GMpa_invert.binds (ps := ["self"]) fun _ _ _ _ _ _ us hl => match us, hl with | [_], _ => rfl
  have GMpa_and := fun_mk (st := s_Pair_and) lMpa_and cMpa_and kMpa_and
  have bMpa_and := GMpa_and.binds (ps := ["self", "other"]) fun _ _ _ _ _ _ us hl => match us, hl with | [_, _], _ => rfl
  have GMpa_or := fun_mk (st := s_Pair_or) lMpa_or cMpa_or kMpa_or
  have bMpa_or := GMpa_or.binds (ps := ["self", "other"]) fun _ _ _ _ _ _ us hl => match us, hl with | [_, _], _ => rfl
  have GMpa_add := fun_mk (st := s_Pair_add) lMpa_add cMpa_add kMpa_add
  have bMpa_add := GMpa_add.binds (ps := ["self", "other"]) fun _ _ _ _ _ _ us hl => match us, hl with | [_, _], _ => rfl
  let c : KC := (fun i => match i with | .ha => Cha | .bo => Cbo | .ri => Cri | .fl => Cfl | .tu => Ctu | .co => Cco | .pa => Cpa)
  have S : KCl K c := ⟨fun i => by cases i <;> first | exact ⟨pgha, hdha, poha, saha⟩ | exact ⟨pgbo, hdbo, pobo, sabo⟩ | exact ⟨pgri, hdri, pori, sari⟩ | exact ⟨pgfl, hdfl, pofl, safl⟩ | exact ⟨pgtu, hdtu, potu, satu⟩ | exact ⟨pgco, hdco, poco, saco⟩ | exact ⟨pgpa, hdpa, popa, sapa⟩, fun i f hf => by
    simp only [List.mem_cons, List.not_mem_nil, or_false] at hf
    cases i <;> rcases hf with rfl | rfl | rfl | rfl | rfl | rfl <;> first | exact nha_places | exact nha_most | exact nha_kind | exact nha_word | exact nha_one | exact nha_other | exact nbo_places | exact nbo_most | exact nbo_kind | exact nbo_word | exact nbo_one | exact nbo_other | exact nri_places | exact nri_most | exact nri_kind | exact nri_word | exact nri_one | exact nri_other | exact nfl_places | exact nfl_most | exact nfl_kind | exact nfl_word | exact nfl_one | exact nfl_other | exact ntu_places | exact ntu_most | exact ntu_kind | exact ntu_word | exact ntu_one | exact ntu_other | exact nco_places | exact nco_most | exact nco_kind | exact nco_word | exact nco_one | exact nco_other | exact npa_places | exact npa_most | exact npa_kind | exact npa_word | exact npa_one | exact npa_other⟩
  refine ⟨PySem.W.fnOf "law" "law" (defArgs s_law) (defBody s_law) (defScope s_law) .none kVL_law dcL_law pmL_law anL_law cdL_law ctL_law, fun s v => .of_eq rfl, fun base _ _ => ?_⟩
  have D_int : DefAt l.prog w K mg base "is_integer" 1 ["thing"] (spB K isI) := ⟨_, _, ok_is_integer GF_is_integer T.toTxF, M aF_is_integer, kF_is_integer, bF_is_integer⟩
  have D_intn : DefAt l.prog w K mg base "is_integer_or_none" 2 ["thing"] (spB K isNI) := ⟨_, _, ok_is_integer_or_none GF_is_integer_or_none T.toTxF D_int, M aF_is_integer_or_none, kF_is_integer_or_none, bF_is_integer_or_none⟩
  have D_lab : DefAt l.prog w K mg base "is_label" 1 ["thing"] (spB K isL) := ⟨_, _, ok_is_label GF_is_label T.toTxF, M aF_is_label, kF_is_label, bF_is_label⟩
  have D_row : DefAt l.prog w K mg base "is_row" 1 ["thing"] (spB K isR) := ⟨_, _, ok_is_row GF_is_row T.toTxF, M aF_is_row, kF_is_row, bF_is_row⟩
  have D_rof : DefAt l.prog w K mg base "is_row_of" 2 ["thing", "many"] (spBp K isO) := ⟨_, _, ok_is_row_of GF_is_row_of T.toTxF D_row, M aF_is_row_of, kF_is_row_of, bF_is_row_of⟩
  have D_form : DefAt l.prog w K mg base "is_form" 3 ["thing", "word", "many"] (spF K) := ⟨_, _, ok_is_form GF_is_form T.toTxF D_rof, M aF_is_form, kF_is_form, bF_is_form⟩
  have D_num : DefAt l.prog w K mg base "is_number_of_places" 2 ["thing"] (spB K isN) := ⟨_, _, ok_is_number_of_places GF_is_number_of_places T.toTxF D_int, M aF_is_number_of_places, kF_is_number_of_places, bF_is_number_of_places⟩
  have D_pt : DefAt l.prog w K mg base "is_point" 3 ["thing", "places"] (spBp K isP) := ⟨_, _, ok_is_point GF_is_point T.toTxF D_int D_rof, M aF_is_point, kF_is_point, bF_is_point⟩
  have D_chk : DefAt l.prog w K mg base "_check_number_of_places" 3 ["places"] (spCheckP) := ⟨_, _, ok_checkP GF_check_number_of_places TK D_num, M aF_check_number_of_places, kF_check_number_of_places, bF_check_number_of_places⟩
  have D_bnd : DefAt l.prog w K mg base "_is_row_of_bounds" 3 ["thing", "many"] (spBp K isB) := ⟨_, _, ok_is_row_of_bounds GF_is_row_of_bounds T.toTxF D_intn D_rof, M aF_is_row_of_bounds, kF_is_row_of_bounds, bF_is_row_of_bounds⟩
  have Fs : HasFs K c := ⟨⟨_, _, ⟨aMha_has, iMha_has, kMha_has⟩, GMha_has, bMha_has⟩, ⟨_, _, ⟨aMbo_has, iMbo_has, kMbo_has⟩, GMbo_has, bMbo_has⟩, ⟨_, _, ⟨aMri_has, iMri_has, kMri_has⟩, GMri_has, bMri_has⟩, ⟨_, _, ⟨aMfl_has, iMfl_has, kMfl_has⟩, GMfl_has, bMfl_has⟩, ⟨_, _, ⟨aMtu_has, iMtu_has, kMtu_has⟩, GMtu_has, bMtu_has⟩, ⟨_, _, ⟨aMco_has, iMco_has, kMco_has⟩, GMco_has, bMco_has⟩, ⟨_, _, ⟨aMpa_has, iMpa_has, kMpa_has⟩, GMpa_has, bMpa_has⟩⟩
  have HM : ∀ n, HasM l.prog w K mg base c n := has_all S Fs TK D_form D_pt D_int D_row D_rof D_lab D_bnd
  have NC : Mak l.prog w K mg base 1 "Contrary" (c .co) (spIC c) [] := ⟨_, _, _, _, ⟨mkco, aMco_init, iMco_init, kcco⟩, ok_Contrary_init GMco_init S, M aCco, bMco_init, .nil⟩
  have NP : Mak l.prog w K mg base 1 "Pair" (c .pa) (spIP c) [] := ⟨_, _, _, _, ⟨mkpa, aMpa_init, iMpa_init, kcpa⟩, ok_Pair_init GMpa_init S, M aCpa, bMpa_init, .nil⟩
  have N : KMk l.prog w K mg base c := ⟨⟨_, _, _, _, ⟨mkha, aMha_init, iMha_init, kcha⟩, ok_Halves_init GMha_init TK S D_chk, M aCha, bMha_init, .nil⟩, ⟨_, _, _, _, ⟨mkbo, aMbo_init, iMbo_init, kcbo⟩, ok_Boxes_init GMbo_init TK S D_chk, M aCbo, bMbo_init, .nil⟩, ⟨_, _, _, _, ⟨mkri, aMri_init, iMri_init, kcri⟩, ok_Rising_init GMri_init TK S D_chk, M aCri, bMri_init, .nil⟩, ⟨_, _, _, _, ⟨mkfl, aMfl_init, iMfl_init, kcfl⟩, ok_Flats_init GMfl_init TK S D_chk, M aCfl, bMfl_init, .nil⟩, ⟨_, _, _, _, ⟨mktu, aMtu_init, iMtu_init, kctu⟩, ok_Turns_init GMtu_init TK S D_int, M aCtu, bMtu_init, .nil⟩⟩
  have inv : ∀ i, InvI l.prog w K mg base (c i) (spInv K c) := fun i => by
    cases i
    · exact ⟨_, _, ok_Halves_invert GMha_invert NC, aMha_invert, iMha_invert, bMha_invert⟩
    · exact ⟨_, _, ok_Boxes_invert GMbo_invert NC, aMbo_invert, iMbo_invert, bMbo_invert⟩
    · exact ⟨_, _, ok_Rising_invert GMri_invert NC, aMri_invert, iMri_invert, bMri_invert⟩
    · exact ⟨_, _, ok_Flats_invert GMfl_invert NC, aMfl_invert, iMfl_invert, bMfl_invert⟩
    · exact ⟨_, _, ok_Turns_invert GMtu_invert NC, aMtu_invert, iMtu_invert, bMtu_invert⟩
    · exact ⟨_, _, ok_Contrary_invert GMco_invert NC, aMco_invert, iMco_invert, bMco_invert⟩
    · exact ⟨_, _, ok_Pair_invert GMpa_invert NC, aMpa_invert, iMpa_invert, bMpa_invert⟩
  have op_and : ∀ i, OpI l.prog w K mg base (c i) .BitAnd (spPr c .both) := fun i => by
    cases i
    · exact ⟨_, _, ok_Halves_and GMha_and NP, ⟨sfha, by rw [dn_and.1]; exact aMha_and, iMha_and, by rw [dn_and.2]; exact rha_rand⟩, bMha_and⟩
    · exact ⟨_, _, ok_Boxes_and GMbo_and NP, ⟨sfbo, by rw [dn_and.1]; exact aMbo_and, iMbo_and, by rw [dn_and.2]; exact rbo_rand⟩, bMbo_and⟩
    · exact ⟨_, _, ok_Rising_and GMri_and NP, ⟨sfri, by rw [dn_and.1]; exact aMri_and, iMri_and, by rw [dn_and.2]; exact rri_rand⟩, bMri_and⟩
    · exact ⟨_, _, ok_Flats_and GMfl_and NP, ⟨sffl, by rw [dn_and.1]; exact aMfl_and, iMfl_and, by rw [dn_and.2]; exact rfl_rand⟩, bMfl_and⟩
    · exact ⟨_, _, ok_Turns_and GMtu_and NP, ⟨sftu, by rw [dn_and.1]; exact aMtu_and, iMtu_and, by rw [dn_and.2]; exact rtu_rand⟩, bMtu_and⟩
    · exact ⟨_, _, ok_Contrary_and GMco_and NP, ⟨sfco, by rw [dn_and.1]; exact aMco_and, iMco_and, by rw [dn_and.2]; exact rco_rand⟩, bMco_and⟩
    · exact ⟨_, _, ok_Pair_and GMpa_and NP, ⟨sfpa, by rw [dn_and.1]; exact aMpa_and, iMpa_and, by rw [dn_and.2]; exact rpa_rand⟩, bMpa_and⟩
  have op_or : ∀ i, OpI l.prog w K mg base (c i) .BitOr (spPr c .either) := fun i => by
    cases i
    · exact ⟨_, _, ok_Halves_or GMha_or NP, ⟨sfha, by rw [dn_or.1]; exact aMha_or, iMha_or, by rw [dn_or.2]; exact rha_ror⟩, bMha_or⟩
    · exact ⟨_, _, ok_Boxes_or GMbo_or NP, ⟨sfbo, by rw [dn_or.1]; exact aMbo_or, iMbo_or, by rw [dn_or.2]; exact rbo_ror⟩, bMbo_or⟩
    · exact ⟨_, _, ok_Rising_or GMri_or NP, ⟨sfri, by rw [dn_or.1]; exact aMri_or, iMri_or, by rw [dn_or.2]; exact rri_ror⟩, bMri_or⟩
    · exact ⟨_, _, ok_Flats_or GMfl_or NP, ⟨sffl, by rw [dn_or.1]; exact aMfl_or, iMfl_or, by rw [dn_or.2]; exact rfl_ror⟩, bMfl_or⟩
    · exact ⟨_, _, ok_Turns_or GMtu_or NP, ⟨sftu, by rw [dn_or.1]; exact aMtu_or, iMtu_or, by rw [dn_or.2]; exact rtu_ror⟩, bMtu_or⟩
    · exact ⟨_, _, ok_Contrary_or GMco_or NP, ⟨sfco, by rw [dn_or.1]; exact aMco_or, iMco_or, by rw [dn_or.2]; exact rco_ror⟩, bMco_or⟩
    · exact ⟨_, _, ok_Pair_or GMpa_or NP, ⟨sfpa, by rw [dn_or.1]; exact aMpa_or, iMpa_or, by rw [dn_or.2]; exact rpa_ror⟩, bMpa_or⟩
  have op_add : ∀ i, OpI l.prog w K mg base (c i) .Add (spPr c .any) := fun i => by
    cases i
    · exact ⟨_, _, ok_Halves_add GMha_add NP, ⟨sfha, by rw [dn_add.1]; exact aMha_add, iMha_add, by rw [dn_add.2]; exact rha_radd⟩, bMha_add⟩
    · exact ⟨_, _, ok_Boxes_add GMbo_add NP, ⟨sfbo, by rw [dn_add.1]; exact aMbo_add, iMbo_add, by rw [dn_add.2]; exact rbo_radd⟩, bMbo_add⟩
    · exact ⟨_, _, ok_Rising_add GMri_add NP, ⟨sfri, by rw [dn_add.1]; exact aMri_add, iMri_add, by rw [dn_add.2]; exact rri_radd⟩, bMri_add⟩
    · exact ⟨_, _, ok_Flats_add GMfl_add NP, ⟨sffl, by rw [dn_add.1]; exact aMfl_add, iMfl_add, by rw [dn_add.2]; exact rfl_radd⟩, bMfl_add⟩
    · exact ⟨_, _, ok_Turns_add GMtu_add NP, ⟨sftu, by rw [dn_add.1]; exact aMtu_add, iMtu_add, by rw [dn_add.2]; exact rtu_radd⟩, bMtu_add⟩
    · exact ⟨_, _, ok_Contrary_add GMco_add NP, ⟨sfco, by rw [dn_add.1]; exact aMco_add, iMco_add, by rw [dn_add.2]; exact rco_radd⟩, bMco_add⟩
    · exact ⟨_, _, ok_Pair_add GMpa_add NP, ⟨sfpa, by rw [dn_add.1]; exact aMpa_add, iMpa_add, by rw [dn_add.2]; exact rpa_radd⟩, bMpa_add⟩
  have sub : ∀ i j, c i = c j ∨ PySem.W.subIn K (.ref (c j)) (.ref (c i)) = some false := fun i j => by
    cases i <;> cases j <;> first | exact .inl rfl | exact .inr uha_bo | exact .inr uha_ri | exact .inr uha_fl | exact .inr uha_tu | exact .inr uha_co | exact .inr uha_pa | exact .inr ubo_ha | exact .inr ubo_ri | exact .inr ubo_fl | exact .inr ubo_tu | exact .inr ubo_co | exact .inr ubo_pa | exact .inr uri_ha | exact .inr uri_bo | exact .inr uri_fl | exact .inr uri_tu | exact .inr uri_co | exact .inr uri_pa | exact .inr ufl_ha | exact .inr ufl_bo | exact .inr ufl_ri | exact .inr ufl_tu | exact .inr ufl_co | exact .inr ufl_pa | exact .inr utu_ha | exact .inr utu_bo | exact .inr utu_ri | exact .inr utu_fl | exact .inr utu_co | exact .inr utu_pa | exact .inr uco_ha | exact .inr uco_bo | exact .inr uco_ri | exact .inr uco_fl | exact .inr uco_tu | exact .inr uco_pa | exact .inr upa_ha | exact .inr upa_bo | exact .inr upa_ri | exact .inr upa_fl | exact .inr upa_tu | exact .inr upa_co
  have O : KOp l.prog w K mg base c := ⟨inv, op_and, op_or, op_add, sub⟩
  have D_source : DefAt l.prog w K mg base "_law_source" 1 ["_law_script", "_law_at"] (spSource K) := ⟨_, _, ok_source GL_source T.toTxB, M aL_source, kL_source, bL_source⟩
  have D_draw : DefAt l.prog w K mg base "_law_draw" 1 ["_law_draws", "_law_many"] (spDraw) := ⟨_, _, ok_draw GL_draw T.toTxB, M aL_draw, kL_draw, bL_draw⟩
  have D_pick : DefAt l.prog w K mg base "_law_pick" 2 ["_law_draws", "_law_things"] (spPick K) := ⟨_, _, ok_pick GL_pick T.toTxB D_draw, M aL_pick, kL_pick, bL_pick⟩
  have D_pickQ : DefAt l.prog w K mg base "_law_pick" 2 ["_law_draws", "_law_things"] (spPickQ K) := ⟨_, _, ok_pickQ GL_pick T.toTxB D_draw, M aL_pick, kL_pick, bL_pick⟩
  have D_same : ∀ n, DefAt l.prog w K mg base "_law_same" n ["_law_found", "_law_due"] (spPrev K n) := fun n => by
    induction n with
    | zero => exact ⟨_, _, ⟨fun _ _ _ _ h => h.elim, fun _ _ _ _ _ _ _ _ _ _ _ _ _ h => h.elim⟩, M aL_same, kL_same, bL_same⟩
    | succ n ih => exact ⟨_, _, same_body GL_same T.toTxB n ih, M aL_same, kL_same, bL_same⟩
  have D_point : DefAt l.prog w K mg base "_law_point" 2 ["_law_draws", "_law_places", "_law_wide"] (spPoint K) := ⟨_, _, ok_point GL_point T.toTxR D_draw, M aL_point, kL_point, bL_point⟩
  have D_corner : DefAt l.prog w K mg base "_law_corner" 2 ["_law_draws", "_law_places", "_law_wide"] (spCorner K) := ⟨_, _, ok_corner GL_corner T.toTxR D_draw, M aL_corner, kL_corner, bL_corner⟩
  have D_range : DefAt l.prog w K mg base "_law_range" 3 ["_law_draws", "_law_wide"] (spRange K) := ⟨_, _, ok_range GL_range T.toTxR D_draw D_point, M aL_range, kL_range, bL_range⟩
  have D_plain : DefAt l.prog w K mg base "_law_plain" 3 ["_law_draws", "_law_places"] (spPlain K) := ⟨_, _, ok_plain GL_plain T.toTxR D_draw D_pick, M aL_plain, kL_plain, bL_plain⟩
  have D_part : DefAt l.prog w K mg base "_law_part" 3 ["_law_draws", "_law_places"] (spPlain K) := ⟨_, _, ok_part GL_part T.toTxR D_draw D_pick, M aL_part, kL_part, bL_part⟩
  have D_joint : ∀ n, DefAt l.prog w K mg base "_law_joint" (2 * n + 2) ["_law_draws", "_law_places", "_law_deep"] (spJointP K n) ∧ DefAt l.prog w K mg base "_law_pair" (2 * n + 3) ["_law_draws", "_law_places", "_law_deep"] (spPair K n) := fun n => by
    induction n with
    | zero => exact ⟨⟨_, _, ⟨fun _ _ _ _ h => h.elim, fun _ _ _ _ _ _ _ _ _ _ _ _ _ h => h.elim⟩, M aL_joint, kL_joint, bL_joint⟩, ⟨_, _, ⟨fun _ _ _ _ h => h.elim, fun _ _ _ _ _ _ _ _ _ _ _ _ _ h => h.elim⟩, M aL_pair, kL_pair, bL_pair⟩⟩
    | succ n ih =>
      have J : DefAt l.prog w K mg base "_law_joint" (2 * n + 4) ["_law_draws", "_law_places", "_law_deep"] (spJoint K n) := ⟨_, _, joint_body GL_joint T.toTxR n D_draw D_pick D_part ih.1 ih.2, M aL_joint, kL_joint, bL_joint⟩
      exact ⟨J, ⟨_, _, pair_body GL_pair T.toTxR n D_draw D_part J, M aL_pair, kL_pair, bL_pair⟩⟩
  have D_spec : ∀ n, DefAt l.prog w K mg base "_law_spec" (2 * n + 2) ["_law_draws", "_law_places", "_law_deep"] (spJointP K n) := fun n => by
    induction n with
    | zero => exact ⟨_, _, ⟨fun _ _ _ _ h => h.elim, fun _ _ _ _ _ _ _ _ _ _ _ _ _ h => h.elim⟩, M aL_spec, kL_spec, bL_spec⟩
    | succ n ih => exact ⟨_, _, spec_body GL_spec T.toTxR n D_draw D_pick D_plain ih (D_joint n).2, M aL_spec, kL_spec, bL_spec⟩
  have D_rule : ∀ n, DefAt l.prog w K mg base "_law_rule" (n + 3) ["_law_draws", "_law_spec_here", "_law_wide"] (spDrawnP K n) := fun n => by
    induction n with
    | zero => exact ⟨_, _, ⟨fun _ _ _ _ h => h.elim, fun _ _ _ _ _ _ _ _ _ _ _ _ _ h => h.elim⟩, M aL_rule, kL_rule, bL_rule⟩
    | succ n ih => exact ⟨_, _, rule_body GL_rule T.toTxL n D_draw D_point D_corner D_range ih, M aL_rule, kL_rule, bL_rule⟩
  have D_built : ∀ n, DefAt l.prog w K mg base "_law_built" (n + 6) ["_law_spec_here"] (spBuiltP K c n) := fun n => by
    induction n with
    | zero => exact ⟨_, _, ⟨fun _ _ _ _ h => h.elim, fun _ _ _ _ _ _ _ _ _ _ _ _ _ h => h.elim⟩, M aL_built, kL_built, bL_built⟩
    | succ n ih => exact ⟨_, _, built_body GL_built N O n ih, M aL_built, kL_built, bL_built⟩
  have D_Lis_row : DefAt l.prog w K mg base "_law_is_row" 1 ["_law_thing", "_law_many"] (spBp K isP) := ⟨_, _, ok_Lis_row GL_is_row T.toTxB, M aL_is_row, kL_is_row, bL_is_row⟩
  have D_is_ends : DefAt l.prog w K mg base "_law_is_ends" 2 ["_law_thing", "_law_many"] (spBp K fun p d => isR d && allD (isB p) d) := ⟨_, _, ok_is_ends GL_is_ends T.toTxB D_Lis_row, M aL_is_ends, kL_is_ends, bL_is_ends⟩
  have D_is_rule : ∀ n, DefAt l.prog w K mg base "_law_is_rule" (n + 3) ["_law_spec_here", "_law_thing"] (spIsRP K n) := fun n => by
    induction n with
    | zero => exact ⟨_, _, ⟨fun _ _ _ _ h => h.elim, fun _ _ _ _ _ _ _ _ _ _ _ _ _ h => h.elim⟩, M aL_is_rule, kL_is_rule, bL_is_rule⟩
    | succ n ih => exact ⟨_, _, is_rule_body GL_is_rule T zip_rule n D_Lis_row D_is_ends ih, M aL_is_rule, kL_is_rule, bL_is_rule⟩
  have D_bent : ∀ n, DefAt l.prog w K mg base "_law_bent" (n + 3) ["_law_draws", "_law_thing"] (spBentP K n) := fun n => by
    induction n with
    | zero => exact ⟨_, _, ⟨fun _ _ _ _ h => h.elim, fun _ _ _ _ _ _ _ _ _ _ _ _ _ h => h.elim⟩, M aL_bent, kL_bent, bL_bent⟩
    | succ n ih => exact ⟨_, _, bent_body GL_bent T n D_draw D_pickQ ih, M aL_bent, kL_bent, bL_bent⟩
  have D_bents : DefAt l.prog w K mg base "_law_bent" 24 ["_law_draws", "_law_thing"] (spBents K 20) := ⟨_, _, bents_ok fun n _ => bent_body GL_bent T n D_draw D_pickQ (D_bent n), M aL_bent, kL_bent, bL_bent⟩
  exact law_body GL_law T (HM 4) O N D_source D_draw (D_spec 3) (D_spec 2) (D_built 5) (D_rule 5) D_bents (D_is_rule 5) (D_same 3)
theorem walk {l : PySem.W.OpenLaw} {q : Program} {loose : List Str} {XP : (Str → Option Value) → Heap → Prop} {YP : World → Heap → Prop} {d : DefRec} {K : Params → PySem.W.Frag} (hn : l.most = some 63) (hdf : d.params.defaults = [])
    (hY : ∀ (w : World) (h : Heap), YP w h → (K w.params).In h)
    (F : ∀ (w : World) (mg : Str → Option Value) (fa : Addr) (h : Heap), (K w.params).In h → h.Ns mainGlobals mg → mg d.name = some (.ref fa) →
      ∃ fd : FuncData, (∀ (s : Shared) (u : Value), BindsTo s fd ⟨[u], []⟩ [("_law_script", u)]) ∧ ∀ base : Heap, (K w.params).In base → base.Ns mainGlobals mg → FnOk l.prog w (K w.params) mg base CX0 30 fa fd ["_law_script"] (spLaw7 (K w.params))) :
    PySem.W.WalkO q loose XP YP l.row.toRowW d [] (fun f vs => PySem.call f vs) :=
  L2.walk_of (n := 63) (k := 30) (x := "_law_script") (CX := fun _ => CX0) (sp := fun w => spLaw7 (K w.params)) hn (by decide) hdf ⟨rfl, by decide, by decide⟩ hY F (fun _ _ a ns hl _ hS => ⟨a, ns, rfl, hS, hl, fun _ _ => rfl⟩) fun _ _ _ _ _ z => z
end U

set_option Elab.async false
open PySem PySem.W PyProof.Rows in
set_option maxRecDepth 100000 in
set_option maxHeartbeats 0 in
theorem PySem.Challenge.cw_toldenough_k07_rules_had_holds : PySem.Challenge.rw_toldenough_k07_rules_had.Holds := by
  w_on; o_law; k_head; (case hw => w_witness2)
  k_fill
  refine U.walk (l := PySem.Challenge.rw_toldenough_k07_rules_had) rfl rfl (fun w h Y => PySem.W.kIn_of Y) ?F
  case F =>
    intro w mg fa h KX G hmg
    refine' U.all_mk KX G hmg ?aF_is_integer ?lF_is_integer ?cF_is_integer ?kF_is_integer ?aF_is_integer_or_none ?lF_is_integer_or_none ?cF_is_integer_or_none ?kF_is_integer_or_none ?aF_is_label ?lF_is_label ?cF_is_label ?kF_is_label ?aF_is_row ?lF_is_row ?cF_is_row ?kF_is_row ?aF_is_row_of ?lF_is_row_of ?cF_is_row_of ?kF_is_row_of ?aF_is_form ?lF_is_form ?cF_is_form ?kF_is_form ?aF_is_number_of_places ?lF_is_number_of_places ?cF_is_number_of_places ?kF_is_number_of_places ?aF_is_point ?lF_is_point ?cF_is_point ?kF_is_point ?aF_check_number_of_places ?lF_check_number_of_places ?cF_check_number_of_places ?kF_check_number_of_places ?aF_is_row_of_bounds ?lF_is_row_of_bounds ?cF_is_row_of_bounds ?kF_is_row_of_bounds ?aL_source ?lL_source ?cL_source ?kL_source ?aL_draw ?lL_draw ?cL_draw ?kL_draw ?aL_pick ?lL_pick ?cL_pick ?kL_pick ?aL_same ?lL_same ?cL_same ?kL_same ?aL_point ?lL_point ?cL_point ?kL_point ?aL_plain ?lL_plain ?cL_plain ?kL_plain ?aL_spec ?lL_spec ?cL_spec ?kL_spec ?aL_built ?lL_built ?cL_built ?kL_built ?aL_rule ?lL_rule ?cL_rule ?kL_rule ?aL_range ?lL_range ?cL_range ?kL_range ?aL_corner ?lL_corner ?cL_corner ?kL_corner ?aL_part ?lL_part ?cL_part ?kL_part ?aL_joint ?lL_joint ?cL_joint ?kL_joint ?aL_pair ?lL_pair ?cL_pair ?kL_pair ?aL_is_row ?lL_is_row ?cL_is_row ?kL_is_row ?aL_is_ends ?lL_is_ends ?cL_is_ends ?kL_is_ends ?aL_is_rule ?lL_is_rule ?cL_is_rule ?kL_is_rule ?aL_bent ?lL_bent ?cL_bent ?kL_bent ?aL_law ?lL_law ?cL_law ?kL_law ?aCha ?pgha ?hdha ?poha ?saha ?mkha ?kcha ?sfha ?nha_places ?nha_most ?nha_kind ?nha_word ?nha_one ?nha_other ?rha_rand ?rha_ror ?rha_radd ?aMha_init ?iMha_init ?lMha_init ?cMha_init ?kMha_init ?aMha_has ?iMha_has ?lMha_has ?cMha_has ?kMha_has ?aMha_invert ?iMha_invert ?lMha_invert ?cMha_invert ?kMha_invert ?aMha_and ?iMha_and ?lMha_and ?cMha_and ?kMha_and ?aMha_or ?iMha_or ?lMha_or ?cMha_or ?kMha_or ?aMha_add ?iMha_add ?lMha_add ?cMha_add ?kMha_add ?aCbo ?pgbo ?hdbo ?pobo ?sabo ?mkbo ?kcbo ?sfbo ?nbo_places ?nbo_most ?nbo_kind ?nbo_word ?nbo_one ?nbo_other ?rbo_rand ?rbo_ror ?rbo_radd ?aMbo_init ?iMbo_init ?lMbo_init ?cMbo_init ?kMbo_init ?aMbo_has ?iMbo_has ?lMbo_has ?cMbo_has ?kMbo_has ?aMbo_invert ?iMbo_invert ?lMbo_invert ?cMbo_invert ?kMbo_invert ?aMbo_and ?iMbo_and ?lMbo_and ?cMbo_and ?kMbo_and ?aMbo_or ?iMbo_or ?lMbo_or ?cMbo_or ?kMbo_or ?aMbo_add ?iMbo_add ?lMbo_add ?cMbo_add ?kMbo_add ?aCri ?pgri ?hdri ?pori ?sari ?mkri ?kcri ?sfri ?nri_places ?nri_most ?nri_kind ?nri_word ?nri_one ?nri_other ?rri_rand ?rri_ror ?rri_radd ?aMri_init ?iMri_init ?lMri_init ?cMri_init ?kMri_init ?aMri_has ?iMri_has ?lMri_has ?cMri_has ?kMri_has ?aMri_invert ?iMri_invert ?lMri_invert ?cMri_invert ?kMri_invert ?aMri_and ?iMri_and ?lMri_and ?cMri_and ?kMri_and ?aMri_or ?iMri_or ?lMri_or ?cMri_or ?kMri_or ?aMri_add ?iMri_add ?lMri_add ?cMri_add ?kMri_add ?aCfl ?pgfl ?hdfl ?pofl ?safl ?mkfl ?kcfl ?sffl ?nfl_places ?nfl_most ?nfl_kind ?nfl_word ?nfl_one ?nfl_other ?rfl_rand ?rfl_ror ?rfl_radd ?aMfl_init ?iMfl_init ?lMfl_init ?cMfl_init ?kMfl_init ?aMfl_has ?iMfl_has ?lMfl_has ?cMfl_has ?kMfl_has ?aMfl_invert ?iMfl_invert ?lMfl_invert ?cMfl_invert ?kMfl_invert ?aMfl_and ?iMfl_and ?lMfl_and ?cMfl_and ?kMfl_and ?aMfl_or ?iMfl_or ?lMfl_or ?cMfl_or ?kMfl_or ?aMfl_add ?iMfl_add ?lMfl_add ?cMfl_add ?kMfl_add ?aCtu ?pgtu ?hdtu ?potu ?satu ?mktu ?kctu ?sftu ?ntu_places ?ntu_most ?ntu_kind ?ntu_word ?ntu_one ?ntu_other ?rtu_rand ?rtu_ror ?rtu_radd ?aMtu_init ?iMtu_init ?lMtu_init ?cMtu_init ?kMtu_init ?aMtu_has ?iMtu_has ?lMtu_has ?cMtu_has ?kMtu_has ?aMtu_invert ?iMtu_invert ?lMtu_invert ?cMtu_invert ?kMtu_invert ?aMtu_and ?iMtu_and ?lMtu_and ?cMtu_and ?kMtu_and ?aMtu_or ?iMtu_or ?lMtu_or ?cMtu_or ?kMtu_or ?aMtu_add ?iMtu_add ?lMtu_add ?cMtu_add ?kMtu_add ?aCco ?pgco ?hdco ?poco ?saco ?mkco ?kcco ?sfco ?nco_places ?nco_most ?nco_kind ?nco_word ?nco_one ?nco_other ?rco_rand ?rco_ror ?rco_radd ?aMco_init ?iMco_init ?lMco_init ?cMco_init ?kMco_init ?aMco_has ?iMco_has ?lMco_has ?cMco_has ?kMco_has ?aMco_invert ?iMco_invert ?lMco_invert ?cMco_invert ?kMco_invert ?aMco_and ?iMco_and ?lMco_and ?cMco_and ?kMco_and ?aMco_or ?iMco_or ?lMco_or ?cMco_or ?kMco_or ?aMco_add ?iMco_add ?lMco_add ?cMco_add ?kMco_add ?aCpa ?pgpa ?hdpa ?popa ?sapa ?mkpa ?kcpa ?sfpa ?npa_places ?npa_most ?npa_kind ?npa_word ?npa_one ?npa_other ?rpa_rand ?rpa_ror ?rpa_radd ?aMpa_init ?iMpa_init ?lMpa_init ?cMpa_init ?kMpa_init ?aMpa_has ?iMpa_has ?lMpa_has ?cMpa_has ?kMpa_has ?aMpa_invert ?iMpa_invert ?lMpa_invert ?cMpa_invert ?kMpa_invert ?aMpa_and ?iMpa_and ?lMpa_and ?cMpa_and ?kMpa_and ?aMpa_or ?iMpa_or ?lMpa_or ?cMpa_or ?kMpa_or ?aMpa_add ?iMpa_add ?lMpa_add ?cMpa_add ?kMpa_add ?uha_bo ?uha_ri ?uha_fl ?uha_tu ?uha_co ?uha_pa ?ubo_ha ?ubo_ri ?ubo_fl ?ubo_tu ?ubo_co ?ubo_pa ?uri_ha ?uri_bo ?uri_fl ?uri_tu ?uri_co ?uri_pa ?ufl_ha ?ufl_bo ?ufl_ri ?ufl_tu ?ufl_co ?ufl_pa ?utu_ha ?utu_bo ?utu_ri ?utu_fl ?utu_co ?utu_pa ?uco_ha ?uco_bo ?uco_ri ?uco_fl ?uco_tu ?uco_pa ?upa_ha ?upa_bo ?upa_ri ?upa_fl ?upa_tu ?upa_co ?cLEAST_PLACES ?cMOST_PLACES ?cGREATEST_MOST ?z_len ?z_int ?z_isinstance ?z_list ?z_tuple ?z_bool ?z_all ?z_zip ?z_range ?z_enumerate ?z_sorted ?z_set ?z_str
    (case aF_is_integer => k_is)
    (case lF_is_integer => k_is)
    (case cF_is_integer => k_is)
    (case kF_is_integer => k_is)
    (case aF_is_integer_or_none => k_is)
    (case lF_is_integer_or_none => k_is)
    (case cF_is_integer_or_none => k_is)
    (case kF_is_integer_or_none => k_is)
    (case aF_is_label => k_is)
    (case lF_is_label => k_is)
    (case cF_is_label => k_is)
    (case kF_is_label => k_is)
    (case aF_is_row => k_is)
    (case lF_is_row => k_is)
    (case cF_is_row => k_is)
    (case kF_is_row => k_is)
    (case aF_is_row_of => k_is)
    (case lF_is_row_of => k_is)
    (case cF_is_row_of => k_is)
    (case kF_is_row_of => k_is)
    (case aF_is_form => k_is)
    (case lF_is_form => k_is)
    (case cF_is_form => k_is)
    (case kF_is_form => k_is)
    (case aF_is_number_of_places => k_is)
    (case lF_is_number_of_places => k_is)
    (case cF_is_number_of_places => k_is)
    (case kF_is_number_of_places => k_is)
    (case aF_is_point => k_is)
    (case lF_is_point => k_is)
    (case cF_is_point => k_is)
    (case kF_is_point => k_is)
    (case aF_check_number_of_places => k_is)
    (case lF_check_number_of_places => k_is)
    (case cF_check_number_of_places => k_is)
    (case kF_check_number_of_places => k_is)
    (case aF_is_row_of_bounds => k_is)
    (case lF_is_row_of_bounds => k_is)
    (case cF_is_row_of_bounds => k_is)
    (case kF_is_row_of_bounds => k_is)
    (case aL_source => k_is)
    (case lL_source => k_is)
    (case cL_source => k_is)
    (case kL_source => k_is)
    (case aL_draw => k_is)
    (case lL_draw => k_is)
    (case cL_draw => k_is)
    (case kL_draw => k_is)
    (case aL_pick => k_is)
    (case lL_pick => k_is)
    (case cL_pick => k_is)
    (case kL_pick => k_is)
    (case aL_same => k_is)
    (case lL_same => k_is)
    (case cL_same => k_is)
    (case kL_same => k_is)
    (case aL_point => k_is)
    (case lL_point => k_is)
    (case cL_point => k_is)
    (case kL_point => k_is)
    (case aL_plain => k_is)
    (case lL_plain => k_is)
    (case cL_plain => k_is)
    (case kL_plain => k_is)
    (case aL_spec => k_is)
    (case lL_spec => k_is)
    (case cL_spec => k_is)
    (case kL_spec => k_is)
    (case aL_built => k_is)
    (case lL_built => k_is)
    (case cL_built => k_is)
    (case kL_built => k_is)
    (case aL_rule => k_is)
    (case lL_rule => k_is)
    (case cL_rule => k_is)
    (case kL_rule => k_is)
    (case aL_range => k_is)
    (case lL_range => k_is)
    (case cL_range => k_is)
    (case kL_range => k_is)
    (case aL_corner => k_is)
    (case lL_corner => k_is)
    (case cL_corner => k_is)
    (case kL_corner => k_is)
    (case aL_part => k_is)
    (case lL_part => k_is)
    (case cL_part => k_is)
    (case kL_part => k_is)
    (case aL_joint => k_is)
    (case lL_joint => k_is)
    (case cL_joint => k_is)
    (case kL_joint => k_is)
    (case aL_pair => k_is)
    (case lL_pair => k_is)
    (case cL_pair => k_is)
    (case kL_pair => k_is)
    (case aL_is_row => k_is)
    (case lL_is_row => k_is)
    (case cL_is_row => k_is)
    (case kL_is_row => k_is)
    (case aL_is_ends => k_is)
    (case lL_is_ends => k_is)
    (case cL_is_ends => k_is)
    (case kL_is_ends => k_is)
    (case aL_is_rule => k_is)
    (case lL_is_rule => k_is)
    (case cL_is_rule => k_is)
    (case kL_is_rule => k_is)
    (case aL_bent => k_is)
    (case lL_bent => k_is)
    (case cL_bent => k_is)
    (case kL_bent => k_is)
    (case aL_law => k_is)
    (case lL_law => k_is)
    (case cL_law => k_is)
    (case kL_law => k_is)
    (case aCha => k_is)
    (case pgha => k_is)
    (case hdha => k_is)
    (case poha => k_is)
    (case saha => k_is)
    (case mkha => k_is)
    (case kcha => k_is)
    (case sfha => k_is)
    (case nha_places => k_is)
    (case nha_most => k_is)
    (case nha_kind => k_is)
    (case nha_word => k_is)
    (case nha_one => k_is)
    (case nha_other => k_is)
    (case rha_rand => k_is)
    (case rha_ror => k_is)
    (case rha_radd => k_is)
    (case aMha_init => k_is)
    (case iMha_init => k_is)
    (case lMha_init => k_is)
    (case cMha_init => k_is)
    (case kMha_init => k_is)
    (case aMha_has => k_is)
    (case iMha_has => k_is)
    (case lMha_has => k_is)
    (case cMha_has => k_is)
    (case kMha_has => k_is)
    (case aMha_invert => k_is)
    (case iMha_invert => k_is)
    (case lMha_invert => k_is)
    (case cMha_invert => k_is)
    (case kMha_invert => k_is)
    (case aMha_and => k_is)
    (case iMha_and => k_is)
    (case lMha_and => k_is)
    (case cMha_and => k_is)
    (case kMha_and => k_is)
    (case aMha_or => k_is)
    (case iMha_or => k_is)
    (case lMha_or => k_is)
    (case cMha_or => k_is)
    (case kMha_or => k_is)
    (case aMha_add => k_is)
    (case iMha_add => k_is)
    (case lMha_add => k_is)
    (case cMha_add => k_is)
    (case kMha_add => k_is)
    (case aCbo => k_is)
    (case pgbo => k_is)
    (case hdbo => k_is)
    (case pobo => k_is)
    (case sabo => k_is)
    (case mkbo => k_is)
    (case kcbo => k_is)
    (case sfbo => k_is)
    (case nbo_places => k_is)
    (case nbo_most => k_is)
    (case nbo_kind => k_is)
    (case nbo_word => k_is)
    (case nbo_one => k_is)
    (case nbo_other => k_is)
    (case rbo_rand => k_is)
    (case rbo_ror => k_is)
    (case rbo_radd => k_is)
    (case aMbo_init => k_is)
    (case iMbo_init => k_is)
    (case lMbo_init => k_is)
    (case cMbo_init => k_is)
    (case kMbo_init => k_is)
    (case aMbo_has => k_is)
    (case iMbo_has => k_is)
    (case lMbo_has => k_is)
    (case cMbo_has => k_is)
    (case kMbo_has => k_is)
    (case aMbo_invert => k_is)
    (case iMbo_invert => k_is)
    (case lMbo_invert => k_is)
    (case cMbo_invert => k_is)
    (case kMbo_invert => k_is)
    (case aMbo_and => k_is)
    (case iMbo_and => k_is)
    (case lMbo_and => k_is)
    (case cMbo_and => k_is)
    (case kMbo_and => k_is)
    (case aMbo_or => k_is)
    (case iMbo_or => k_is)
    (case lMbo_or => k_is)
    (case cMbo_or => k_is)
    (case kMbo_or => k_is)
    (case aMbo_add => k_is)
    (case iMbo_add => k_is)
    (case lMbo_add => k_is)
    (case cMbo_add => k_is)
    (case kMbo_add => k_is)
    (case aCri => k_is)
    (case pgri => k_is)
    (case hdri => k_is)
    (case pori => k_is)
    (case sari => k_is)
    (case mkri => k_is)
    (case kcri => k_is)
    (case sfri => k_is)
    (case nri_places => k_is)
    (case nri_most => k_is)
    (case nri_kind => k_is)
    (case nri_word => k_is)
    (case nri_one => k_is)
    (case nri_other => k_is)
    (case rri_rand => k_is)
    (case rri_ror => k_is)
    (case rri_radd => k_is)
    (case aMri_init => k_is)
    (case iMri_init => k_is)
    (case lMri_init => k_is)
    (case cMri_init => k_is)
    (case kMri_init => k_is)
    (case aMri_has => k_is)
    (case iMri_has => k_is)
    (case lMri_has => k_is)
    (case cMri_has => k_is)
    (case kMri_has => k_is)
    (case aMri_invert => k_is)
    (case iMri_invert => k_is)
    (case lMri_invert => k_is)
    (case cMri_invert => k_is)
    (case kMri_invert => k_is)
    (case aMri_and => k_is)
    (case iMri_and => k_is)
    (case lMri_and => k_is)
    (case cMri_and => k_is)
    (case kMri_and => k_is)
    (case aMri_or => k_is)
    (case iMri_or => k_is)
    (case lMri_or => k_is)
    (case cMri_or => k_is)
    (case kMri_or => k_is)
    (case aMri_add => k_is)
    (case iMri_add => k_is)
    (case lMri_add => k_is)
    (case cMri_add => k_is)
    (case kMri_add => k_is)
    (case aCfl => k_is)
    (case pgfl => k_is)
    (case hdfl => k_is)
    (case pofl => k_is)
    (case safl => k_is)
    (case mkfl => k_is)
    (case kcfl => k_is)
    (case sffl => k_is)
    (case nfl_places => k_is)
    (case nfl_most => k_is)
    (case nfl_kind => k_is)
    (case nfl_word => k_is)
    (case nfl_one => k_is)
    (case nfl_other => k_is)
    (case rfl_rand => k_is)
    (case rfl_ror => k_is)
    (case rfl_radd => k_is)
    (case aMfl_init => k_is)
    (case iMfl_init => k_is)
    (case lMfl_init => k_is)
    (case cMfl_init => k_is)
    (case kMfl_init => k_is)
    (case aMfl_has => k_is)
    (case iMfl_has => k_is)
    (case lMfl_has => k_is)
    (case cMfl_has => k_is)
    (case kMfl_has => k_is)
    (case aMfl_invert => k_is)
    (case iMfl_invert => k_is)
    (case lMfl_invert => k_is)
    (case cMfl_invert => k_is)
    (case kMfl_invert => k_is)
    (case aMfl_and => k_is)
    (case iMfl_and => k_is)
    (case lMfl_and => k_is)
    (case cMfl_and => k_is)
    (case kMfl_and => k_is)
    (case aMfl_or => k_is)
    (case iMfl_or => k_is)
    (case lMfl_or => k_is)
    (case cMfl_or => k_is)
    (case kMfl_or => k_is)
    (case aMfl_add => k_is)
    (case iMfl_add => k_is)
    (case lMfl_add => k_is)
    (case cMfl_add => k_is)
    (case kMfl_add => k_is)
    (case aCtu => k_is)
    (case pgtu => k_is)
    (case hdtu => k_is)
    (case potu => k_is)
    (case satu => k_is)
    (case mktu => k_is)
    (case kctu => k_is)
    (case sftu => k_is)
    (case ntu_places => k_is)
    (case ntu_most => k_is)
    (case ntu_kind => k_is)
    (case ntu_word => k_is)
    (case ntu_one => k_is)
    (case ntu_other => k_is)
    (case rtu_rand => k_is)
    (case rtu_ror => k_is)
    (case rtu_radd => k_is)
    (case aMtu_init => k_is)
    (case iMtu_init => k_is)
    (case lMtu_init => k_is)
    (case cMtu_init => k_is)
    (case kMtu_init => k_is)
    (case aMtu_has => k_is)
    (case iMtu_has => k_is)
    (case lMtu_has => k_is)
    (case cMtu_has => k_is)
    (case kMtu_has => k_is)
    (case aMtu_invert => k_is)
    (case iMtu_invert => k_is)
    (case lMtu_invert => k_is)
    (case cMtu_invert => k_is)
    (case kMtu_invert => k_is)
    (case aMtu_and => k_is)
    (case iMtu_and => k_is)
    (case lMtu_and => k_is)
    (case cMtu_and => k_is)
    (case kMtu_and => k_is)
    (case aMtu_or => k_is)
    (case iMtu_or => k_is)
    (case lMtu_or => k_is)
    (case cMtu_or => k_is)
    (case kMtu_or => k_is)
    (case aMtu_add => k_is)
    (case iMtu_add => k_is)
    (case lMtu_add => k_is)
    (case cMtu_add => k_is)
    (case kMtu_add => k_is)
    (case aCco => k_is)
    (case pgco => k_is)
    (case hdco => k_is)
    (case poco => k_is)
    (case saco => k_is)
    (case mkco => k_is)
    (case kcco => k_is)
    (case sfco => k_is)
    (case nco_places => k_is)
    (case nco_most => k_is)
    (case nco_kind => k_is)
    (case nco_word => k_is)
    (case nco_one => k_is)
    (case nco_other => k_is)
    (case rco_rand => k_is)
    (case rco_ror => k_is)
    (case rco_radd => k_is)
    (case aMco_init => k_is)
    (case iMco_init => k_is)
    (case lMco_init => k_is)
    (case cMco_init => k_is)
    (case kMco_init => k_is)
    (case aMco_has => k_is)
    (case iMco_has => k_is)
    (case lMco_has => k_is)
    (case cMco_has => k_is)
    (case kMco_has => k_is)
    (case aMco_invert => k_is)
    (case iMco_invert => k_is)
    (case lMco_invert => k_is)
    (case cMco_invert => k_is)
    (case kMco_invert => k_is)
    (case aMco_and => k_is)
    (case iMco_and => k_is)
    (case lMco_and => k_is)
    (case cMco_and => k_is)
    (case kMco_and => k_is)
    (case aMco_or => k_is)
    (case iMco_or => k_is)
    (case lMco_or => k_is)
    (case cMco_or => k_is)
    (case kMco_or => k_is)
    (case aMco_add => k_is)
    (case iMco_add => k_is)
    (case lMco_add => k_is)
    (case cMco_add => k_is)
    (case kMco_add => k_is)
    (case aCpa => k_is)
    (case pgpa => k_is)
    (case hdpa => k_is)
    (case popa => k_is)
    (case sapa => k_is)
    (case mkpa => k_is)
    (case kcpa => k_is)
    (case sfpa => k_is)
    (case npa_places => k_is)
    (case npa_most => k_is)
    (case npa_kind => k_is)
    (case npa_word => k_is)
    (case npa_one => k_is)
    (case npa_other => k_is)
    (case rpa_rand => k_is)
    (case rpa_ror => k_is)
    (case rpa_radd => k_is)
    (case aMpa_init => k_is)
    (case iMpa_init => k_is)
    (case lMpa_init => k_is)
    (case cMpa_init => k_is)
    (case kMpa_init => k_is)
    (case aMpa_has => k_is)
    (case iMpa_has => k_is)
    (case lMpa_has => k_is)
    (case cMpa_has => k_is)
    (case kMpa_has => k_is)
    (case aMpa_invert => k_is)
    (case iMpa_invert => k_is)
    (case lMpa_invert => k_is)
    (case cMpa_invert => k_is)
    (case kMpa_invert => k_is)
    (case aMpa_and => k_is)
    (case iMpa_and => k_is)
    (case lMpa_and => k_is)
    (case cMpa_and => k_is)
    (case kMpa_and => k_is)
    (case aMpa_or => k_is)
    (case iMpa_or => k_is)
    (case lMpa_or => k_is)
    (case cMpa_or => k_is)
    (case kMpa_or => k_is)
    (case aMpa_add => k_is)
    (case iMpa_add => k_is)
    (case lMpa_add => k_is)
    (case cMpa_add => k_is)
    (case kMpa_add => k_is)
    (case uha_bo => k_is)
    (case uha_ri => k_is)
    (case uha_fl => k_is)
    (case uha_tu => k_is)
    (case uha_co => k_is)
    (case uha_pa => k_is)
    (case ubo_ha => k_is)
    (case ubo_ri => k_is)
    (case ubo_fl => k_is)
    (case ubo_tu => k_is)
    (case ubo_co => k_is)
    (case ubo_pa => k_is)
    (case uri_ha => k_is)
    (case uri_bo => k_is)
    (case uri_fl => k_is)
    (case uri_tu => k_is)
    (case uri_co => k_is)
    (case uri_pa => k_is)
    (case ufl_ha => k_is)
    (case ufl_bo => k_is)
    (case ufl_ri => k_is)
    (case ufl_tu => k_is)
    (case ufl_co => k_is)
    (case ufl_pa => k_is)
    (case utu_ha => k_is)
    (case utu_bo => k_is)
    (case utu_ri => k_is)
    (case utu_fl => k_is)
    (case utu_co => k_is)
    (case utu_pa => k_is)
    (case uco_ha => k_is)
    (case uco_bo => k_is)
    (case uco_ri => k_is)
    (case uco_fl => k_is)
    (case uco_tu => k_is)
    (case uco_pa => k_is)
    (case upa_ha => k_is)
    (case upa_bo => k_is)
    (case upa_ri => k_is)
    (case upa_fl => k_is)
    (case upa_tu => k_is)
    (case upa_co => k_is)
    (case cLEAST_PLACES => k_is)
    (case cMOST_PLACES => k_is)
    (case cGREATEST_MOST => k_is)
    (case z_len => k_is)
    (case z_int => k_is)
    (case z_isinstance => k_is)
    (case z_list => k_is)
    (case z_tuple => k_is)
    (case z_bool => k_is)
    (case z_all => k_is)
    (case z_zip => k_is)
    (case z_range => k_is)
    (case z_enumerate => k_is)
    (case z_sorted => k_is)
    (case z_set => k_is)
    (case z_str => k_is)


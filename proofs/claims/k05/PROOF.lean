import PyProof.Rows.All
import Wide.All
import OpenK.AllK
import Wide.FinOn
import PyProof.EqAt
import PyProof.EqKinds
import PyProof.TupleCall
import HandS.Base
import HandS.Call
import HandS.List
import HandS.Comp
import HandS.Ends
import HandS.Dict
import HandS.Iter
import HandS.Words
import HandS.WordsList
import HandS.Evl
import HandS.Zip
import HandS.IsInst
import HandS.Walk
import KE.GoesEnum
import KE.GoesMore
import HandS.Exc
import HandS.ExcOwn
import HandS.ExcInit
import HandS.ExcValue
import KE.KExcIs
import HandS.ExcField
import HandS.OwnEq
import HandS.TupAny
import HandS.Codes
import HandS.TryOnly
import HandS.WordsExc
import KE.KOpsOwn
import PySem.Challenge.RW_toldenough_k05_kinds_made
import HandS.Defaults
import HandS.TryMany
import HandS.Lambda
import HandS.EndTab
import HandS.More
import HandS.Steps
import HandS.Style
import PyProof.InstEq
import KE.KEqDeep
import HandS.ListItems
import HandS.EndOwn
set_option Elab.async false
set_option linter.all false
set_option maxRecDepth 100000
set_option maxHeartbeats 2000000
namespace U
open PySem L2
open Evl (Ex)
/-! ### heaps with hidden cells -/
/-- H without the cells of L -/
def W (L : List Addr) (H : Hp) : Hp := fun a => if a ∈ L then none else H a
/-- the hidden cells stand in H -/
def Hid (L : List Addr) (H : Hp) : Prop := ∀ a ∈ L, H a ≠ none
section
variable {L : List Addr} {H H' H2 : Hp} {a p : Addr} {o u : HO}
theorem w_in (h : W L H a = some o) : H a = some o ∧ a ∉ L := by
  unfold W at h
  by_cases e : a ∈ L
  · rw [if_pos e] at h
    cases h
  · rw [if_neg e] at h
    exact ⟨h, e⟩
theorem w_of (n : a ∉ L) (h : H a = some o) : W L H a = some o := by
  unfold W
  rw [if_neg n]
  exact h
theorem w_sub : Ex (W L H) H := fun a o h => (w_in h).1
theorem w_ex (e : Ex H H') : Ex (W L H) (W L H') := fun a o h => w_of (w_in h).2 (e a o (w_in h).1)
theorem w_nil : W [] H = H := by
  funext a
  unfold W
  rw [if_neg (by simp)]
theorem hid_nil : Hid [] H := fun _ h => by cases h
theorem hid_ex (e : Ex H H') (h : Hid L H) : Hid L H' := fun a m z => by
  cases q : H a with
  | none => exact h a m q
  | some o =>
    have r := e a o q
    rw [z] at r
    cases r
theorem hid_not (h : Hid L H) (n : H p = none) : p ∉ L := fun m => h p m n
theorem w_new (h : Hid L H) (n : H p = none) : W L (upd H p o) p = some o := w_of (hid_not h n) upd_same
theorem w_upd_in (m : p ∈ L) : W L (upd H p o) = W L H := by
  funext a
  unfold W
  by_cases e : a ∈ L
  · rw [if_pos e, if_pos e]
  · rw [if_neg e, if_neg e, upd_ne (fun z => e (by rw [z]; exact m))]
theorem w_sub2 {L2 : List Addr} (s : ∀ a ∈ L, a ∈ L2) : Ex (W L2 H) (W L H) := fun a o h => w_of (fun m => (w_in h).2 (s a m)) (w_in h).1
theorem hid_upd (h : Hid L H) : Hid L (upd H p o) := fun a m z => by
  by_cases e : a = p
  · rw [e, upd_same] at z
    cases z
  · rw [upd_ne e] at z
    exact h a m z
end
/-! ### data that stands -/
section
variable {K : PySem.W.Frag} {H H' : Hp}
mutual
theorem dp_mono (e : Ex H H') : ∀ (d : PyData) (v : V), Dp K H v d → Dp K H' v d
  | .none, _, h => by cases h; exact .non
  | .bool _, _, h => by cases h; exact .bl _
  | .int _, _, h => by cases h; exact .int _
  | .str _, _, h => by cases h; exact .str _
  | .list ds, _, h => by
    cases h with
    | lst hs ha => exact .lst (Evl.ex_l e hs) (dpa_mono e ds _ ha)
  | .tuple ds, _, h => by
    cases h with
    | tup hs ha => exact .tup (Evl.ex_t e hs) (dpa_mono e ds _ ha)
  | .dict _, _, h => by cases h
theorem dpa_mono (e : Ex H H') : ∀ (ds : List PyData) (vs : List V), DpAll K H vs ds → DpAll K H' vs ds
  | [], _, h => by cases h; exact .nil
  | d :: ds, _, h => by
    cases h with
    | cons h1 h2 => exact .cons (dp_mono e d _ h1) (dpa_mono e ds _ h2)
end
theorem _root_.L2.Dp.up {v : V} {d : PyData} (h : Dp K H v d) (e : Ex H H') : Dp K H' v d := dp_mono e d v h
theorem _root_.L2.DpAll.up {vs : List V} {ds : List PyData} (h : DpAll K H vs ds) (e : Ex H H') : DpAll K H' vs ds := dpa_mono e ds vs h
theorem dpa_len : ∀ {vs : List V} {ds : List PyData}, DpAll K H vs ds → vs.length = ds.length
  | _, _, .nil => rfl
  | _, _, .cons _ t => congrArg Nat.succ (dpa_len t)
theorem dpa_get : ∀ {vs : List V} {ds : List PyData} {i : Nat} {v : V}, DpAll K H vs ds → vs[i]? = some v → ∃ d, ds[i]? = some d ∧ Dp K H v d
  | _, _, _, _, .nil, e => by simp at e
  | _, _, 0, _, .cons r _, e => by simp at e; subst e; exact ⟨_, rfl, r⟩
  | _, _, i + 1, x, .cons _ t, e => by
    obtain ⟨d, h1, h2⟩ := dpa_get (i := i) (v := x) t (by simpa using e)
    exact ⟨d, by simpa using h1, h2⟩
theorem dpa_get2 : ∀ {vs : List V} {ds : List PyData} {i : Nat} {d : PyData}, DpAll K H vs ds → ds[i]? = some d → ∃ v, vs[i]? = some v ∧ Dp K H v d
  | _, _, _, _, .nil, e => by simp at e
  | _, _, 0, _, .cons r _, e => by simp at e; subst e; exact ⟨_, rfl, r⟩
  | _, _, i + 1, x, .cons _ t, e => by
    obtain ⟨v, h1, h2⟩ := dpa_get2 (i := i) (d := x) t (by simpa using e)
    exact ⟨v, by simpa using h1, h2⟩
theorem dpa_app : ∀ {vs ws : List V} {ds es : List PyData}, DpAll K H vs ds → DpAll K H ws es → DpAll K H (vs ++ ws) (ds ++ es)
  | _, _, _, _, .nil, h => h
  | _, _, _, _, .cons r t, h => .cons r (dpa_app t h)
/-- the type's name -/
def tyOf : PyData → String
  | .none => "NoneType"
  | .bool _ => "bool"
  | .int _ => "int"
  | .str _ => "str"
  | .list _ => "list"
  | .tuple _ => "tuple"
  | .dict _ => "dict"
theorem dp_ty {v : V} {d : PyData} (h : Dp K H v d) : TyX K H v (.type (tyOf d)) := by
  cases h with
  | non => exact .base .non
  | bl b => exact .base (.bl b)
  | int i => exact .base (.int i)
  | str x => exact .base (.str x)
  | lst hs ha =>
    rcases hs with (h | ⟨o, h⟩) | ⟨o, its, n, h, c, _⟩
    · exact .base (.lst h)
    · exact .base (.frz h)
    · exact .kList h c
  | tup hs ha =>
    rcases hs with (h | ⟨o, h⟩) | ⟨o, its, n, h, c, _⟩
    · exact .base (.tup h)
    · exact .fTuple h
    · exact .kTuple h c
/-- isinstance of data: one class, several classes -/
def kitsB (a : String) : List String → Option Bool
  | [] => some false
  | n :: ns => match kitB a n with
    | some true => some true
    | some false => kitsB a ns
    | none => none
theorem kitsB_ok {a : String} : ∀ {ns : List String} {b : Bool}, kitsB a ns = some b → PySem.W.kitAny K (.type a) (ns.map Value.type) = some b
  | [], _, h => h
  | n :: ns, b, h => by
    unfold kitsB at h
    cases q : kitB a n with
    | none => rw [q] at h; cases h
    | some c =>
      rw [q] at h
      cases c with
      | true =>
        cases h
        exact kitAny_cons (kit_ty q) (fun z => by cases z) fun _ => rfl
      | false => exact kitAny_cons (kit_ty q) (fun _ => kitsB_ok h) fun z => by cases z
theorem tys_cls : ∀ {ns : List String}, Paired ClsV (ns.map V.ty) (ns.map Value.type)
  | [] => .nil
  | n :: _ => .cons (.ty n) tys_cls
end
/-! ### what isinstance answers -/
theorem isi_NoneType_list : kitB "NoneType" "list" = some false := by decide +kernel
theorem isi_NoneType_tuple : kitB "NoneType" "tuple" = some false := by decide +kernel
theorem isi_NoneType_bool : kitB "NoneType" "bool" = some false := by decide +kernel
theorem isi_NoneType_int : kitB "NoneType" "int" = some false := by decide +kernel
theorem isi_NoneType_str : kitB "NoneType" "str" = some false := by decide +kernel
theorem isi_NoneType_list_tuple : kitsB "NoneType" ["list", "tuple"] = some false := by decide +kernel
theorem isi_NoneType_bool_int : kitsB "NoneType" ["bool", "int"] = some false := by decide +kernel
theorem isi_NoneType_bool_int_list_tuple : kitsB "NoneType" ["bool", "int", "list", "tuple"] = some false := by decide +kernel
theorem isi_bool_list : kitB "bool" "list" = some false := by decide +kernel
theorem isi_bool_tuple : kitB "bool" "tuple" = some false := by decide +kernel
theorem isi_bool_bool : kitB "bool" "bool" = some true := by decide +kernel
theorem isi_bool_int : kitB "bool" "int" = some true := by decide +kernel
theorem isi_bool_str : kitB "bool" "str" = some false := by decide +kernel
theorem isi_bool_list_tuple : kitsB "bool" ["list", "tuple"] = some false := by decide +kernel
theorem isi_bool_bool_int : kitsB "bool" ["bool", "int"] = some true := by decide +kernel
theorem isi_bool_bool_int_list_tuple : kitsB "bool" ["bool", "int", "list", "tuple"] = some true := by decide +kernel
theorem isi_int_list : kitB "int" "list" = some false := by decide +kernel
theorem isi_int_tuple : kitB "int" "tuple" = some false := by decide +kernel
theorem isi_int_bool : kitB "int" "bool" = some false := by decide +kernel
theorem isi_int_int : kitB "int" "int" = some true := by decide +kernel
theorem isi_int_str : kitB "int" "str" = some false := by decide +kernel
theorem isi_int_list_tuple : kitsB "int" ["list", "tuple"] = some false := by decide +kernel
theorem isi_int_bool_int : kitsB "int" ["bool", "int"] = some true := by decide +kernel
theorem isi_int_bool_int_list_tuple : kitsB "int" ["bool", "int", "list", "tuple"] = some true := by decide +kernel
theorem isi_str_list : kitB "str" "list" = some false := by decide +kernel
theorem isi_str_tuple : kitB "str" "tuple" = some false := by decide +kernel
theorem isi_str_bool : kitB "str" "bool" = some false := by decide +kernel
theorem isi_str_int : kitB "str" "int" = some false := by decide +kernel
theorem isi_str_str : kitB "str" "str" = some true := by decide +kernel
theorem isi_str_list_tuple : kitsB "str" ["list", "tuple"] = some false := by decide +kernel
theorem isi_str_bool_int : kitsB "str" ["bool", "int"] = some false := by decide +kernel
theorem isi_str_bool_int_list_tuple : kitsB "str" ["bool", "int", "list", "tuple"] = some false := by decide +kernel
theorem isi_list_list : kitB "list" "list" = some true := by decide +kernel
theorem isi_list_tuple : kitB "list" "tuple" = some false := by decide +kernel
theorem isi_list_bool : kitB "list" "bool" = some false := by decide +kernel
theorem isi_list_int : kitB "list" "int" = some false := by decide +kernel
theorem isi_list_str : kitB "list" "str" = some false := by decide +kernel
theorem isi_list_list_tuple : kitsB "list" ["list", "tuple"] = some true := by decide +kernel
theorem isi_list_bool_int : kitsB "list" ["bool", "int"] = some false := by decide +kernel
theorem isi_list_bool_int_list_tuple : kitsB "list" ["bool", "int", "list", "tuple"] = some true := by decide +kernel
theorem isi_tuple_list : kitB "tuple" "list" = some false := by decide +kernel
theorem isi_tuple_tuple : kitB "tuple" "tuple" = some true := by decide +kernel
theorem isi_tuple_bool : kitB "tuple" "bool" = some false := by decide +kernel
theorem isi_tuple_int : kitB "tuple" "int" = some false := by decide +kernel
theorem isi_tuple_str : kitB "tuple" "str" = some false := by decide +kernel
theorem isi_tuple_list_tuple : kitsB "tuple" ["list", "tuple"] = some true := by decide +kernel
theorem isi_tuple_bool_int : kitsB "tuple" ["bool", "int"] = some false := by decide +kernel
theorem isi_tuple_bool_int_list_tuple : kitsB "tuple" ["bool", "int", "list", "tuple"] = some true := by decide +kernel
theorem isi_dict_list : kitB "dict" "list" = some false := by decide +kernel
theorem isi_dict_tuple : kitB "dict" "tuple" = some false := by decide +kernel
theorem isi_dict_bool : kitB "dict" "bool" = some false := by decide +kernel
theorem isi_dict_int : kitB "dict" "int" = some false := by decide +kernel
theorem isi_dict_str : kitB "dict" "str" = some false := by decide +kernel
theorem isi_dict_list_tuple : kitsB "dict" ["list", "tuple"] = some false := by decide +kernel
theorem isi_dict_bool_int : kitsB "dict" ["bool", "int"] = some false := by decide +kernel
theorem isi_dict_bool_int_list_tuple : kitsB "dict" ["bool", "int", "list", "tuple"] = some false := by decide +kernel
/-! ### readings -/
section
variable {K : PySem.W.Frag} {σ : L2.St} {H : Hp} {te tb : TE} {v w : V} {d e : PyData} {b : Bool}
theorem ev_isi {n : String} (h : Evl.Ev te σ H v) (hd : Dp K H v d) (hb : kitB (tyOf d) n = some b) : Evl.Ev (tCB (rIsi K) (tCons te (tCons (tC (.ty n)) tNil))) σ H (.bl b) := fun H1 e1 Q q =>
  h H1 e1 _ fun H2 e2 => ⟨v, .ty n, _, _, b, rfl, .ty n, dp_ty (Dp.up hd (e1.trans e2)), kit_ty hb, q H2 e2⟩
theorem ev_isi2 {m n : String} (h : Evl.Ev te σ H v) (hd : Dp K H v d) (hb : kitsB (tyOf d) [m, n] = some b) : Evl.Ev (tCB (rIsiT K) (tCons te (tCons (tTup (tCons (tC (.ty m)) (tCons (tC (.ty n)) tNil))) tNil))) σ H (.bl b) := fun H1 e1 Q q =>
  h H1 e1 _ fun H2 e2 => ⟨by show 2 ≤ sizeLine; decide, fun p hp => ⟨v, p, _, _, _, b, rfl, upd_same, tys_cls (ns := [m, n]), dp_ty (Dp.up hd ((e1.trans e2).trans (Ex.new hp))), kitsB_ok hb, q _ (e2.trans (Ex.new hp))⟩⟩
theorem ev_isi4 {m n k l : String} (h : Evl.Ev te σ H v) (hd : Dp K H v d) (hb : kitsB (tyOf d) [m, n, k, l] = some b) :
    Evl.Ev (tCB (rIsiT K) (tCons te (tCons (tTup (tCons (tC (.ty m)) (tCons (tC (.ty n)) (tCons (tC (.ty k)) (tCons (tC (.ty l)) tNil))))) tNil))) σ H (.bl b) := fun H1 e1 Q q =>
  h H1 e1 _ fun H2 e2 => ⟨by show 4 ≤ sizeLine; decide, fun p hp => ⟨v, p, _, _, _, b, rfl, upd_same, tys_cls (ns := [m, n, k, l]), dp_ty (Dp.up hd ((e1.trans e2).trans (Ex.new hp))), kitsB_ok hb, q _ (e2.trans (Ex.new hp))⟩⟩
theorem ev_eqD (h : Evl.Ev te σ H v) (h2 : Evl.Ev tb σ H w) (hd : Dp K H v d) (he : Dp K H w e) (sd : SeqAt.shaped d = true) (se : SeqAt.shaped e = true) : Evl.Ev (tOp (rEqD K) te tb) σ H (.bl (PyData.eqv d e)) := fun H1 e1 Q q =>
  h H1 e1 _ fun H2 e2 => h2 H2 (e1.trans e2) _ fun H3 e3 => ⟨d, e, Dp.up hd ((e1.trans e2).trans e3), Dp.up he ((e1.trans e2).trans e3), sd, se, q H3 (e2.trans e3)⟩
theorem ev_eqB {a c : Bool} (h : Evl.Ev te σ H (.bl a)) (h2 : Evl.Ev tb σ H (.bl c)) : Evl.Ev (tOp rEq te tb) σ H (.bl (decide (V.bl a = V.bl c))) := Evl.ev_op h h2 (Evl.rv_eq rfl)
theorem ev_neB {a c : Bool} (h : Evl.Ev te σ H (.bl a)) (h2 : Evl.Ev tb σ H (.bl c)) : Evl.Ev (tOp rNe te tb) σ H (.bl (!decide (V.bl a = V.bl c))) := Evl.ev_op h h2 (Evl.rv_ne rfl)
theorem ev_lenS {a : Addr} {xs : List V} (ha : Evl.Ev te σ H (.ref a)) (h : SqL K H a xs ∨ SqT K H a xs) : Evl.Ev (tCB (fun xs H Q => ∃ p ys, xs = [.ref p] ∧ (SqL K H p ys ∨ SqT K H p ys) ∧ Q (.int ys.length) H) (tCons te tNil)) σ H (.int (xs.length : Int)) := fun H1 e Q q =>
  ha H1 e _ fun H2 e2 => ⟨a, xs, rfl, h.imp (Evl.ex_l (e.trans e2)) (Evl.ex_t (e.trans e2)), q H2 e2⟩
end
/-! ### defs of the text, found by their names -/
structure DefAt (P : Program) (w : World) (K : PySem.W.Frag) (mg : Str → Option Value) (base : Heap) (x : Str) (k : Nat) (ps : List Str) (sp : Sp) : Prop where
  ex : ∃ f fd, FnOk P w K mg base CX0 k f fd ps sp ∧ mg x = some (.ref f) ∧ PySem.W.keepIn K (.ref f) = true ∧ Binds K fd ps []
theorem DefAt.imp {P : Program} {w : World} {K : PySem.W.Frag} {mg : Str → Option Value} {base : Heap} {x : Str} {k : Nat} {ps : List Str} {sp sp' : Sp} (D : DefAt P w K mg base x k ps sp) (h : ∀ vs H Q E, sp' vs H Q E → sp vs H Q E) : DefAt P w K mg base x k ps sp' := by
  obtain ⟨f, fd, F, r⟩ := D.ex
  exact ⟨f, fd, F.imp h, r⟩
theorem DefAt.mono {P : Program} {w : World} {K : PySem.W.Frag} {mg : Str → Option Value} {base : Heap} {x : Str} {k j : Nat} {ps : List Str} {sp : Sp} (D : DefAt P w K mg base x k ps sp) (h : k ≤ j) : DefAt P w K mg base x j ps sp := by
  obtain ⟨f, fd, F, r⟩ := D.ex
  exact ⟨f, fd, F.mono h, r⟩
def tCallD (sp : Sp) (t : TA) : TE := fun σ H Q => t σ H fun vs H1 => sp vs H1 Q E0
theorem pe_callD {X : Cx} {x : Str} {k : Nat} {ps : List Str} {sp : Sp} {p pos : Pos} {e : Expr} {es : List Expr} {t : TA} (D : DefAt X.prog X.w X.K X.mg X.base x k ps sp) (hr : Room k X.A) (hg : Gl X x) (ha : PA X (e :: es) t)
    (hdb : (x == ("__debug__" : Str)) = false := by decide) (he : starEach (e :: es) X.env = (false, eval e X.env) :: starEach es X.env := by rfl) (hpl : (backTo pos (starEach es X.env)).any (·.1) = false := by rfl) :
    PE X (.Call (.Name x p) (e :: es) [] pos) (tCallD sp t) := by
  obtain ⟨f, fd, F, hm, hk, hb⟩ := D.ex
  refine ⟨fun pins s σ H Q I h => (pe_call (E := E0) F hr hg hm hk hb .nil pass0 ha hdb he hpl).run pins s σ H Q I ?_⟩
  have e1 : (fun (vs : List V) (H1 : Hp) => sp (vs ++ []) H1 Q E0) = fun vs H1 => sp vs H1 Q E0 := by
    funext vs H1
    rw [List.append_nil]
  show t σ H fun vs H1 => sp (vs ++ []) H1 Q E0
  rw [e1]
  exact h
/-! ### draws -/
/-- at l the draws: three numbers; at most n drawn by the second way -/
def Dr (n : Nat) (H : Hp) (l : Addr) : Prop := ∃ x y z : Int, H l = some (.lst [.int x, .int y, .int z]) ∧ 0 ≤ x ∧ 0 ≤ y ∧ y ≤ 1099511627776 ∧ 0 ≤ z ∧ z ≤ (n : Int)
theorem Dr.up {n m : Nat} {H : Hp} {l : Addr} (h : Dr n H l) (e : n ≤ m) : Dr m H l := by
  obtain ⟨x, y, z, h1, h2, h3, h4, h5, h6⟩ := h
  exact ⟨x, y, z, h1, h2, h3, h4, h5, by omega⟩
theorem Dr.ne {n : Nat} {H : Hp} {l : Addr} (h : Dr n H l) : H l ≠ none := by
  obtain ⟨x, y, z, h1, _⟩ := h
  rw [h1]
  simp
theorem Dr.ex {n : Nat} {H H' : Hp} {l : Addr} (h : Dr n H l) (e : Ex H H') : Dr n H' l := by
  obtain ⟨x, y, z, h1, h2⟩ := h
  exact ⟨x, y, z, e _ _ h1, h2⟩
/-- all but the cell l stays -/
def ExB (l : Addr) (H H' : Hp) : Prop := ∀ a o, a ≠ l → H a = some o → H' a = some o
theorem ExB.refl (l : Addr) (H : Hp) : ExB l H H := fun _ _ _ h => h
theorem ExB.of {l : Addr} {H H' : Hp} (e : Ex H H') : ExB l H H' := fun a o _ h => e a o h
theorem ExB.trans {l : Addr} {H H1 H2 : Hp} (a : ExB l H H1) (b : ExB l H1 H2) : ExB l H H2 := fun c o n h => b c o n (a c o n h)
theorem ExB.upd {l : Addr} {H : Hp} {o : HO} : ExB l H (upd H l o) := fun a u n h => by
  rw [upd_ne n]
  exact h
theorem ExB.w {l : Addr} {L : List Addr} {H H' : Hp} (e : ExB l H H') (m : l ∈ L) : Ex (W L H) (W L H') := fun a o h => by
  obtain ⟨h1, n⟩ := w_in h
  exact w_of n (e a o (fun z => n (by rw [z]; exact m)) h1)
theorem ExB.hid {l : Addr} {L : List Addr} {H H' : Hp} (e : ExB l H H') (hl : H' l ≠ none) (h : Hid L H) : Hid L H' := fun a m => by
  by_cases q : a = l
  · rw [q]
    exact hl
  · intro z
    cases r : H a with
    | none => exact h a m r
    | some o =>
      have t := e a o q r
      rw [z] at t
      cases t
def spSource (K : PySem.W.Frag) : Sp := fun vs H Q _ => ∃ (s : Addr) (ns : List Int) (i : Nat), vs = [.ref s, .int (i : Int)] ∧ SqL K H s (ns.map V.int) ∧ ns.length ≤ 63 ∧ i ≤ 100 ∧
  ∀ l o, H l = none → Dr 0 (upd H l o) l → Q (.ref l) (upd H l o)
def spDraw : Sp := fun vs H Q _ => ∃ (l : Addr) (many : Int) (n : Nat), vs = [.ref l, .int many] ∧ Dr n H l ∧ n < 1000000 ∧ 0 < many ∧ many < 1073741824 ∧
  ∀ r o, 0 ≤ r → r < many → Dr (n + 1) (upd H l o) l → Q (.int r) (upd H l o)
def spPick (K : PySem.W.Frag) : Sp := fun vs H Q _ => ∃ (l t : Addr) (ds : List PyData) (n : Nat) (L : List Addr), vs = [.ref l, .ref t] ∧ Dr n H l ∧ n < 1000000 ∧ l ∈ L ∧ Dp K (W L H) (.ref t) (.list ds) ∧ 0 < ds.length ∧ ds.length < 1073741824 ∧
  ∀ v d o, d ∈ ds → Dp K (W L (upd H l o)) v d → Dr (n + 1) (upd H l o) l → Q v (upd H l o)
end U

set_option Elab.async false
set_option linter.all false
set_option maxRecDepth 100000
set_option maxHeartbeats 2000000
namespace U
open PySem L2
open Evl (Ex)
theorem yes_lc {σ : L2.St} {H : Hp} {A B : Hp → Prop} (h : A H) : tYes σ H (fun b H3 => if b = true then A H3 else B H3) := by
  show (if true = true then A H else B H)
  rw [if_pos rfl]
  exact h
section
variable {K : PySem.W.Frag} {a b : Addr} {xs ys : List V} {σ : L2.St} {H : Hp}
theorem walk_zipT {n : Nat} (hn : n = min xs.length ys.length) : Walk (RZ.ItzT K a b) n (fun H => SqT K H a xs ∧ SqT K H b ys) (YPair (fun i => xs[i]?) (fun i => ys[i]?)) := by
  subst hn
  refine ⟨fun i _ hi q => ?_, fun _ q => ⟨xs, ys, q.1, q.2, by omega⟩, fun i H v H' _ q y => ?_⟩
  · have h1 : i < xs.length := by omega
    have h2 : i < ys.length := by omega
    exact ⟨xs, ys, xs[i], ys[i], q.1, q.2, by simp [h1], by simp [h2]⟩
  · obtain ⟨T, x, z, h1, h2, h3, h4, h5⟩ := y
    exact ⟨T, x, z, h1, h2, h3, h4 xs q.1, h5 ys q.2⟩
/-- what a comprehension of every item has made so far -/
def Cm (H : Hp) (v : Nat → V) (Dl : Addr) (i : Nat) (H' : Hp) : Prop := H Dl = none ∧ Ex H H' ∧ H' Dl = some (.lst ((List.range i).map v))
theorem cm_0 {v : Nat → V} {Dl : Addr} (h : H Dl = none) : Cm H v Dl 0 (upd H Dl (.lst [])) := ⟨h, Ex.new h, upd_same⟩
theorem cm_turn {H' : Hp} {v : Nat → V} {Dl : Addr} {i : Nat} {te : TE} {σ2 : L2.St} (p : Cm H v Dl i H') (hi : i < 50000) (H2 : Hp) (e2 : Ex H' H2) (he : Evl.Ev te σ2 H (v i)) :
    te σ2 H2 fun y H4 => ∃ acc, H4 Dl = some (.lst acc) ∧ acc.length < sizeLine ∧ Cm H v Dl (i + 1) (upd H4 Dl (.lst (acc ++ [y]))) := by
  obtain ⟨p1, p2, p3⟩ := p
  refine he H2 (p2.trans e2) _ fun H4 e4 => ⟨_, e4 Dl _ (e2 Dl _ p3), Evl.sz_lt (by rw [List.length_map, List.length_range]; omega), p1, Evl.Ex.mut ((p2.trans e2).trans e4) p1, ?_⟩
  rw [upd_same, List.range_succ, List.map_append]
  rfl
theorem el_zip {ta : TA} {te : TE} {i1 i2 : Nat} {vs : List Nat} {v : Nat → V} (h : Evl.EvA ta σ H [.ref a, .ref b]) (hx : (SqL K H a xs ∧ SqL K H b ys) ∨ (SqT K H a xs ∧ SqT K H b ys)) (hl : xs.length = ys.length) (hz : xs.length ≤ 40000)
    (hw : ∀ x y, wipe (((wipe σ vs).set i1 (some x)).set i2 (some y)) vs = wipe σ vs)
    (he : ∀ (i : Nat) (x y : V) H1, Ex H H1 → xs[i]? = some x → ys[i]? = some y → Evl.Ev te (((wipe σ vs).set i1 (some x)).set i2 (some y)) H1 (v i)) :
    Evl.EvL (tLc (RZ.iZipA K ta) (gTup K 2 (gCons (gName i1) (gCons (gName i2) gNil))) tYes te vs) σ H ((List.range xs.length).map v) := fun H0 e0 Q q => h H0 e0 _ fun H1 e1 => by
  have turn : ∀ (Dl : Addr) (i : Nat) (x : V) (H2 H3 : Hp), i < xs.length → Cm H1 v Dl i H2 → YPair (fun i => xs[i]?) (fun i => ys[i]?) i H2 x H3 → gTup K 2 (gCons (gName i1) (gCons (gName i2) gNil)) x (wipe σ vs) H3 fun σ2 H2 => wipe σ2 vs = wipe σ vs ∧ tYes σ2 H2 fun b H3 =>
      if b = true then te σ2 H3 fun y H4 => ∃ acc, H4 Dl = some (.lst acc) ∧ acc.length < sizeLine ∧ Cm H1 v Dl (i + 1) (upd H4 Dl (.lst (acc ++ [y]))) else Cm H1 v Dl (i + 1) H3 := by
    intro Dl i x H2 H3 hi p yp
    obtain ⟨T, u, w, rfl, hT, rfl, hu, hw'⟩ := yp
    refine ⟨T, [u, w], rfl, SqT.of upd_same, rfl, u, [w], rfl, w, [], rfl, rfl, hw u w, ?_⟩
    exact yes_lc (A := fun H3 => te ((List.set (wipe σ vs) i1 (some u)).set i2 (some w)) H3 fun y H4 => ∃ acc, H4 Dl = some (.lst acc) ∧ acc.length < sizeLine ∧ Cm H1 v Dl (i + 1) (upd H4 Dl (.lst (acc ++ [y])))) (B := fun H3 => Cm H1 v Dl (i + 1) H3) <| cm_turn p (by omega) _ (Ex.new hT) (he i u w _ (e0.trans e1) hu hw')
  rcases hx with ⟨x1, x2⟩ | ⟨x1, x2⟩
  · refine ⟨a, b, xs, ys, rfl, .inl ⟨Evl.ex_l (e0.trans e1) x1, Evl.ex_l (e0.trans e1) x2, fun Dl hD => ?_⟩⟩
    exact lc_it (walk_zip (n := xs.length) (by omega)) (Cm H1 v Dl) (cm_0 hD) (fun i H2 _ p => ⟨Evl.ex_l ((e0.trans e1).trans p.2.1) x1, Evl.ex_l ((e0.trans e1).trans p.2.1) x2⟩) (fun i x H2 H3 hi p y => turn Dl i x H2 H3 hi p y)
      (fun H2 p => q Dl H2 (Evl.fresh_back e1 p.1) (e1.trans p.2.1) p.2.2)
  · refine ⟨a, b, xs, ys, rfl, .inr ⟨Evl.ex_t (e0.trans e1) x1, Evl.ex_t (e0.trans e1) x2, fun Dl hD => ?_⟩⟩
    exact lc_it (walk_zipT (n := xs.length) (by omega)) (Cm H1 v Dl) (cm_0 hD) (fun i H2 _ p => ⟨Evl.ex_t ((e0.trans e1).trans p.2.1) x1, Evl.ex_t ((e0.trans e1).trans p.2.1) x2⟩) (fun i x H2 H3 hi p y => turn Dl i x H2 H3 hi p y)
      (fun H2 p => q Dl H2 (Evl.fresh_back e1 p.1) (e1.trans p.2.1) p.2.2)
theorem ev_all {te : TE} {bs : List Bool} (h : Evl.EvL te σ H (bs.map V.bl)) : Evl.Ev (tCB (rAll K) (tCons te tNil)) σ H (.bl (bs.all id)) := fun H1 e1 Q q =>
  h H1 e1 _ fun p H2 hp e2 h2 => ⟨p, bs, rfl, SqL.of h2, q H2 e2⟩
theorem ev_any {te : TE} {bs : List Bool} (h : Evl.EvL te σ H (bs.map V.bl)) : Evl.Ev (tCB (rAny K) (tCons te tNil)) σ H (.bl (bs.any id)) := fun H1 e1 Q q =>
  h H1 e1 _ fun p H2 hp e2 h2 => ⟨p, bs, rfl, SqL.of h2, q H2 e2⟩
theorem ev_callD {sp : Sp} {ta : TA} {vs : List V} {z : V} (h : Evl.EvA ta σ H vs) (hs : ∀ H1, Ex H H1 → ∀ Q : VK, (∀ H2, Ex H1 H2 → Q z H2) → sp vs H1 Q E0) : Evl.Ev (tCallD sp ta) σ H z := fun H1 e Q q =>
  h H1 e _ fun H2 e2 => hs H2 (e.trans e2) Q fun H3 e3 => q H3 (e2.trans e3)
end
/-! ### data no deeper than n -/
def fits : Nat → PyData → Prop
  | 0, .list _ => False
  | 0, .tuple _ => False
  | n + 1, .list ds => ds.length ≤ 40000 ∧ ∀ d ∈ ds, fits n d
  | n + 1, .tuple ds => ds.length ≤ 40000 ∧ ∀ d ∈ ds, fits n d
  | _, .dict kvs => kvs = []
  | _, _ => True
theorem fits_up : ∀ {n m : Nat} {d : PyData}, n ≤ m → fits n d → fits m d
  | 0, 0, _, _, h => h
  | 0, m + 1, d, _, h => by
    cases d with
    | list ds => exact h.elim
    | tuple ds => exact h.elim
    | dict _ => exact h
    | _ => trivial
  | n + 1, 0, _, e, _ => by omega
  | n + 1, m + 1, d, e, h => by
    cases d with
    | list ds => exact ⟨h.1, fun z hz => fits_up (by omega) (h.2 z hz)⟩
    | tuple ds => exact ⟨h.1, fun z hz => fits_up (by omega) (h.2 z hz)⟩
    | dict _ => exact h
    | _ => trivial
/-- two readings of the same data: True -/
def spSame (K : PySem.W.Frag) (n : Nat) : Sp := fun vs H Q _ => ∃ (x y : V) (d : PyData), vs = [x, y] ∧ Dp K H x d ∧ Dp K H y d ∧ fits n d ∧ ∀ H', Ex H H' → Q (.bl true) H'
end U

set_option Elab.async false
set_option linter.all false
set_option maxRecDepth 100000
set_option maxHeartbeats 2000000
namespace U
open PySem L2
open Evl (Ex)
/-! ### what evaluates to data -/
section
variable {K : PySem.W.Frag} {L : List Addr} {σ : L2.St} {H H' : Hp} {te tb : TE} {ta tr : TA} {v : V} {d : PyData} {ds : List PyData} {l p : Addr} {o : HO}
def EvD (K : PySem.W.Frag) (L : List Addr) (te : TE) (σ : L2.St) (H : Hp) (d : PyData) : Prop := ∀ H1, Ex H H1 → ∀ Q : VK, (∀ v H2, Ex H1 H2 → Dp K (W L H2) v d → Q v H2) → te σ H1 Q
def EvDs (K : PySem.W.Frag) (L : List Addr) (ta : TA) (σ : L2.St) (H : Hp) (ds : List PyData) : Prop := ∀ H1, Ex H H1 → ∀ Q : List V → Hp → Prop, (∀ vs H2, Ex H1 H2 → DpAll K (W L H2) vs ds → Q vs H2) → ta σ H1 Q
theorem EvD.mono (e : Ex H H') (h : EvD K L te σ H d) : EvD K L te σ H' d := fun H1 a Q q => h H1 (e.trans a) Q q
theorem EvDs.mono (e : Ex H H') (h : EvDs K L ta σ H ds) : EvDs K L ta σ H' ds := fun H1 a Q q => h H1 (e.trans a) Q q
theorem evd_of (h : Evl.Ev te σ H v) (hd : Dp K (W L H) v d) : EvD K L te σ H d := fun H1 e Q q => h H1 e _ fun H2 e2 => q v H2 e2 (hd.up (w_ex (e.trans e2)))
theorem evd_var {i : Nat} (h : σ[i]? = some (some v)) (hd : Dp K (W L H) v d) : EvD K L (tVar i) σ H d := evd_of (Evl.ev_var h) hd
theorem evd_int {i : Int} : EvD K L (tC (.int i)) σ H (.int i) := evd_of Evl.ev_c (.int i)
theorem evd_bl {b : Bool} : EvD K L (tC (.bl b)) σ H (.bool b) := evd_of Evl.ev_c (.bl b)
theorem evd_non : EvD K L (tC .non) σ H .none := evd_of Evl.ev_c .non
theorem evd_str {x : Str} : EvD K L (tC (.str x)) σ H (.str x) := evd_of Evl.ev_c (.str x)
theorem evd_evI {i : Int} (h : Evl.Ev te σ H (.int i)) : EvD K L te σ H (.int i) := evd_of h (.int i)
theorem evd_evB {b : Bool} (h : Evl.Ev te σ H (.bl b)) : EvD K L te σ H (.bool b) := evd_of h (.bl b)
theorem evds_nil : EvDs K L tNil σ H [] := fun H1 _ _ q => q [] H1 (Ex.refl H1) .nil
theorem evds_cons (h : EvD K L te σ H d) (hr : EvDs K L tr σ H ds) : EvDs K L (tCons te tr) σ H (d :: ds) := fun H1 e Q q =>
  h H1 e _ fun v H2 e2 hv => hr H2 (e.trans e2) _ fun vs H3 e3 hvs => q (v :: vs) H3 (e2.trans e3) (.cons (hv.up (w_ex e3)) hvs)
theorem evd_tup (hL : Hid L H) (h : EvDs K L ta σ H ds) (hz : ds.length ≤ 100000) : EvD K L (tTup ta) σ H (.tuple ds) := fun H1 e Q q =>
  h H1 e _ fun vs H2 e2 hv => ⟨Evl.sz_of (by rw [dpa_len hv]; exact hz), fun p hp => q (.ref p) _ (e2.trans (Ex.new hp)) (.tup (SqT.of (w_new (hid_ex (e.trans e2) hL) hp)) (hv.up (w_ex (Ex.new hp))))⟩
theorem evd_lst (hL : Hid L H) (h : EvDs K L ta σ H ds) (hz : ds.length ≤ 100000) : EvD K L (tLst ta) σ H (.list ds) := fun H1 e Q q =>
  h H1 e _ fun vs H2 e2 hv => ⟨Evl.sz_of (by rw [dpa_len hv]; exact hz), fun p hp => q (.ref p) _ (e2.trans (Ex.new hp)) (.lst (SqL.of (w_new (hid_ex (e.trans e2) hL) hp)) (hv.up (w_ex (Ex.new hp))))⟩
theorem w_fresh (hp : H p = none) : Ex (W L H) (W (p :: L) (upd H p o)) := fun a u h => by
  obtain ⟨h1, n⟩ := w_in h
  have ne : a ≠ p := ne_of_none h1 hp
  exact w_of (fun m => (List.mem_cons.mp m).elim ne n) (by rw [upd_ne ne]; exact h1)
theorem w_cons : Ex (W (p :: L) H) (W L H) := w_sub2 fun a m => List.mem_cons_of_mem _ m
/-! ### a list that grows -/
/-- at l a list of the data ds, which do not hang on l -/
def Gr (K : PySem.W.Frag) (L : List Addr) (H : Hp) (l : Addr) (ds : List PyData) : Prop := l ∉ L ∧ ∃ xs, H l = some (.lst xs) ∧ DpAll K (W (l :: L) H) xs ds
theorem Gr.dp (h : Gr K L H l ds) : Dp K (W L H) (.ref l) (.list ds) := by
  obtain ⟨n, xs, h1, h2⟩ := h
  exact .lst (SqL.of (w_of n h1)) (h2.up w_cons)
theorem Gr.up (h : Gr K L H l ds) (e : Ex H H') : Gr K L H' l ds := by
  obtain ⟨n, xs, h1, h2⟩ := h
  exact ⟨n, xs, e _ _ h1, h2.up (w_ex e)⟩
theorem Gr.ne (h : Gr K L H l ds) : H l ≠ none := by
  obtain ⟨n, xs, h1, h2⟩ := h
  rw [h1]
  simp
theorem gr_new {xs : List V} (hL : Hid L H) (hp : H p = none) (h : DpAll K (W L H) xs ds) : Gr K L (upd H p (.lst xs)) p ds := ⟨hid_not hL hp, xs, upd_same, h.up (w_fresh hp)⟩
/-- a heap that differs at l alone, where the list has one more -/
theorem gr_app {xs : List V} (n : l ∉ L) (h1 : H l = some (.lst xs)) (h2 : DpAll K (W (l :: L) H) xs ds) (hv : Dp K (W (l :: L) H) v d) : Gr K L (upd H l (.lst (xs ++ [v]))) l (ds ++ [d]) := by
  refine ⟨n, xs ++ [v], upd_same, ?_⟩
  rw [w_upd_in (List.mem_cons_self ..)]
  exact dpa_app h2 (.cons hv .nil)
/-! ### statements -/
variable {D : Ends} {tz tu : TS} {i : Nat}
theorem d_asg (h : EvD K L te σ H d) (k : ∀ v H1, Ex H H1 → Dp K (W L H1) v d → D.nx (σ.set i (some v)) H1) : tAsg te (gName i) D σ H := h H (Ex.refl H) _ fun v H1 e hv => k v H1 e hv
theorem qd_asg (h : EvD K L te σ H d) (k : ∀ v H1, Ex H H1 → Dp K (W L H1) v d → tz D (σ.set i (some v)) H1) : tSeq (tAsg te (gName i)) tz D σ H := d_asg (D := { D with nx := tz D }) h k
theorem d_ret (h : EvD K L te σ H d) (k : ∀ v H1, Ex H H1 → Dp K (W L H1) v d → D.rt v H1) : tRet te D σ H := h H (Ex.refl H) _ fun v H1 e hv => k v H1 e hv
theorem qd_lst (hL : Hid L H) (h : EvDs K L ta σ H ds) (hz : ds.length ≤ 100000) (k : ∀ p H1, H p = none → Ex H H1 → Gr K L H1 p ds → tz D (σ.set i (some (.ref p))) H1) : tSeq (tAsg (tLst ta) (gName i)) tz D σ H :=
  h H (Ex.refl H) _ fun vs H1 e hv => ⟨Evl.sz_of (by rw [dpa_len hv]; exact hz), fun p hp => k p _ (Evl.fresh_back e hp) (e.trans (Ex.new hp)) (gr_new (hid_ex e hL) hp hv)⟩
theorem d_app (hg : Gr K L H l ds) (ho : Evl.Ev tb σ H (.ref l)) (h : EvD K (l :: L) te σ H d) (hz : ds.length < 100000) (k : ∀ o H1, Ex H H1 → Gr K L (upd H1 l o) l (ds ++ [d]) → D.nx σ (upd H1 l o)) :
    tDrop (tBM K "list" rAppend tb (tCons te tNil)) D σ H := ho H (Ex.refl H) _ fun H1 e1 => by
  obtain ⟨n, xs, h1, h2⟩ := hg
  refine ⟨Or.inl ⟨rfl, xs, SqL.of (e1 l _ h1)⟩, h H1 e1 _ fun v H2 e2 hv => ⟨l, xs, v, rfl, rfl, e2 l _ (e1 l _ h1), Evl.sz_lt (by rw [dpa_len h2]; exact hz), k _ H2 (e1.trans e2) ?_⟩⟩
  exact gr_app n (e2 l _ (e1 l _ h1)) (h2.up (w_ex (e1.trans e2))) hv
theorem qd_app (hg : Gr K L H l ds) (ho : Evl.Ev tb σ H (.ref l)) (h : EvD K (l :: L) te σ H d) (hz : ds.length < 100000) (k : ∀ o H1, Ex H H1 → Gr K L (upd H1 l o) l (ds ++ [d]) → tz D σ (upd H1 l o)) :
    tSeq (tDrop (tBM K "list" rAppend tb (tCons te tNil))) tz D σ H := d_app (D := { D with nx := tz D }) hg ho h hz k
/-- xs + ys, the left a list that stands, the right a new one -/
theorem evd_cat {es : List PyData} (hL : Hid L H) (hg : Gr K L H l ds) (ho : Evl.Ev te σ H (.ref l)) (h : EvDs K L ta σ H es) (hz : ds.length + es.length ≤ 100000) : EvD K L (tOp rCat te (tLst ta)) σ H (.list (ds ++ es)) := fun H1 e1 Q q =>
  ho H1 e1 _ fun H2 e2 => h H2 (e1.trans e2) _ fun vs H3 e3 hv => by
    have eA := (e1.trans e2).trans e3
    obtain ⟨n, xs, h1, h2⟩ := hg
    have l1 := dpa_len h2
    have l2 := dpa_len hv
    refine ⟨Evl.sz_of (by omega), fun p hp => ⟨l, p, xs, vs, rfl, rfl, ?_, upd_same, Evl.sz_of (by omega), fun r hr => ?_⟩⟩
    · exact (eA.trans (Ex.new hp)) l _ h1
    · refine q (.ref r) _ ((e2.trans e3).trans ((Ex.new hp).trans (Ex.new hr))) (.lst (SqL.of (w_new (hid_upd (hid_ex eA hL)) hr)) ?_)
      have z : Ex (W L H3) (W L (upd (upd H3 p (.lst vs)) r (.lst (xs ++ vs)))) := w_ex ((Ex.new hp).trans (Ex.new hr))
      exact dpa_app (((h2.up w_cons).up (w_ex eA)).up z) (hv.up z)
/-- xs.extend(ys), ys a new list -/
theorem d_ext {es : List PyData} (hg : Gr K L H l ds) (hL : Hid L H) (ho : Evl.Ev tb σ H (.ref l)) (h : EvDs K (l :: L) ta σ H es) (hz : ds.length + es.length ≤ 100000) (k : ∀ o H1, Ex H H1 → Gr K L (upd H1 l o) l (ds ++ es) → D.nx σ (upd H1 l o)) :
    tDrop (tBM K "list" rExtend tb (tCons (tLst ta) tNil)) D σ H := ho H (Ex.refl H) _ fun H1 e1 => by
  obtain ⟨n, xs, h1, h2⟩ := hg
  refine ⟨Or.inl ⟨rfl, xs, SqL.of (e1 l _ h1)⟩, h H1 e1 _ fun vs H2 e2 hv => ?_⟩
  have l1 := dpa_len h2
  have l2 := dpa_len hv
  refine ⟨Evl.sz_of (by omega), fun p hp => ?_⟩
  have e3 : Ex H2 (upd H2 p (.lst vs)) := Ex.new hp
  have eA := (e1.trans e2).trans e3
  refine ⟨l, p, xs, vs, rfl, rfl, eA l _ h1, upd_same, Evl.sz_of (by omega), k _ _ eA ⟨n, xs ++ vs, upd_same, ?_⟩⟩
  rw [w_upd_in (List.mem_cons_self ..)]
  exact dpa_app (h2.up (w_ex eA)) (hv.up (w_ex e3))
theorem qd_ext {es : List PyData} (hg : Gr K L H l ds) (hL : Hid L H) (ho : Evl.Ev tb σ H (.ref l)) (h : EvDs K (l :: L) ta σ H es) (hz : ds.length + es.length ≤ 100000) (k : ∀ o H1, Ex H H1 → Gr K L (upd H1 l o) l (ds ++ es) → tz D σ (upd H1 l o)) :
    tSeq (tDrop (tBM K "list" rExtend tb (tCons (tLst ta) tNil))) tz D σ H := d_ext (D := { D with nx := tz D }) hg hL ho h hz k
end
end U

set_option Elab.async false
set_option linter.all false
set_option maxRecDepth 100000
set_option maxHeartbeats 2000000
/-! data with empty dicts among them -/
namespace U
open PySem L2
open Evl (Ex)
section
variable {K : PySem.W.Frag} {H H' : Hp}
mutual
inductive Dq (K : PySem.W.Frag) (H : Hp) : V → PyData → Prop
  | non : Dq K H .non .none
  | bl (b : Bool) : Dq K H (.bl b) (.bool b)
  | int (i : Int) : Dq K H (.int i) (.int i)
  | str (x : Str) : Dq K H (.str x) (.str x)
  | lst {a : Addr} {xs : List V} {ds : List PyData} : SqL K H a xs → DqAll K H xs ds → Dq K H (.ref a) (.list ds)
  | tup {a : Addr} {xs : List V} {ds : List PyData} : SqT K H a xs → DqAll K H xs ds → Dq K H (.ref a) (.tuple ds)
  | dct {a : Addr} : H a = some (.dK []) → Dq K H (.ref a) (.dict [])
inductive DqAll (K : PySem.W.Frag) (H : Hp) : List V → List PyData → Prop
  | nil : DqAll K H [] []
  | cons {v : V} {vs : List V} {d : PyData} {ds : List PyData} : Dq K H v d → DqAll K H vs ds → DqAll K H (v :: vs) (d :: ds)
end
mutual
theorem dq_of : ∀ (d : PyData) (v : V), Dp K H v d → Dq K H v d
  | .none, _, h => by cases h; exact .non
  | .bool _, _, h => by cases h; exact .bl _
  | .int _, _, h => by cases h; exact .int _
  | .str _, _, h => by cases h; exact .str _
  | .list ds, _, h => by
    cases h with
    | lst hs ha => exact .lst hs (dqa_of ds _ ha)
  | .tuple ds, _, h => by
    cases h with
    | tup hs ha => exact .tup hs (dqa_of ds _ ha)
  | .dict _, _, h => by cases h
theorem dqa_of : ∀ (ds : List PyData) (vs : List V), DpAll K H vs ds → DqAll K H vs ds
  | [], _, h => by cases h; exact .nil
  | d :: ds, _, h => by
    cases h with
    | cons h1 h2 => exact .cons (dq_of d _ h1) (dqa_of ds _ h2)
end
theorem _root_.L2.Dp.q {v : V} {d : PyData} (h : Dp K H v d) : Dq K H v d := dq_of d v h
mutual
theorem dq_mono (e : Ex H H') : ∀ (d : PyData) (v : V), Dq K H v d → Dq K H' v d
  | .none, _, h => by cases h; exact .non
  | .bool _, _, h => by cases h; exact .bl _
  | .int _, _, h => by cases h; exact .int _
  | .str _, _, h => by cases h; exact .str _
  | .list ds, _, h => by
    cases h with
    | lst hs ha => exact .lst (Evl.ex_l e hs) (dqa_mono e ds _ ha)
  | .tuple ds, _, h => by
    cases h with
    | tup hs ha => exact .tup (Evl.ex_t e hs) (dqa_mono e ds _ ha)
  | .dict _, _, h => by
    cases h with
    | dct h => exact .dct (e _ _ h)
theorem dqa_mono (e : Ex H H') : ∀ (ds : List PyData) (vs : List V), DqAll K H vs ds → DqAll K H' vs ds
  | [], _, h => by cases h; exact .nil
  | d :: ds, _, h => by
    cases h with
    | cons h1 h2 => exact .cons (dq_mono e d _ h1) (dqa_mono e ds _ h2)
end
theorem Dq.up {v : V} {d : PyData} (h : Dq K H v d) (e : Ex H H') : Dq K H' v d := dq_mono e d v h
theorem DqAll.up {vs : List V} {ds : List PyData} (h : DqAll K H vs ds) (e : Ex H H') : DqAll K H' vs ds := dqa_mono e ds vs h
theorem dqa_len : ∀ {vs : List V} {ds : List PyData}, DqAll K H vs ds → vs.length = ds.length
  | _, _, .nil => rfl
  | _, _, .cons _ t => congrArg Nat.succ (dqa_len t)
theorem dqa_get : ∀ {vs : List V} {ds : List PyData} {i : Nat} {v : V}, DqAll K H vs ds → vs[i]? = some v → ∃ d, ds[i]? = some d ∧ Dq K H v d
  | _, _, _, _, .nil, e => by simp at e
  | _, _, 0, _, .cons r _, e => by simp at e; subst e; exact ⟨_, rfl, r⟩
  | _, _, i + 1, x, .cons _ t, e => by
    obtain ⟨d, h1, h2⟩ := dqa_get (i := i) (v := x) t (by simpa using e)
    exact ⟨d, by simpa using h1, h2⟩
theorem dqa_app : ∀ {vs ws : List V} {ds es : List PyData}, DqAll K H vs ds → DqAll K H ws es → DqAll K H (vs ++ ws) (ds ++ es)
  | _, _, _, _, .nil, h => h
  | _, _, _, _, .cons r t, h => .cons r (dqa_app t h)
theorem dq_ty {v : V} {d : PyData} (h : Dq K H v d) : TyX K H v (.type (tyOf d)) := by
  cases h with
  | non => exact .base .non
  | bl b => exact .base (.bl b)
  | int i => exact .base (.int i)
  | str x => exact .base (.str x)
  | lst hs ha =>
    rcases hs with (h | ⟨o, h⟩) | ⟨o, its, n, h, c, _⟩
    · exact .base (.lst h)
    · exact .base (.frz h)
    · exact .kList h c
  | tup hs ha =>
    rcases hs with (h | ⟨o, h⟩) | ⟨o, its, n, h, c, _⟩
    · exact .base (.tup h)
    · exact .fTuple h
    · exact .kTuple h c
  | dct h => exact .base (.dK h)
end
section
variable {K : PySem.W.Frag} {σ : L2.St} {H : Hp} {te tb : TE} {v w : V} {d e : PyData} {b : Bool}
theorem evq_isi {n : String} (h : Evl.Ev te σ H v) (hd : Dq K H v d) (hb : kitB (tyOf d) n = some b) : Evl.Ev (tCB (rIsi K) (tCons te (tCons (tC (.ty n)) tNil))) σ H (.bl b) := fun H1 e1 Q q =>
  h H1 e1 _ fun H2 e2 => ⟨v, .ty n, _, _, b, rfl, .ty n, dq_ty (hd.up (e1.trans e2)), kit_ty hb, q H2 e2⟩
theorem evq_isi2 {m n : String} (h : Evl.Ev te σ H v) (hd : Dq K H v d) (hb : kitsB (tyOf d) [m, n] = some b) : Evl.Ev (tCB (rIsiT K) (tCons te (tCons (tTup (tCons (tC (.ty m)) (tCons (tC (.ty n)) tNil))) tNil))) σ H (.bl b) := fun H1 e1 Q q =>
  h H1 e1 _ fun H2 e2 => ⟨by show 2 ≤ sizeLine; decide, fun p hp => ⟨v, p, _, _, _, b, rfl, upd_same, tys_cls (ns := [m, n]), dq_ty (hd.up ((e1.trans e2).trans (Ex.new hp))), kitsB_ok hb, q _ (e2.trans (Ex.new hp))⟩⟩
end
end U

set_option Elab.async false
set_option linter.all false
set_option maxRecDepth 100000
set_option maxHeartbeats 4000000
namespace UE
open PySem PySem.Spec PyProof.Rows L2
open AutoSeq1 (wpAny_loadPart')
/-! ### enumerate of a tuple -/
theorem meets_enumT (t : Addr) (its : Array Value) (n : Nat) (dd : Option Addr) (sl : Array (Option Value)) :
    Meets (Builtin.«enumerate.__new__» ⟨[.type "enumerate", .ref t], []⟩) (fun _ R s => s.heap.get? t = some { cls := .type "tuple", dict := dd, data := .seq its n, slots := sl } ∧
      R (.ok (.ret (.ref (s.heap.push { cls := .type "tuple_iterator", data := .fields #[.ref t, .int 0 0] }).objs.size)))
        { s with heap := (s.heap.push { cls := .type "tuple_iterator", data := .fields #[.ref t, .int 0 0] }).push { cls := .type "enumerate", data := .fields #[.none, .bool false, .ref s.heap.objs.size, rawInt 0, .none, .none] } }) :=
  .of_wp fun prog w A R s hyp => by
    obtain ⟨hp, g, d, tk, os⟩ := s
    obtain ⟨ht, hyp⟩ := hyp
    have sub := sub_enumerate
    have hT : Heap.IsTuple (Shared.heap ⟨hp, g, d, tk, os⟩) t its := ⟨_, ht, rfl, n, rfl⟩
    wp_walk using wpAny_loadPart' ht
    refine wpAny_stack_any fun st => wpAny_pure ?_
    split
    · rename_i c _ _ _ _ _
      cases (c == Value.type "enumerate") <;>
      · wp_walk using wpAny_loadPart' ht, wpAny_pyIter_tuple hT
        exact ⟨_, rfl, hyp⟩
    · wp_walk using wpAny_loadPart' ht, wpAny_pyIter_tuple hT
      exact ⟨_, rfl, hyp⟩
section
variable {prog : Program} {w : World} {A : Around} {E : Value → Shared → Prop} {s : Shared}
theorem call_enumT {t : Addr} {its : Array Value} {Q : Value → Shared → Prop} (hT : s.heap.IsTuple t its)
    (hyp : ∀ h', IsEnum h' (s.heap.objs.size + 1) s.heap.objs.size 0 .none → h'.IsTupleIter s.heap.objs.size t 0 → h'.objs.size = s.heap.objs.size + 2 → (∀ b o, s.heap.get? b = some o → h'.get? b = some o) → Q (.ref (s.heap.objs.size + 1)) { s with heap := h' }) :
    wpAny (model prog w) A (call (.type "enumerate") [.ref t]) Q E s := by
  obtain ⟨⟨c, dd, dt, sl⟩, ht, hc, n, hd⟩ := hT
  obtain rfl : c = .type "tuple" := hc
  obtain rfl : dt = .seq its n := hd
  refine callType_new F.called_enumerate (by decide) (F.typeCall_enumerate_1 _) (F.newCall_enumerate_1 _) (fun ob => F.args_object_init_2 ob _) F.entry_enumerate_new (meets_enumT t its n dd sl) ⟨ht, ?_⟩
  have sz : (s.heap.push { cls := .type "tuple_iterator", data := .fields #[.ref t, .int 0 0] }).objs.size = s.heap.objs.size + 1 := Heap.size_push ..
  show _ ∧ _
  rw [sz]
  have he : IsEnum ((s.heap.push { cls := .type "tuple_iterator", data := .fields #[.ref t, .int 0 0] }).push { cls := .type "enumerate", data := .fields #[.none, .bool false, .ref s.heap.objs.size, rawInt 0, .none, .none] }) (s.heap.objs.size + 1) s.heap.objs.size 0 .none := by
    have q := Heap.get?_push_size (s.heap.push { cls := .type "tuple_iterator", data := .fields #[.ref t, .int 0 0] }) (o := { cls := .type "enumerate", data := .fields #[.none, .bool false, .ref s.heap.objs.size, rawInt 0, .none, .none] }) rfl
    rw [sz] at q
    exact q
  exact ⟨⟨_, he, rfl⟩, hyp _ he ⟨_, Heap.get?_push_of_some _ (Heap.get?_push_size _ rfl), rfl, rfl⟩ (by rw [Heap.size_push, sz]) fun b o z => Heap.get?_push_of_some _ (Heap.get?_push_of_some _ z)⟩
end
/-- the tuple at a, each item in a new pair -/
def IteT (K : PySem.W.Frag) (a : Addr) : It :=
  ⟨fun i H => ∃ (xs : List V) (x : V), SqT K H a xs ∧ xs[i]? = some x, fun i H v H' => ∃ T x, v = .ref T ∧ H T = none ∧ H' = upd H T (.tup [.int (i : Nat), x]) ∧ ∀ xs, SqT K H a xs → xs[i]? = some x, fun i H => ∃ xs : List V, SqT K H a xs ∧ xs.length ≤ i⟩
theorem turn_enumT {P : Program} {w : World} {K : PySem.W.Frag} {elts : List Expr} {kk : Nat} {tpos : Pos} (a e it : Addr) :
    Turn P w K (.Tuple elts kk tpos) (IteT K a) [e, it] e (fun i h => (∃ old, IsEnum h e it ((i : Nat) : Int) old) ∧ h.IsTupleIter it a i ∧ e ≠ it ∧ a ≠ it ∧ a ≠ e) where
  mem := by simp
  obj := fun i h st b hb => by
    obtain ⟨⟨old, he⟩, ⟨o, ho, hc, hd⟩, _⟩ := st
    have e' : b = e ∨ b = it := by simpa using hb
    rcases e' with z | z
    · rw [z]
      exact ⟨_, he, fun v q => nomatch q⟩
    · rw [z]
      exact ⟨o, ho, fun v q => by rw [hd] at q; cases q⟩
  keep := fun i h h' st k => by
    obtain ⟨⟨old, he⟩, hi, ne⟩ := st
    exact ⟨⟨old, k e (by simp) _ he⟩, hi.at fun o q => k it (by simp) o q, ne⟩
  item := by
    intro X hP hw hK hc i pins s σ H E I hf st hg
    subst hP hw hK
    obtain ⟨⟨old, he⟩, hit, n1, n2, n3⟩ := st
    obtain ⟨xs, x, hq, hx⟩ := hg
    obtain ⟨its, rv, p, hz⟩ := I.tuple hq
    obtain ⟨u, hu, ru⟩ := rv.get hx
    have le : e < s.heap.objs.size := Heap.lt_size he
    have li : it < s.heap.objs.size := by
      obtain ⟨_, q, _⟩ := hit
      exact Heap.lt_size q
    have hlt : i < its.toArray.size := by
      have z := (List.getElem?_eq_some_iff.mp hu).1
      simpa using z
    have D : Draws X.prog X.w X.A.in1 it [it, a] its.toArray.size (fun i v => its.toArray[i]? = some v) (fun i h => h.IsTupleIter it a i ∧ h.IsTuple a its.toArray) := Draws.tuple (show X.A.in1.handled = none from I.ok.hd hc) it a n2 its.toArray
    refine wpAny_pyNext_enum_itemD D he ⟨hit, p⟩ hlt n1 (by simp [n1, Ne.symm n3]) fun y h' tk hy ho hst hT sz kp => ?_
    obtain rfl : y = u := by
      have z : its.toArray[i]? = some u := by simpa using hu
      rw [hy] at z
      exact Option.some.inj z
    refine ⟨_, rfl, wpAny_letOwnedTupleGo_enum (s := { s with heap := h', toks := tk + 1 }) ho fun h'' he' sb => ?_⟩
    have hT2 : h''.get? s.heap.objs.size = some { cls := .type "tuple", data := .seq #[.int i tk, y] } := (sb.2 _ (Nat.ne_of_gt le)).trans hT
    have new : ObjOk X.prog X.w (upd H s.heap.objs.size (.tup [.int (i : Nat), x])) h'' s.heap.objs.size (.tup [.int (i : Nat), x]) := ⟨by show 2 ≤ sizeLine; decide, [.int i tk, y], .cons ⟨_, rfl⟩ (.cons ru .nil), ⟨_, hT2, rfl, _, rfl⟩⟩
    have I1 : Inv X pins σ (upd H s.heap.objs.size (.tup [.int (i : Nat), x])) { s with heap := h'', toks := tk + 1 } :=
      I.turnedNew (ch := [e, it]) (fun b ob hb q => (sb.2 b (fun z => hb (by simp [z]))).trans (kp b ob (fun z => hb (by simp [z])) (fun z => hb (by simp [z])) q)) hf (Nat.le_refl _) new
    refine ⟨.ref s.heap.objs.size, _, I1, rfl, ⟨_, x, rfl, I.hok.fresh (Nat.le_refl _), rfl, fun ys hy => by rw [I.tuple_inj hy hq]; exact hx⟩, ⟨⟨y, ?_⟩, hst.1.at fun o q => (sb.2 it (Ne.symm n1)).trans q, n1, n2, n3⟩, fun b hb => ?_⟩
    · have e1 : ((i + 1 : Nat) : Int) = (i : Int) + 1 := by omega
      rw [e1]
      exact he'
    · have hb' : b < s.heap.objs.size := by
        have e' : b = e ∨ b = it := by simpa using hb
        rcases e' with z | z
        · rw [z]
          exact le
        · rw [z]
          exact li
      rw [upd_ne (Nat.ne_of_lt hb')]
      exact (hf b hb).1
  done := by
    intro X hP hw hK hc i pins s σ H E I hf st hg
    subst hP hw hK
    obtain ⟨⟨old, he⟩, hit, n1, n2, n3⟩ := st
    obtain ⟨xs, hq, hx⟩ := hg
    obtain ⟨its, rv, p, hz⟩ := I.tuple hq
    obtain ⟨f0, f1, f2, f3, f4, f5⟩ := hf it (by simp)
    have hl := rv.length
    have hA : X.A.in1.handled = none := I.ok.hd hc
    have D : Draws X.prog X.w X.A.in1 it [it, a] i (fun _ _ => True) (fun k h => (h.IsTupleIter it a k ∧ h.IsTuple a its.toArray) ∧ k = i) :=
      { live := fun _ _ st => let ⟨o, ho, _⟩ := st.1.1; ⟨o, ho⟩
        frame := fun _ _ _ st hk => ⟨⟨st.1.1.at fun o e => hk it (by simp) o e, st.1.2.at fun o e => hk a (by simp) o e⟩, st.2⟩
        item := fun k s Q E hi st hQ => absurd st.2 (Nat.ne_of_lt hi)
        done := fun s Q E st hE => wpAny_nextOf_tuple_end hA st.1.1 st.1.2 (by simp; omega) hE }
    exact wpAny_pyNext_enum_endD D he ⟨⟨hit, p⟩, rfl⟩ fun h' eb => ⟨rfl, I.turned (t' := s.toks) (fun b o hb q => eb b o hb q) f0 f1 f3 f4 f5⟩
  self := fun A i s Q E st h => by
    obtain ⟨⟨_, he⟩, _⟩ := st
    exact wpAny_pyIter_enum he h
/-- enumerate of a tuple -/
def iEnumT (K : PySem.W.Frag) (ta : TA) : TI := fun σ H R => ta σ H fun vs H1 => ∃ a xs, vs = [.ref a] ∧ SqT K H1 a xs ∧ R (IteT K a) H1
theorem pi_enumT {X : Cx} {e : Expr} {ta : TA} {p pos tpos : Pos} {elts : List Expr} {kk : Nat} (hg : Gl X "enumerate") (hm : X.mg "enumerate" = none) (ha : PA X [e] ta) (hs : starEach [e] X.env = [(false, eval e X.env)] := by rfl) :
    PI X (.Tuple elts kk tpos) (.Call (.Name "enumerate" p) [e] [] pos) (iEnumT X.K ta) := by
  refine ⟨fun pins s σ H R I h => ?_⟩
  refine Call_ (ld_blt I hg hm boot_enumerate (PyProof.Rows.callWith_type1 (thn (ha.run pos pins s σ H _ I h) fun us s1 ⟨vs, H1, I1, r1, q1⟩ => ?_) hs rfl))
  obtain ⟨a, xs, ex, hq, q⟩ := q1
  subst ex
  cases r1 with
  | cons r rr =>
    cases rr
    cases r
    obtain ⟨its, rv, p', hz⟩ := I1.tuple hq
    obtain ⟨oT, hoT, _⟩ := id p'
    have la : a < s1.heap.objs.size := Heap.lt_size hoT
    refine call_enumT (its := its.toArray) p' fun h' he hit hsz hk => wpAny_pyIter_enum he ?_
    have I2 : Inv X pins σ H1 { s1 with heap := h' } := I1.kept (t' := s1.toks) hk
    refine ⟨s1.heap.objs.size + 1, [s1.heap.objs.size + 1, s1.heap.objs.size], _, _, H1, rfl, I2, turn_enumT a (s1.heap.objs.size + 1) s1.heap.objs.size, ⟨⟨.none, he⟩, hit, Nat.succ_ne_self _, Nat.ne_of_lt la, Nat.ne_of_lt (Nat.lt_succ_of_lt la)⟩, fun b hb => ?_, q⟩
    have e' : b = s1.heap.objs.size + 1 ∨ b = s1.heap.objs.size := by simpa using hb
    have hle : s1.heap.objs.size ≤ b := by
      rcases e' with z | z
      · rw [z]
        exact Nat.le_add_right _ _
      · rw [z]
        exact Nat.le_refl _
    exact I1.fpOk hle (I1.hok.fresh hle)
end UE

set_option Elab.async false
set_option linter.all false
set_option maxRecDepth 100000
set_option maxHeartbeats 4000000
namespace UX
open PySem PySem.W PySem.Calls PyProof.Rows PySem.HandSPX
section
variable {M : Model} {A : Around} {E : Value → Shared → Prop} {h : Heap} {g : Array GenState} {d : Drawn} {t : Nat} {os : OsState}
variable {nm q : Str} {C N : Addr} {bs bm bmB : List Value} {hd : Bool} {sn : List Str} {sub : List Value} {ab : Bool} {col : Option Bool} {dd : Option Addr} {k0 k1 k2 k3 k5 : Option Value} {B nid iid : String}
/-- keywords are no fault of a call of such a __new__ -/
theorem kw_check (F : ExcBaseFacts B nid iid bmB) (hT : ∀ X : String, bm.contains (.type X) = bmB.contains (.type X)) {kw : List (Str × Value)} {Q : Unit → Shared → Prop}
    (hC : h.get? C = some (excClassObj nm q C N bs bm hd sn sub ab col dd k0 k1 k2 k3 k5 nid)) (hq : Q () ⟨h, g, d, t, os⟩) : wpAny M A (checkBuiltinCall nid ⟨[.ref C], kw⟩) Q E ⟨h, g, d, t, os⟩ := by
  have inB : (Value.ref C :: bm).contains (.type B) = true := (List.contains_cons ..).trans (by rw [hT, F.hasB]; exact Bool.or_true _)
  have star := F.noStar
  simp only [checkBuiltinCall, F.newKind, F.newSplit, F.newRow]
  repeat (first | refine wpAny_loadPart_at hC ?_ | (refine wpAny_isSubtype_exc hC ?_; rw [inB]) | refine wpAny_staticBase_exc hC ?_ | refine wpAny_madeBy_exc hC ?_ | (simp only [bne_self_eq_false, Bool.false_eq_true, if_false]) | wp_step)
  exact hq
end
section
variable {prog : Program} {w : World} {A : Around} {E : Value → Shared → Prop} {R : Result → Shared → Prop} {h : Heap} {g : Array GenState} {d : Drawn} {t : Nat} {os : OsState}
variable {nm q : Str} {C N : Addr} {bs bm bmB : List Value} {hd : Bool} {sn : List Str} {sub : List Value} {ab : Bool} {col : Option Bool} {dd : Option Addr} {k0 k1 k2 k3 k5 : Option Value} {B nid iid : String}
/-- the heap behind the making of an exception without arguments -/
abbrev mkd (h : Heap) (C : Addr) : Heap := (h.push (kdv_tup [])).push (excO C h.objs.size)
theorem kw_new (F : ExcBaseFacts B nid iid bmB) (hT : ∀ X : String, bm.contains (.type X) = bmB.contains (.type X)) {kw : List (Str × Value)} (hC : h.get? C = some (excClassObj nm q C N bs bm hd sn sub ab col dd k0 k1 k2 k3 k5 nid))
    (hq : R (.ok (.ret (.ref (h.objs.size + 1)))) ⟨mkd h C, g, d, t, os⟩) : codeAny (model prog w) A (.builtin nid ⟨[.ref C], kw⟩) R ⟨h, g, d, t, os⟩ := by
  have ends := F.ends
  have inB : (Value.ref C :: bm).contains (.type B) = true := (List.contains_cons ..).trans (by rw [hT, F.hasB]; exact Bool.or_true _)
  have noA : (Value.ref C :: bm).contains (.type "AttributeError") = false := (List.contains_cons ..).trans (by rw [hT, F.noAttr]; rfl)
  have noN : (Value.ref C :: bm).contains (.type "NameError") = false := (List.contains_cons ..).trans (by rw [hT, F.noName]; rfl)
  have none0 : ([] : List Value).length ≤ sizeLine := Nat.zero_le _
  refine codeAny_builtinAt F.entry ?_
  unfold Builtin.«BaseException.__new__»
  refine PySem.wpAt_bind ?_
  show PySem.wpAt _ _ _ (stack >>= _) _ _ _
  refine PySem.wpAt_bind (PySem.wpAt_stack fun p below => PySem.wpAt_of_wpAny ?_)
  wp_walk
  refine PySem.wpAt_of_wpAny ?_
  rw [F.owner]
  repeat (first | with_reducible refine wpAny_madeHere_exc F.canon hC ?_ | with_reducible refine wpAny_loadPart_at hC ?_ | (with_reducible refine wpAny_isSubtype_exc hC ?_; first | rw [inB] | rw [noA] | rw [noN]) | wp_step)
  show R _ _
  rw [Heap.size_push]
  exact hq
theorem kw_type (F : ExcBaseFacts B nid iid bmB) (hT : ∀ X : String, bm.contains (.type X) = bmB.contains (.type X)) {kw : List (Str × Value)} {fI : Addr} {Q : Fin → Shared → Prop} (hC : h.get? C = some (excClassObj nm q C N bs bm hd sn sub ab col dd k0 k1 k2 k3 k5 nid))
    (hi : Looks (model prog w) h (typeLookup (.ref C) "__init__") (some (.ref fI))) (hb : ∀ self, Looks (model prog w) h (bindSpecial (.ref fI) self) (.ref fI, [self]))
    (hq : codeAny (model prog w) A (.call (.ref fI) ⟨[.ref (h.objs.size + 1)], kw⟩) (fun r s' => match r with | .ok (.ret v) => v = .none ∧ Q (.done (.ret (.ref (h.objs.size + 1)))) s' | .ok _ => False | .error e => E e s') ⟨mkd h C, g, d, t, os⟩) :
    wpAny (model prog w) A (Builtin.«type.__call__» ⟨[.ref C], kw⟩) Q E ⟨h, g, d, t, os⟩ := by
  repeat (first | with_reducible refine wpAny_loadPart_at hC ?_ | with_reducible refine wpAny_madeBy_exc hC ?_ | wp_step)
  refine codeAny_call_builtin_code (Code.quiet_builtin _ F.quiet) (kw_check F hT hC ?_)
  refine kw_new F hT hC ?_
  show wpAny _ _ _ _ _ _
  have kp : ∀ b o, h.get? b = some o → (mkd h C).get? b = some o := fun b o e => Heap.get?_push_of_some _ (Heap.get?_push_of_some _ e)
  have hC1 := kp _ _ hC
  have get1 : (mkd h C).get? (h.objs.size + 1) = some (excO C h.objs.size) := by heap_get
  have self1 : (Value.ref C :: bm).contains (.ref C) = true := by simp
  have i1 := hi.keeps kp
  have b1 := (hb (.ref (h.objs.size + 1))).keeps kp
  unfold isInstance
  repeat (first | with_reducible refine wpAny_loadPart_at get1 ?_ | (with_reducible refine wpAny_isSubtype_exc hC1 ?_; rw [self1]) | wp_step)
  show wpAny _ _ (typeLookup (.ref C) _) _ _ _
  refine i1.at ?_
  refine wpAny_holding (wpAny_bind (b1.at ?_))
  refine wpAny_bind (wpAny_call (codeAny_mono hq fun r s' z => ?_))
  cases r with
  | error e => exact z
  | ok fl =>
    cases fl with
    | ret v =>
      obtain ⟨rfl, z⟩ := z
      first
        | exact wpAny_pure (wpAny_pure z)
        | (wp_walk; exact z)
    | next => exact z.elim
    | brk => exact z.elim
    | cont => exact z.elim
theorem kw_call (F : ExcBaseFacts B nid iid bmB) (hT : ∀ X : String, bm.contains (.type X) = bmB.contains (.type X)) {kw : List (Str × Value)} {fI : Addr} (hC : h.get? C = some (excClassObj nm q C N bs bm hd sn sub ab col dd k0 k1 k2 k3 k5 nid))
    (hi : Looks (model prog w) h (typeLookup (.ref C) "__init__") (some (.ref fI))) (hb : ∀ self, Looks (model prog w) h (bindSpecial (.ref fI) self) (.ref fI, [self]))
    (hq : codeAny (model prog w) (A.under (.builtin "type.__call__" ⟨[.ref C], kw⟩)) (.call (.ref fI) ⟨[.ref (h.objs.size + 1)], kw⟩) (InitBack (h.objs.size + 1) R) ⟨mkd h C, g, d, t, os⟩) :
    codeAny (model prog w) A (.call (.ref C) ⟨[], kw⟩) R ⟨h, g, d, t, os⟩ := by
  have f1 := tc_lookup
  have f2 := tc_bind (.ref C)
  have tyC : (⟨h, g, d, t, os⟩ : Shared).TypeIs (.ref C) "type" := ⟨_, hC, rfl⟩
  refine codeAny_of_tree ?_
  show wpAny _ _ (callAny (.ref C) _) _ _ _
  repeat (any_goals (first | assumption | with_reducible refine wpAny_loadPart_at hC ?_ | wp_step))
  refine ⟨rfl, ?_⟩
  refine codeAny_call_builtin_at (Code.quiet_builtin _ (by decide +kernel)) entry_typeCall (wpAny_check_type_call_sub hC (kw_type F hT hC hi hb ?_))
  refine codeAny_mono hq fun r s' z => ?_
  cases r with
  | error e => exact z
  | ok fl => cases fl <;> exact z
end
end UX

set_option Elab.async false
set_option linter.all false
set_option maxRecDepth 100000
set_option maxHeartbeats 4000000
namespace U
open PySem L2 PyProof.Rows
open Evl (Ex)
/-! ### errors of the text as values -/
/-- what a class of errors with its own __init__(self, f) says -/
structure ErrC (P : Program) (w : World) (K : PySem.W.Frag) (mg : Str → Option Value) (base : Heap) (x : Str) (C : Addr) (f : Str) : Prop where
  T : OexC K C
  gC : mg x = some (.ref C)
  xf : XfC K C
  no : PySem.W.findIn K (.ref C) f = some none
  init : ∃ (fI : Addr) (fd : FuncData), PySem.W.findIn K (.ref C) "__init__" = some (some (.ref fI)) ∧ PySem.W.typeIn K (.ref fI) = some (.type "function") ∧
    FnOk P w K mg base CX0 1 fI fd ["self", f] (fun vs H Q _ => ∃ (a : Addr) (v : V), vs = [.ref a, v] ∧ H a = some (exo a C none) ∧ ∀ dx, H dx = none → dx ≠ a → Q .non (upd (upd H dx (exd dx [(f, v)])) a (exo a C (some dx)))) ∧
    Binds K fd ["self", f] [] ∧ (∀ (s : Shared) (u v : Value), BindsTo s fd ⟨[u], [(f, v)]⟩ [("self", u), (f, v)])
/-- at a an error of the class at C whose attribute f is v -/
def ErrAt (H : Hp) (a C : Addr) (f : Str) (v : V) : Prop := ∃ d : Addr, H a = some (exo a C (some d)) ∧ H d = some (exd d [(f, v)])
theorem ErrAt.up {H H' : Hp} {a C : Addr} {f : Str} {v : V} (h : ErrAt H a C f v) (e : Ex H H') : ErrAt H' a C f v := by
  obtain ⟨d, h1, h2⟩ := h
  exact ⟨d, e _ _ h1, e _ _ h2⟩
/-- at a an error of the class at C -/
def ErrOf (H : Hp) (a C : Addr) : Prop := (∃ (d : Addr) (fs : List (Str × V)), H a = some (exo a C (some d)) ∧ H d = some (exd d fs)) ∨ H a = some (ExO (.ref C) a)
theorem ErrOf.up {H H' : Hp} {a C : Addr} (h : ErrOf H a C) (e : Ex H H') : ErrOf H' a C := by
  rcases h with ⟨d, fs, h1, h2⟩ | h1
  · exact .inl ⟨d, fs, e _ _ h1, e _ _ h2⟩
  · exact .inr (e _ _ h1)
theorem ErrAt.of {H : Hp} {a C : Addr} {f : Str} {v : V} (h : ErrAt H a C f v) : ErrOf H a C := by
  obtain ⟨d, h1, h2⟩ := h
  exact .inl ⟨d, _, h1, h2⟩
theorem err_laid {H : Hp} {a dx C : Addr} {f : Str} {v : V} (ha : H a = none) (hd : H dx = none) (n : dx ≠ a) :
    Ex H (upd (upd (upd H a (exo a C none)) dx (exd dx [(f, v)])) a (exo a C (some dx))) ∧ ErrAt (upd (upd (upd H a (exo a C none)) dx (exd dx [(f, v)])) a (exo a C (some dx))) a C f v := by
  refine ⟨fun b o e => ?_, dx, upd_same, ?_⟩
  · have n1 : b ≠ a := ne_of_none e ha
    have n2 : b ≠ dx := ne_of_none e hd
    rw [upd_ne n1, upd_ne n2, upd_ne n1]
    exact e
  · rw [upd_ne n, upd_same]
section
variable {X : Cx} {x f : Str} {C : Addr} {e : Expr} {te : TE} {p pos kpos apos : Pos}
/-- X(e): a new error -/
def tErr (C : Addr) (f : Str) (te : TE) : TE := fun σ H Q => te σ H fun v H1 => ∀ a H2, H1 a = none → Ex H1 H2 → ErrAt H2 a C f v → Q (.ref a) H2
theorem err_size {us : List Value} (h : us.length ≤ 1) : us.length ≤ sizeLine := by
  rw [sizeLine_eq]
  omega
theorem pe_err (R : ErrC X.prog X.w X.K X.mg X.base x C f) (hr : Room 2 X.A) (hg : Gl X x) (he : PE X e te) (hdb : (x == ("__debug__" : Str)) = false := by decide)
    (hs : starEach [e] X.env = (false, eval e X.env) :: starEach [] X.env := by rfl) : PE X (.Call (.Name x p) [e] [] pos) (tErr C f te) := by
  refine ⟨fun pins s σ H Q I h => ?_⟩
  obtain ⟨fI, fd, iC, tI, F1, hb, _⟩ := R.init
  obtain ⟨nm, q, N, bs, bm, sn, sub, ab, col, dd, k0, k1, k2, k3, k5, hC, hbm⟩ := R.T.cls
  refine wpAny_Call_Name_kw (ld_glob I hg R.gC ?_ hdb)
  refine PySem.W.callWith_K (h₀ := X.base) I.ok.mod.kin R.T.kC ?_ hs (by rfl)
  rw [hs]
  show wpAny _ _ (spliced ((false, eval e X.env) :: backTo pos (starEach [] X.env))) _ _ s
  refine Calls.spliced_cons (thn (he.run pins s σ H _ I h) fun u s1 ⟨v, H1, I1, r1, q1⟩ => Calls.spliced_nil ⟨I1.kIn, ?_⟩)
  show wpAny _ _ (call (.ref C) [u]) _ _ _
  obtain ⟨hp, g, dr, tk, os⟩ := s1
  have hsz : hp.objs.size ≤ hp.objs.size + 1 := Nat.le_succ _
  have hn : H1 (hp.objs.size + 1) = none := I1.hok.fresh hsz
  have kk : ∀ b o, hp.get? b = some o → ((hp.push (PySem.W.kdv_tup [u])).push (PySem.HandSPX.excO C hp.objs.size)).get? b = some o := fun b o z => Heap.get?_push_of_some _ (Heap.get?_push_of_some _ z)
  have hget : ((hp.push (PySem.W.kdv_tup [u])).push (PySem.HandSPX.excO C hp.objs.size)).get? (hp.objs.size + 1) = some (PySem.HandSPX.excO C hp.objs.size) := by heap_get
  have I2 : Inv X pins σ (upd H1 (hp.objs.size + 1) (exo (hp.objs.size + 1) C none)) ⟨(hp.push (PySem.W.kdv_tup [u])).push (PySem.HandSPX.excO C hp.objs.size), g, dr, tk, os⟩ :=
    I1.laid (t' := tk) (a := hp.objs.size + 1) (o := exo (hp.objs.size + 1) C none) (h' := (hp.push (PySem.W.kdv_tup [u])).push (PySem.HandSPX.excO C hp.objs.size)) kk hsz (exo_ok hget)
  have r2 : Vals [V.ref (hp.objs.size + 1), v] [Value.ref (hp.objs.size + 1), u] := .cons rfl (.cons r1 .nil)
  have bt := hb _ [Value.ref (hp.objs.size + 1), u] I2.kIn rfl
  rw [List.append_nil] at bt
  refine wpAny_call (PySem.HandSPX.call_own PySem.F.excBase_ValueError (fun Y => PySem.HandSPX.refsVE_contains Y bm hbm) (I1.kIn _ _ hC) (PySem.W.looks_findIn I1.kIn iC) (fun self => PySem.W.bind_fn I1.kIn self tI) (err_size (Nat.le_refl 1))
    (codeAny_mono (F1.run _ X.stack _ _ ⟨[Value.ref (hp.objs.size + 1), u], []⟩ [Value.ref (hp.objs.size + 1), u] _ (fun y H2 => y = .non ∧ Q (.ref (hp.objs.size + 1)) H2) (fun _ _ _ => False) (hr.make C [u] []) (I2.env0.make C [u] []) bt r2
      ⟨_, v, rfl, upd_same, fun dx hdx nx => ⟨rfl, ?_⟩⟩) fun r s' hq' => ?_))
  · have hd1 : H1 dx = none := by
      rw [upd_ne nx] at hdx
      exact hdx
    obtain ⟨z1, z2⟩ := err_laid (C := C) (f := f) (v := v) hn hd1 nx
    exact q1 _ _ hn z1 z2
  · cases r with
    | error er => exact False.elim hq'
    | ok fl =>
      cases fl with
      | ret u' =>
        obtain ⟨y, H', I3, ry, ey, q3⟩ := I2.after hq'
        subst ey
        exact ⟨ry, ⟨V.ref (hp.objs.size + 1), H', I3, rfl, q3⟩⟩
      | next => exact False.elim hq'
      | brk => exact False.elim hq'
      | cont => exact False.elim hq'
/-- of a list with one item -/
def only1 (R : V → Hp → Prop) : List V → Hp → Prop
  | [v], H => R v H
  | _, _ => False
theorem only1_is {R : V → Hp → Prop} : ∀ {vs : List V} {H : Hp}, only1 R vs H → ∃ v, vs = [v] ∧ R v H
  | [v], _, h => ⟨v, rfl, h⟩
  | [], _, h => h.elim
  | _ :: _ :: _, _, h => h.elim
/-- X(f=e) -/
theorem pe_errK (R : ErrC X.prog X.w X.K X.mg X.base x C f) (hr : Room 2 X.A) (hg : Gl X x) (he : PE X e te) (hdb : (x == ("__debug__" : Str)) = false := by decide) : PE X (.Call (.Name x p) [] [⟨some f, e, kpos⟩] pos) (tErr C f te) := by
  refine ⟨fun pins s σ H Q I h => ?_⟩
  obtain ⟨fI, fd, iC, tI, F1, _, hb⟩ := R.init
  obtain ⟨nm, q, N, bs, bm, sn, sub, ab, col, dd, k0, k1, k2, k3, k5, hC, hbm⟩ := R.T.cls
  refine wpAny_Call_Name_kw (ld_glob I hg R.gC ?_ hdb)
  have hk : PK X [⟨some f, e, kpos⟩] (tCons te tNil) := pk_cons he pk_nil
  refine PySem.W.callWith_KW0 (h₀ := X.base) I.ok.mod.kin R.T.kC (by rfl) (thn (hk.run pos pins s σ H (only1 fun v H1 => ∀ a H2, H1 a = none → Ex H1 H2 → ErrAt H2 a C f v → Q (.ref a) H2) I h) fun us s1 ⟨vs, H1, I1, r1, q0⟩ => ⟨I1.kIn, ?_⟩)
  obtain ⟨v, ev, q1⟩ := only1_is q0
  subst ev
  obtain ⟨u, eu, r9⟩ := Vals.one r1
  subst eu
  show wpAny _ _ (call (.ref C) [] [(f, u)]) _ _ _
  obtain ⟨hp, g, dr, tk, os⟩ := s1
  have hsz : hp.objs.size ≤ hp.objs.size + 1 := Nat.le_succ _
  have hn : H1 (hp.objs.size + 1) = none := I1.hok.fresh hsz
  have kk : ∀ b o, hp.get? b = some o → (UX.mkd hp C).get? b = some o := fun b o z => Heap.get?_push_of_some _ (Heap.get?_push_of_some _ z)
  have hget : (UX.mkd hp C).get? (hp.objs.size + 1) = some (PySem.HandSPX.excO C hp.objs.size) := by heap_get
  have I2 : Inv X pins σ (upd H1 (hp.objs.size + 1) (exo (hp.objs.size + 1) C none)) ⟨UX.mkd hp C, g, dr, tk, os⟩ :=
    I1.laid (t' := tk) (a := hp.objs.size + 1) (o := exo (hp.objs.size + 1) C none) (h' := UX.mkd hp C) kk hsz (exo_ok hget)
  have r2 : Vals [V.ref (hp.objs.size + 1), v] [Value.ref (hp.objs.size + 1), u] := .cons rfl (.cons r9 .nil)
  have bt := hb ⟨UX.mkd hp C, g, dr, tk, os⟩ (Value.ref (hp.objs.size + 1)) u
  refine wpAny_call (UX.kw_call PySem.F.excBase_ValueError (fun Y => PySem.HandSPX.refsVE_contains Y bm hbm) (I1.kIn _ _ hC) (PySem.W.looks_findIn I1.kIn iC) (fun self => PySem.W.bind_fn I1.kIn self tI)
    (codeAny_mono (F1.run _ X.stack _ _ ⟨[Value.ref (hp.objs.size + 1)], [(f, u)]⟩ [Value.ref (hp.objs.size + 1), u] _ (fun y H2 => y = .non ∧ Q (.ref (hp.objs.size + 1)) H2) (fun _ _ _ => False) (hr.make C [] [(f, u)]) (I2.env0.make C [] [(f, u)]) bt r2
      ⟨_, v, rfl, upd_same, fun dx hdx nx => ⟨rfl, ?_⟩⟩) fun r s' hq' => ?_))
  · have hd1 : H1 dx = none := by
      rw [upd_ne nx] at hdx
      exact hdx
    obtain ⟨z1, z2⟩ := err_laid (C := C) (f := f) (v := v) hn hd1 nx
    exact q1 _ _ hn z1 z2
  · cases r with
    | error er => exact False.elim hq'
    | ok fl =>
      cases fl with
      | ret u' =>
        obtain ⟨y, H', I3, ry, ey, q3⟩ := I2.after hq'
        subst ey
        exact ⟨ry, ⟨V.ref (hp.objs.size + 1), H', I3, rfl, q3⟩⟩
      | next => exact False.elim hq'
      | brk => exact False.elim hq'
      | cont => exact False.elim hq'
/-- e.f, e an error that stands -/
def tErrF (K : PySem.W.Frag) (f : Str) (te : TE) : TE := fun σ H Q => te σ H fun x H1 => ∃ (a C : Addr) (v : V), x = .ref a ∧ XfC K C ∧ PySem.W.findIn K (.ref C) f = some none ∧ ErrAt H1 a C f v ∧ Q v H1
theorem pe_errF (he : PE X e te) (hb : attributeBase e f X.env (eval e X.env) = eval e X.env := by rfl) : PE X (.Attribute e f pos) (tErrF X.K f te) := by
  refine ⟨fun pins s σ H Q I h => ?_⟩
  refine attr_of hb (thn (he.run pins s σ H _ I h) fun u s1 hh => ?_)
  obtain ⟨x, H1, I1, rx, a, C, v, ex, R, hno, ⟨d, ea, ed⟩, q⟩ := hh
  subst ex
  obtain rfl : u = Value.ref a := rx
  obtain ⟨t1, ho⟩ := exo_at I1.hok ea
  obtain ⟨mA, hns, rel⟩ := exd_at I1.hok ed
  obtain ⟨od, hd, hl⟩ := lookIn_ns hns
  have l1 : [(f, v)].lookup f = some v := by simp [List.lookup]
  obtain ⟨y, hy, ry⟩ := RelO.some_of (v := v) (o := mA f) (by rw [← l1]; exact rel f)
  have J : PySem.W.InstAt s1.heap a { cls := .ref C, dict := some d, data := .fields #[.ref t1, .none, .none, .none, .bool false, .none] } C (some od) := ⟨ho, rfl, rfl, hd⟩
  exact HandSPX.exc_get I1.kIn J R.ga R.gg R.exC (PySem.W.findObj_own R.hdC hno rfl (by rw [hl, hy])) (handed_of ry) ⟨v, H1, I1.tok _, ry, q⟩
/-- X(): an error of a class without own __init__ -/
theorem pe_err0 {bmB : List Value} {B nid iid : String} (F : ExcBaseFacts B nid iid bmB) (q : PySem.W.excIn X.K C bmB nid = true) (gC : X.mg x = some (.ref C)) (kC : PySem.W.keepIn X.K (.ref C) = true) (hg : Gl X x) (hdb : (x == ("__debug__" : Str)) = false := by decide) :
    PE X (.Call (.Name x p) [] [] pos) (fun _ H Q => ∀ a, H a = none → Q (.ref a) (upd H a (ExO (.ref C) a))) := by
  refine ⟨fun pins s σ H Q I h => ?_⟩
  refine wpAny_Call_Name_kw (ld_glob I hg gC ?_ hdb)
  refine PySem.W.callWith_K0 I.kIn kC ?_
  show wpAny _ _ (call (.ref C) []) _ _ _
  obtain ⟨bm, N, nm, qn, bs, hdct, sn, sub, ab, col, dd, k0, k1, k2, k3, k5, mN, hC, hN, hni, T⟩ := exc_obj I.kIn q
  refine wpAny_call_exc_subT F T hC hN hni (fun h' a hm => ?_) (Nat.zero_le _)
  have hn : H a = none := I.hok.gone hm.new
  obtain ⟨t, ht, _, _⟩ := hm.there
  exact ⟨.ref a, upd H a (ExO (.ref C) a), I.laidN hm.keeps hm.new hn (exO_ok ht ⟨rfl, rfl⟩ rfl rfl rfl (show 4 < 6 by decide)), rfl, h a hn⟩
/-- what the class D says, so that isinstance asks its instances rightly -/
structure IsiC (K : PySem.W.Frag) (D : Addr) : Prop where
  cl : (PySem.W.clsIn K D).isSome = true
  hg : PySem.W.findIn K (.ref D) "__getattribute__" = some (some (.builtin "BaseException.__getattribute__"))
  hk : PySem.W.findIn K (.ref D) "__getattr__" = some none
  hs : PySem.W.subIn K (.ref D) (.type "BaseException") = some true
  ha : PySem.W.findIn K (.ref D) "__class__" = some (some (.builtin "object.__class__"))
  hn : PySem.W.specialIn K (.builtin "object.__class__") "__get__" = some (some (.builtin "getset_descriptor.__get__"))
  ht : PySem.W.takesIn K (.builtin "object.__class__") = some true
  hm : PySem.W.mroIn K D (.type "object") = some true
/-- isinstance(e, c), e an error that stands -/
def rIsErr (K : PySem.W.Frag) : List V → Hp → VK → Prop := fun xs H Q => ∃ (a D : Addr) (c : V) (cv : Value) (b : Bool), xs = [.ref a, c] ∧ ErrOf H a D ∧ IsiC K D ∧ ClsV c cv ∧ PySem.W.kitOne K (.ref D) cv = some b ∧ Q (.bl b) H
theorem call_isErr : CallR X (.builtin "isinstance") (rIsErr X.K) := by
  intro pins s σ H xs us Q I r h
  obtain ⟨a, D, c, cv, b, rfl, he, Z, hc, e, q⟩ := h
  obtain ⟨u1, u2, rfl, r1, r2⟩ := vals2 r
  have e2 := hc.eq r2
  subst e2
  obtain rfl : u1 = Value.ref a := r1
  have J : ∃ (ox : Obj) (od : Option Obj), PySem.W.InstAt s.heap a ox D od := by
    rcases he with ⟨d, fs, ea, ed⟩ | ea
    · obtain ⟨t1, ho⟩ := exo_at I.hok ea
      obtain ⟨mA, hns, rel⟩ := exd_at I.hok ed
      obtain ⟨od, hd, hl⟩ := lookIn_ns hns
      exact ⟨_, some od, ho, rfl, rfl, hd⟩
    · obtain ⟨⟨oe, vs, h1, h2, h3, _⟩, _, _⟩ := (show ObjOk X.prog X.w H s.heap a (.ext _) from I.hok a _ ea)
      refine ⟨oe, none, h1, h2.1, ?_, ?_⟩
      · unfold PySem.W.notCls
        rw [h3]
      · rw [h2.2]
        trivial
  obtain ⟨ox, od, J⟩ := J
  exact PySem.W.kia_one (PySem.W.kitx_exc Z.cl Z.hg Z.hk Z.hs Z.ha Z.hn Z.ht Z.hm) I.kIn J e (fun z => nomatch z) fun tk => ⟨.bl b, H, I.tok tk, rfl, q⟩
end
end U

set_option Elab.async false
set_option linter.all false
set_option maxRecDepth 100000
set_option maxHeartbeats 2000000
namespace U
open PySem L2
/-- kinds of rules -/
inductive Kd where
  | halves (p : Int)
  | boxes (p : Int)
  | rising (p : Int)
  | flats (p : Int)
  | turns (m : Int)
  | no (k : Kd)
  | both (k m : Kd)
  | either (k m : Kd)
  | any (k m : Kd)
  deriving DecidableEq
def kdD : Kd → PyData
  | .halves p => .tuple [.str "halves", .int p]
  | .boxes p => .tuple [.str "boxes", .int p]
  | .rising p => .tuple [.str "rising", .int p]
  | .flats p => .tuple [.str "flats", .int p]
  | .turns m => .tuple [.str "turns", .int m]
  | .no k => .tuple [.str "not", kdD k]
  | .both k m => .tuple [.str "both", kdD k, kdD m]
  | .either k m => .tuple [.str "either", kdD k, kdD m]
  | .any k m => .tuple [.str "any", kdD k, kdD m]
def okK (p : Int) : Kd → Prop
  | .halves q => q = p
  | .boxes q => q = p
  | .rising q => q = p
  | .flats q => q = p
  | .turns m => p = 1 ∧ 0 ≤ m ∧ m ≤ 3
  | .no k => okK p k
  | .both k m => okK p k ∧ okK p m
  | .either k m => okK p k ∧ okK p m
  | .any k m => okK p k ∧ okK p m
def depK : Kd → Nat
  | .no k => depK k + 1
  | .both k m => max (depK k) (depK m) + 1
  | .either k m => max (depK k) (depK m) + 1
  | .any k m => max (depK k) (depK m) + 1
  | _ => 0
end U

set_option Elab.async false
set_option linter.all false
set_option maxRecDepth 100000
set_option maxHeartbeats 4000000
namespace U
open PySem PySem.Spec PyProof.Rows L2
open Evl (Ex)
section
variable {X : Cx} {tg : Expr}
/-- a list or a tuple, item by item -/
def iSeq (K : PySem.W.Frag) (tl : TE) : TI := fun σ H R => tl σ H fun x H1 => ∃ a, x = .ref a ∧ (((∃ xs, SqL K H1 a xs) ∧ R (Itl K a) H1) ∨ ((∃ xs, SqT K H1 a xs) ∧ R (Itt K a) H1))
theorem pi_seq {l : Expr} {tl : TE} (hl : PE X l tl) : PI X tg l (iSeq X.K tl) := by
  refine ⟨fun pins s σ H R I h => ?_⟩
  refine thn (hl.run pins s σ H _ I h) fun v s1 ⟨x, H1, I1, r1, q1⟩ => ?_
  obtain ⟨a, e, q⟩ := q1
  subst e
  cases r1
  have fresh : ∀ b ∈ [s1.heap.objs.size], b = s1.heap.objs.size := fun b hb => by simpa using hb
  rcases q with ⟨⟨xs, hq⟩, q⟩ | ⟨⟨xs, hq⟩, q⟩
  · obtain ⟨its, rv, p, hz⟩ := I1.list hq
    refine wpAny_pyIter_list p.isList ?_
    refine ⟨s1.heap.objs.size, [s1.heap.objs.size], _, _, H1, rfl, I1.kept (t' := s1.toks) fun b o e => Heap.get?_push_of_some _ e, turn_list a _, ⟨_, Heap.get?_push_size _ rfl, rfl, rfl⟩, fun b hb => ?_, q⟩
    rw [fresh b hb]
    exact I1.fpOk (Nat.le_refl _) (I1.hok.fresh (Nat.le_refl _))
  · obtain ⟨its, rv, p, hz⟩ := I1.tuple hq
    refine wpAny_pyIter_tuple (show s1.heap.IsTuple a its.toArray from p) ?_
    refine ⟨s1.heap.objs.size, [s1.heap.objs.size], _, _, H1, rfl, I1.kept (t' := s1.toks) fun b o e => Heap.get?_push_of_some _ e, turn_tuple a _, ⟨_, Heap.get?_push_size _ rfl, rfl, rfl⟩, fun b hb => ?_, q⟩
    rw [fresh b hb]
    exact I1.fpOk (Nat.le_refl _) (I1.hok.fresh (Nat.le_refl _))
/-- enumerate of a list or a tuple -/
def iEnumA (K : PySem.W.Frag) (ta : TA) : TI := fun σ H R => ta σ H fun vs H1 => ∃ a xs, vs = [.ref a] ∧ ((SqL K H1 a xs ∧ R (Ite K a) H1) ∨ (SqT K H1 a xs ∧ R (UE.IteT K a) H1))
theorem pi_enumA {e : Expr} {ta : TA} {p pos tpos : Pos} {elts : List Expr} {kk : Nat} (hg : Gl X "enumerate") (hm : X.mg "enumerate" = none) (ha : PA X [e] ta) (hs : starEach [e] X.env = [(false, eval e X.env)] := by rfl) :
    PI X (.Tuple elts kk tpos) (.Call (.Name "enumerate" p) [e] [] pos) (iEnumA X.K ta) := by
  refine ⟨fun pins s σ H R I h => ?_⟩
  refine Call_ (ld_blt I hg hm boot_enumerate (PyProof.Rows.callWith_type1 (thn (ha.run pos pins s σ H _ I h) fun us s1 ⟨vs, H1, I1, r1, q1⟩ => ?_) hs rfl))
  obtain ⟨a, xs, ex, q⟩ := q1
  subst ex
  have hb2 : ∀ b ∈ [s1.heap.objs.size + 1, s1.heap.objs.size], s1.heap.objs.size ≤ b := fun b hb => by
    have e' : b = s1.heap.objs.size + 1 ∨ b = s1.heap.objs.size := by simpa using hb
    omega
  cases r1 with
  | cons r rr =>
    cases rr
    cases r
    rcases q with ⟨hq, q⟩ | ⟨hq, q⟩
    · obtain ⟨its, rv, p', hz⟩ := I1.list hq
      refine call_enumerate_list p'.isList fun h' he hit hsz hk => wpAny_pyIter_enum he ?_
      have I2 : Inv X pins σ H1 { s1 with heap := h' } := I1.kept (t' := s1.toks) hk
      exact ⟨s1.heap.objs.size + 1, [s1.heap.objs.size + 1, s1.heap.objs.size], _, _, H1, rfl, I2, turn_enum a (s1.heap.objs.size + 1) s1.heap.objs.size, ⟨⟨.none, he⟩, hit, Nat.succ_ne_self _⟩, fun b hb => I1.fpOk (hb2 b hb) (I1.hok.fresh (hb2 b hb)), q⟩
    · obtain ⟨its, rv, p', hz⟩ := I1.tuple hq
      obtain ⟨oT, hoT, _⟩ := id p'
      have la : a < s1.heap.objs.size := Heap.lt_size hoT
      refine UE.call_enumT (its := its.toArray) p' fun h' he hit hsz hk => wpAny_pyIter_enum he ?_
      have I2 : Inv X pins σ H1 { s1 with heap := h' } := I1.kept (t' := s1.toks) hk
      exact ⟨s1.heap.objs.size + 1, [s1.heap.objs.size + 1, s1.heap.objs.size], _, _, H1, rfl, I2, UE.turn_enumT a (s1.heap.objs.size + 1) s1.heap.objs.size, ⟨⟨.none, he⟩, hit, Nat.succ_ne_self _, Nat.ne_of_lt la, Nat.ne_of_lt (Nat.lt_succ_of_lt la)⟩, fun b hb => I1.fpOk (hb2 b hb) (I1.hok.fresh (hb2 b hb)), q⟩
end
section
variable {K : PySem.W.Frag} {a : Addr} {xs : List V}
theorem walk_enumT : Walk (UE.IteT K a) xs.length (fun H => SqT K H a xs) (YPair (fun i => some (.int (i : Nat))) (fun i => xs[i]?)) := by
  refine ⟨fun i _ hi q => ⟨xs, xs[i], q, by simp [hi]⟩, fun _ q => ⟨xs, q, Nat.le_refl _⟩, fun i H v H' _ q y => ?_⟩
  obtain ⟨T, x, h1, h2, h3, h4⟩ := y
  exact ⟨T, .int (i : Nat), x, h1, h2, h3, rfl, h4 xs q⟩
end
/-! ### a comprehension whose items are data -/
section
variable {K : PySem.W.Frag} {L : List Addr} {σ σ2 : L2.St} {H H' H1 H2 : Hp} {te tl : TE} {ta : TA} {tt : TT} {v : V} {d : PyData} {ds : List PyData} {l a Dl : Addr} {xs : List V} {f : Nat → List PyData} {i : Nat}
theorem w_past (hn : H Dl = none) (e : Ex H H') : Ex (W L H) (W (Dl :: L) H') := fun b o h => by
  obtain ⟨h1, n⟩ := w_in h
  have ne : b ≠ Dl := ne_of_none h1 hn
  exact w_of (fun m => (List.mem_cons.mp m).elim ne n) (e b o h1)
/-- evaluates to a new list of data -/
def EvG (K : PySem.W.Frag) (L : List Addr) (te : TE) (σ : L2.St) (H : Hp) (ds : List PyData) : Prop := ∀ H1, Ex H H1 → ∀ Q : VK, (∀ p H2, H1 p = none → Ex H1 H2 → Gr K L H2 p ds → Q (.ref p) H2) → te σ H1 Q
theorem EvG.mono (e : Ex H H') (h : EvG K L te σ H ds) : EvG K L te σ H' ds := fun H1 a Q q => h H1 (e.trans a) Q q
theorem EvG.dat (h : EvG K L te σ H ds) : EvD K L te σ H (.list ds) := fun H1 e Q q => h H1 e _ fun p H2 hp e2 g => q (.ref p) H2 e2 g.dp
def Cmd (K : PySem.W.Frag) (L : List Addr) (H : Hp) (f : Nat → List PyData) (Dl : Addr) (i : Nat) (H' : Hp) : Prop := H Dl = none ∧ Ex H H' ∧ Gr K L H' Dl (f i)
theorem cmd_0 (hL : Hid L H) (hn : H Dl = none) (f0 : f 0 = []) : Cmd K L H f Dl 0 (upd H Dl (.lst [])) := ⟨hn, Ex.new hn, by
  rw [f0]
  exact gr_new hL hn .nil⟩
theorem cmd_yes (p : Cmd K L H f Dl i H') (hz : (f i).length < 100000) (e2 : Ex H' H2) (he : EvD K (Dl :: L) te σ2 H2 d) (hf : f (i + 1) = f i ++ [d]) :
    te σ2 H2 fun y H4 => ∃ acc, H4 Dl = some (.lst acc) ∧ acc.length < sizeLine ∧ Cmd K L H f Dl (i + 1) (upd H4 Dl (.lst (acc ++ [y]))) := by
  obtain ⟨p1, p2, n, acc, p3, p4⟩ := p
  refine he H2 (Ex.refl H2) _ fun y H4 e4 hy => ⟨acc, e4 Dl _ (e2 Dl _ p3), Evl.sz_lt (by rw [dpa_len p4]; exact hz), p1, Evl.Ex.mut ((p2.trans e2).trans e4) p1, ?_⟩
  rw [hf]
  exact gr_app n (e4 Dl _ (e2 Dl _ p3)) (p4.up (w_ex (e2.trans e4))) hy
theorem cmd_no (p : Cmd K L H f Dl i H') (e2 : Ex H' H2) (hf : f (i + 1) = f i) : Cmd K L H f Dl (i + 1) H2 := by
  obtain ⟨p1, p2, p3⟩ := p
  rw [← hf] at p3
  exact ⟨p1, p2.trans e2, p3.up e2⟩
/-- [.. for x in a list or a tuple of data] -/
theorem eg_seq {j : Nat} {vs : List Nat} {g : PyData → PyData} (h : Evl.Ev tl σ H (.ref a)) (hx : SqL K H a xs ∨ SqT K H a xs) (hd : DpAll K (W L H) xs ds) (hL : Hid L H) (hz : ds.length ≤ 50000) (hw : ∀ x, wipe ((wipe σ vs).set j (some x)) vs = wipe σ vs)
    (he : ∀ L' (x : V) d H1, d ∈ ds → Hid L' H1 → Ex H H1 → Dp K (W L' H1) x d → EvD K L' te ((wipe σ vs).set j (some x)) H1 (g d)) : EvG K L (tLc (iSeq K tl) (gName j) tYes te vs) σ H (ds.map g) := fun H0 e0 Q q => h H0 e0 _ fun H1 e1 => by
  have hlen := dpa_len hd
  have turn : ∀ (Dl : Addr) (i : Nat) (x : V) (H2 H3 : Hp), i < xs.length → Cmd K L H1 (fun i => (ds.take i).map g) Dl i H2 → YAt xs i H2 x H3 → gName j x (wipe σ vs) H3 fun σ2 H2 => wipe σ2 vs = wipe σ vs ∧ tYes σ2 H2 fun b H3 =>
      if b = true then te σ2 H3 fun y H4 => ∃ acc, H4 Dl = some (.lst acc) ∧ acc.length < sizeLine ∧ Cmd K L H1 (fun i => (ds.take i).map g) Dl (i + 1) (upd H4 Dl (.lst (acc ++ [y]))) else Cmd K L H1 (fun i => (ds.take i).map g) Dl (i + 1) H3 := by
    intro Dl i x H2 H3 hi p yp
    obtain ⟨rfl, hu⟩ := yp
    obtain ⟨d, hd1, hd2⟩ := dpa_get hd hu
    obtain ⟨p1, p2, p3⟩ := id p
    refine ⟨hw x, ?_⟩
    refine yes_lc (A := fun H3 => te ((wipe σ vs).set j (some x)) H3 fun y H4 => ∃ acc, H4 Dl = some (.lst acc) ∧ acc.length < sizeLine ∧ Cmd K L H1 (fun i => (ds.take i).map g) Dl (i + 1) (upd H4 Dl (.lst (acc ++ [y])))) (B := fun H3 => Cmd K L H1 (fun i => (ds.take i).map g) Dl (i + 1) H3) ?_
    refine cmd_yes p (by simp; omega) (Ex.refl _) (he _ x d _ (List.mem_of_getElem? hd1) ?_ ((e0.trans e1).trans p2) (hd2.up (w_past (Evl.fresh_back (e0.trans e1) p1) ((e0.trans e1).trans p2)))) ?_
    · intro b hb
      rcases List.mem_cons.mp hb with z | z
      · rw [z]
        exact p3.ne
      · exact hid_ex ((e0.trans e1).trans p2) hL b z
    · have hi' : i < ds.length := by omega
      rw [List.take_add_one, hd1]
      simp
  have fin : ∀ Dl H2, Cmd K L H1 (fun i => (ds.take i).map g) Dl xs.length H2 → Q (.ref Dl) H2 := fun Dl H2 p => by
    obtain ⟨p1, p2, p3⟩ := p
    refine q Dl H2 (Evl.fresh_back e1 p1) (e1.trans p2) ?_
    have e : (ds.take xs.length).map g = ds.map g := by rw [hlen, List.take_length]
    rw [← e]
    exact p3
  have hL1 : Hid L H1 := hid_ex (e0.trans e1) hL
  refine ⟨a, rfl, ?_⟩
  rcases hx with x1 | x1
  · refine .inl ⟨⟨xs, Evl.ex_l (e0.trans e1) x1⟩, fun Dl hD => ?_⟩
    exact lc_it (walk_list (xs := xs)) (Cmd K L H1 (fun i => (ds.take i).map g) Dl) (cmd_0 hL1 hD rfl) (fun i H2 _ p => Evl.ex_l ((e0.trans e1).trans p.2.1) x1) (fun i x H2 H3 hi p y => turn Dl i x H2 H3 hi p y) (fun H2 p => fin Dl H2 p)
  · refine .inr ⟨⟨xs, Evl.ex_t (e0.trans e1) x1⟩, fun Dl hD => ?_⟩
    exact lc_it (walk_tup (xs := xs)) (Cmd K L H1 (fun i => (ds.take i).map g) Dl) (cmd_0 hL1 hD rfl) (fun i H2 _ p => Evl.ex_t ((e0.trans e1).trans p.2.1) x1) (fun i x H2 H3 hi p y => turn Dl i x H2 H3 hi p y) (fun H2 p => fin Dl H2 p)
/-- [.. for p, q in a list or a tuple of pairs of data] -/
theorem eg_pairs {j1 j2 : Nat} {vs : List Nat} {g : PyData → PyData} (h : Evl.Ev tl σ H (.ref a)) (hx : SqL K H a xs ∨ SqT K H a xs) (hd : DpAll K (W L H) xs ds) (hL : Hid L H) (hz : ds.length ≤ 50000)
    (h2 : ∀ d ∈ ds, ∃ d1 d2, d = .tuple [d1, d2]) (hw : ∀ x y, wipe (((wipe σ vs).set j1 (some x)).set j2 (some y)) vs = wipe σ vs)
    (he : ∀ L' (x y : V) d1 d2 H1, PyData.tuple [d1, d2] ∈ ds → Hid L' H1 → Ex H H1 → Dp K (W L' H1) x d1 → Dp K (W L' H1) y d2 → EvD K L' te (((wipe σ vs).set j1 (some x)).set j2 (some y)) H1 (g (.tuple [d1, d2]))) :
    EvG K L (tLc (iSeq K tl) (gTup K 2 (gCons (gName j1) (gCons (gName j2) gNil))) tYes te vs) σ H (ds.map g) := fun H0 e0 Q q => h H0 e0 _ fun H1 e1 => by
  have hlen := dpa_len hd
  have turn : ∀ (Dl : Addr) (i : Nat) (x : V) (H2 H3 : Hp), i < xs.length → Cmd K L H1 (fun i => (ds.take i).map g) Dl i H2 → YAt xs i H2 x H3 → gTup K 2 (gCons (gName j1) (gCons (gName j2) gNil)) x (wipe σ vs) H3 fun σ2 H2 => wipe σ2 vs = wipe σ vs ∧ tYes σ2 H2 fun b H3 =>
      if b = true then te σ2 H3 fun y H4 => ∃ acc, H4 Dl = some (.lst acc) ∧ acc.length < sizeLine ∧ Cmd K L H1 (fun i => (ds.take i).map g) Dl (i + 1) (upd H4 Dl (.lst (acc ++ [y]))) else Cmd K L H1 (fun i => (ds.take i).map g) Dl (i + 1) H3 := by
    intro Dl i x H2 H3 hi p yp
    obtain ⟨rfl, hu⟩ := yp
    obtain ⟨d, hd1, hd2⟩ := dpa_get hd hu
    obtain ⟨d1, d2, rfl⟩ := h2 d (List.mem_of_getElem? hd1)
    obtain ⟨p1, p2, p3⟩ := id p
    have hd3 := hd2.up (w_past (Evl.fresh_back (e0.trans e1) p1) ((e0.trans e1).trans p2))
    cases hd3 with
    | @tup T ys _ hT ha =>
      cases ha with
      | @cons u1 us1 _ _ r1 rr =>
        cases rr with
        | @cons u2 us2 _ _ r2 rr2 =>
          cases rr2
          refine ⟨T, [u1, u2], rfl, Evl.ex_t w_sub hT, rfl, u1, [u2], rfl, u2, [], rfl, rfl, hw u1 u2, ?_⟩
          refine yes_lc (A := fun H3 => te ((List.set (wipe σ vs) j1 (some u1)).set j2 (some u2)) H3 fun y H4 => ∃ acc, H4 Dl = some (.lst acc) ∧ acc.length < sizeLine ∧ Cmd K L H1 (fun i => (ds.take i).map g) Dl (i + 1) (upd H4 Dl (.lst (acc ++ [y])))) (B := fun H3 => Cmd K L H1 (fun i => (ds.take i).map g) Dl (i + 1) H3) ?_
          refine cmd_yes p (by simp; omega) (Ex.refl _) (he _ u1 u2 d1 d2 _ (List.mem_of_getElem? hd1) ?_ ((e0.trans e1).trans p2) r1 r2) ?_
          · intro b hb
            rcases List.mem_cons.mp hb with z | z
            · rw [z]
              exact p3.ne
            · exact hid_ex ((e0.trans e1).trans p2) hL b z
          · rw [List.take_add_one, hd1]
            simp
  have fin : ∀ Dl H2, Cmd K L H1 (fun i => (ds.take i).map g) Dl xs.length H2 → Q (.ref Dl) H2 := fun Dl H2 p => by
    obtain ⟨p1, p2, p3⟩ := p
    refine q Dl H2 (Evl.fresh_back e1 p1) (e1.trans p2) ?_
    have e : (ds.take xs.length).map g = ds.map g := by rw [hlen, List.take_length]
    rw [← e]
    exact p3
  have hL1 : Hid L H1 := hid_ex (e0.trans e1) hL
  refine ⟨a, rfl, ?_⟩
  rcases hx with x1 | x1
  · refine .inl ⟨⟨xs, Evl.ex_l (e0.trans e1) x1⟩, fun Dl hD => ?_⟩
    exact lc_it (walk_list (xs := xs)) (Cmd K L H1 (fun i => (ds.take i).map g) Dl) (cmd_0 hL1 hD rfl) (fun i H2 _ p => Evl.ex_l ((e0.trans e1).trans p.2.1) x1) (fun i x H2 H3 hi p y => turn Dl i x H2 H3 hi p y) (fun H2 p => fin Dl H2 p)
  · refine .inr ⟨⟨xs, Evl.ex_t (e0.trans e1) x1⟩, fun Dl hD => ?_⟩
    exact lc_it (walk_tup (xs := xs)) (Cmd K L H1 (fun i => (ds.take i).map g) Dl) (cmd_0 hL1 hD rfl) (fun i H2 _ p => Evl.ex_t ((e0.trans e1).trans p.2.1) x1) (fun i x H2 H3 hi p y => turn Dl i x H2 H3 hi p y) (fun H2 p => fin Dl H2 p)
/-- the items at the places that c names -/
def sel (c : Nat → Bool) (ds : List PyData) (n : Nat) : List PyData := (List.range n).flatMap fun i => if c i then (ds[i]?).toList else []
theorem sel_step {c : Nat → Bool} {n : Nat} : sel c ds (n + 1) = sel c ds n ++ (if c n then (ds[n]?).toList else []) := by
  unfold sel
  rw [List.range_succ, List.flatMap_append]
  simp
theorem sel_len {c : Nat → Bool} : ∀ n, (sel c ds n).length ≤ n
  | 0 => by simp [sel]
  | n + 1 => by
    have q := sel_len (c := c) n
    rw [sel_step, List.length_append]
    have z : (if c n = true then (ds[n]?).toList else []).length ≤ 1 := by
      split
      · cases ds[n]? <;> simp
      · simp
    omega
theorem sel_mem {c : Nat → Bool} {n : Nat} {d : PyData} (h : d ∈ sel c ds n) : d ∈ ds := by
  unfold sel at h
  obtain ⟨i, _, hi⟩ := List.mem_flatMap.mp h
  split at hi
  · exact List.mem_of_getElem? (by simpa using hi)
  · cases hi
/-- [x for i, x in enumerate(a list or a tuple of data) if c i] -/
theorem eg_enum {j1 j2 : Nat} {vs : List Nat} {c : Nat → Bool} (h : Evl.EvA ta σ H [.ref a]) (hx : SqL K H a xs ∨ SqT K H a xs) (hd : DpAll K (W L H) xs ds) (hL : Hid L H) (hz : ds.length ≤ 50000)
    (hw : ∀ x y, wipe (((wipe σ vs).set j1 (some x)).set j2 (some y)) vs = wipe σ vs)
    (ht : ∀ (x : V) (i : Nat) H1, i < ds.length → Ex H H1 → Evl.EvT tt (((wipe σ vs).set j1 (some (.int (i : Int)))).set j2 (some x)) H1 (c i)) (hn : ∀ x y, (((wipe σ vs).set j1 (some x)).set j2 (some y))[j2]? = some (some y)) :
    EvG K L (tLc (iEnumA K ta) (gTup K 2 (gCons (gName j1) (gCons (gName j2) gNil))) tt (tVar j2) vs) σ H (sel c ds ds.length) := fun H0 e0 Q q => h H0 e0 _ fun H1 e1 => by
  have hlen := dpa_len hd
  have turn : ∀ (Dl : Addr) (i : Nat) (x : V) (H2 H3 : Hp), i < xs.length → Cmd K L H1 (sel c ds) Dl i H2 → YPair (fun i => some (.int (i : Nat))) (fun i => xs[i]?) i H2 x H3 → gTup K 2 (gCons (gName j1) (gCons (gName j2) gNil)) x (wipe σ vs) H3 fun σ2 H2 => wipe σ2 vs = wipe σ vs ∧ tt σ2 H2 fun b H3 =>
      if b = true then (tVar j2) σ2 H3 fun y H4 => ∃ acc, H4 Dl = some (.lst acc) ∧ acc.length < sizeLine ∧ Cmd K L H1 (sel c ds) Dl (i + 1) (upd H4 Dl (.lst (acc ++ [y]))) else Cmd K L H1 (sel c ds) Dl (i + 1) H3 := by
    intro Dl i x H2 H3 hi p yp
    obtain ⟨T, u, w, rfl, hT, rfl, hu, hw'⟩ := yp
    have eu : u = .int (i : Int) := (Option.some.inj hu).symm
    subst eu
    have hw2 : xs[i]? = some w := hw'
    obtain ⟨d, hd1, hd2⟩ := dpa_get hd hw2
    obtain ⟨p1, p2, p3⟩ := id p
    refine ⟨T, [.int (i : Int), w], rfl, SqT.of upd_same, rfl, .int (i : Int), [w], rfl, w, [], rfl, rfl, hw _ w, ?_⟩
    have eN := ((e0.trans e1).trans p2).trans (Ex.new (o := .tup [.int (i : Int), w]) hT)
    refine ht w i _ (by omega) eN _ (Ex.refl _) _ fun H4 e4 => ?_
    have e24 : Ex H2 H4 := (Ex.new hT).trans e4
    by_cases hc : c i = true
    · rw [if_pos hc]
      refine cmd_yes (d := d) p (Nat.lt_of_le_of_lt (sel_len i) (by omega)) e24 (evd_var (hn _ w) (hd2.up (w_past (Evl.fresh_back (e0.trans e1) p1) (((e0.trans e1).trans p2).trans e24)))) ?_
      rw [sel_step, if_pos hc, hd1]
      rfl
    · rw [if_neg hc]
      refine cmd_no p e24 ?_
      rw [sel_step, if_neg hc, List.append_nil]
  have fin : ∀ Dl H2, Cmd K L H1 (sel c ds) Dl xs.length H2 → Q (.ref Dl) H2 := fun Dl H2 p => by
    obtain ⟨p1, p2, p3⟩ := p
    refine q Dl H2 (Evl.fresh_back e1 p1) (e1.trans p2) ?_
    rw [hlen] at p3
    exact p3
  have hL1 : Hid L H1 := hid_ex (e0.trans e1) hL
  refine ⟨a, xs, rfl, ?_⟩
  rcases hx with x1 | x1
  · refine .inl ⟨Evl.ex_l (e0.trans e1) x1, fun Dl hD => ?_⟩
    exact lc_it (walk_enum (xs := xs)) (Cmd K L H1 (sel c ds) Dl) (cmd_0 hL1 hD rfl) (fun i H2 _ p => Evl.ex_l ((e0.trans e1).trans p.2.1) x1) (fun i x H2 H3 hi p y => turn Dl i x H2 H3 hi p y) (fun H2 p => fin Dl H2 p)
  · refine .inr ⟨Evl.ex_t (e0.trans e1) x1, fun Dl hD => ?_⟩
    exact lc_it (walk_enumT (xs := xs)) (Cmd K L H1 (sel c ds) Dl) (cmd_0 hL1 hD rfl) (fun i H2 _ p => Evl.ex_t ((e0.trans e1).trans p.2.1) x1) (fun i x H2 H3 hi p y => turn Dl i x H2 H3 hi p y) (fun H2 p => fin Dl H2 p)
/-- tuple(a new list of data) -/
theorem evd_tupG (h : EvG K L te σ H ds) (hL : Hid L H) : EvD K L (tCB (fun xs H Q => ∃ p ys, xs = [.ref p] ∧ ((SqL K H p ys ∧ ∀ l, H l = none → Q (.ref l) (upd H l (.tup ys))) ∨ (SqT K H p ys ∧ Q (.ref p) H))) (tCons te tNil)) σ H (.tuple ds) := fun H1 e Q q =>
  h H1 e _ fun p H2 hp e2 g => by
    obtain ⟨n, ys, g1, g2⟩ := g
    refine ⟨p, ys, rfl, .inl ⟨SqL.of g1, fun r hr => ?_⟩⟩
    exact q (.ref r) _ (e2.trans (Ex.new hr)) (.tup (SqT.of (w_new (hid_ex (e.trans e2) hL) hr)) ((g2.up w_cons).up (w_ex (Ex.new hr))))
/-- tuple(x) of data that are a list or a tuple -/
theorem evd_tupD {x : V} (h : Evl.Ev te σ H x) (hd : Dp K (W L H) x (.list ds) ∨ Dp K (W L H) x (.tuple ds)) (hL : Hid L H) : EvD K L (tCB (fun xs H Q => ∃ p ys, xs = [.ref p] ∧ ((SqL K H p ys ∧ ∀ l, H l = none → Q (.ref l) (upd H l (.tup ys))) ∨ (SqT K H p ys ∧ Q (.ref p) H))) (tCons te tNil)) σ H (.tuple ds) := fun H1 e Q q =>
  h H1 e _ fun H2 e2 => by
    rcases hd with hd | hd
    · cases hd with
      | @lst p ys _ hs ha =>
        refine ⟨p, ys, rfl, .inl ⟨Evl.ex_l (w_sub.trans (e.trans e2)) hs, fun r hr => ?_⟩⟩
        exact q (.ref r) _ (e2.trans (Ex.new hr)) (.tup (SqT.of (w_new (hid_ex (e.trans e2) hL) hr)) (ha.up (w_ex ((e.trans e2).trans (Ex.new hr)))))
    · have hd' := hd
      cases hd with
      | @tup p ys _ hs ha =>
        exact ⟨p, ys, rfl, .inr ⟨Evl.ex_t (w_sub.trans (e.trans e2)) hs, q (.ref p) H2 e2 (hd'.up (w_ex (e.trans e2)))⟩⟩
/-- list(x) of data that are a list or a tuple -/
theorem eg_list {x : V} (h : Evl.Ev te σ H x) (hd : Dp K (W L H) x (.list ds) ∨ Dp K (W L H) x (.tuple ds)) (hL : Hid L H) : EvG K L (tCB (fun xs H Q => ∃ p ys, xs = [.ref p] ∧ (SqL K H p ys ∨ SqT K H p ys) ∧ ∀ l, H l = none → Q (.ref l) (upd H l (.lst ys))) (tCons te tNil)) σ H ds := fun H1 e Q q =>
  h H1 e _ fun H2 e2 => by
    rcases hd with hd | hd
    · cases hd with
      | @lst p ys _ hs ha =>
        refine ⟨p, ys, rfl, .inl (Evl.ex_l (w_sub.trans (e.trans e2)) hs), fun r hr => ?_⟩
        exact q r _ (Evl.fresh_back e2 hr) (e2.trans (Ex.new hr)) (gr_new (hid_ex (e.trans e2) hL) hr (ha.up (w_ex (e.trans e2))))
    · cases hd with
      | @tup p ys _ hs ha =>
        refine ⟨p, ys, rfl, .inr (Evl.ex_t (w_sub.trans (e.trans e2)) hs), fun r hr => ?_⟩
        exact q r _ (Evl.fresh_back e2 hr) (e2.trans (Ex.new hr)) (gr_new (hid_ex (e.trans e2) hL) hr (ha.up (w_ex (e.trans e2))))
end
end U

set_option Elab.async false
set_option linter.all false
set_option maxRecDepth 100000
set_option maxHeartbeats 4000000
namespace U
open PySem PySem.Spec PyProof.Rows L2
open Evl (Ex)
/-! ### own +, raise X(), a class of two at once -/
/-- one + other of two instances of the class at C, by what its own method promises: a reference -/
def tOwn (C : Addr) (sp : Sp) (E : L2.St → XK) (ta tb : TE) : TE := fun σ H Q => ta σ H fun x H1 => tb σ H1 fun y H2 => ∃ a b dx dy fs gs, x = .ref a ∧ y = .ref b ∧ H2 a = some (.ins C dx fs) ∧ H2 b = some (.ins C dy gs) ∧
  sp [.ref a, .ref b] H2 (fun v H' => ∃ r, v = .ref r ∧ Q (.ref r) H') (E σ)
section
variable {X : Cx} {CX : CXT} {n : Nat} {f C : Addr} {fd : FuncData} {ps : List Str} {sp : Sp} {E : L2.St → XK} {a b : Expr} {ta tb : TE} {pos : Pos} {op : Operator}
theorem pe_own (F : FnOk X.prog X.w X.K X.mg X.base CX n f fd ps sp) (hr : Room n X.A) (hs : PySem.W.findIn X.K (.ref C) (PySem.dunder op.info.2) = some (some (.ref f))) (hf : PySem.W.isFn X.K (.ref f) = true) (hc : PySem.W.selfFirst X.K C = true)
    (hb : Binds X.K fd ps []) (hx : ∀ σ, PassesAt CX X σ (E σ)) (ha : PE X a ta) (hb2 : PE X b tb) : PE X (.BinOp a op b pos) (tOwn C sp E ta tb) := by
  refine ⟨fun pins s σ H Q I h => wpAny_BinOp (binT (R := fun x y H2 => ∃ a b dx dy fs gs, x = .ref a ∧ y = .ref b ∧ H2 a = some (.ins C dx fs) ∧ H2 b = some (.ins C dy gs) ∧ sp [.ref a, .ref b] H2 (fun v H' => ∃ r, v = .ref r ∧ Q (.ref r) H') (E σ)) ha hb2 I h fun v u s2 x y H2 I2 rx ry q => ?_)⟩
  obtain ⟨p, r, dx, dy, fs, gs, rfl, rfl, hp, hr2, hsp⟩ := q
  cases rx
  cases ry
  obtain ⟨mA, J, _⟩ := ins_get I2.hok hp
  obtain ⟨mB, J', _⟩ := ins_get I2.hok hr2
  obtain ⟨od, J, _⟩ := J.look
  obtain ⟨od', J', _⟩ := J'.look
  obtain ⟨m, hF⟩ := I2.fr
  refine PySem.W.binop_K (C := C) hF I2.ok.mod.kin J J'.type hc hs hf ?_
  have r2 : Vals [V.ref p, V.ref r] [Value.ref p, Value.ref r] := .cons rfl (.cons rfl .nil)
  refine wpAny_mono (run_fnS F hr hb (hx σ) I2 r2 hsp) (fun r s' z => ?_) fun _ _ x => x
  obtain ⟨v, H', I', rv, t, rfl, q⟩ := z
  cases rv
  exact ⟨V.ref t, H', I', rfl, q⟩
/-- X() of an own class of errors without __init__ -/
theorem pmk_own0 {bmB : List Value} {B newId initId : String} {x : Str} {p : Pos} (F : ExcBaseFacts B newId initId bmB) (q : PySem.W.excIn X.K C bmB newId = true) (gC : X.mg x = some (.ref C)) (kC : PySem.W.keepIn X.K (.ref C) = true) (r : Raises X (.ref C)) (hg : Gl X x)
    (hdb : (x == ("__debug__" : Str)) = false := by decide) : PMk X (.Call (.Name x p) [] [] pos) (fun _ H Q => Q (.ref C) none H) := by
  intro pins s σ H Q I h
  refine wpAny_Call_Name_kw (ld_glob I hg gC ?_ hdb)
  refine PySem.W.callWith_K0 I.kIn kC ?_
  show wpAny _ _ (call (.ref C) []) _ _ _
  obtain ⟨bm, N, nm, qn, bs, hdct, sn, sub, ab, col, dd, k0, k1, k2, k3, k5, mN, hC, hN, hni, T⟩ := exc_obj I.kIn q
  refine wpAny_call_exc_subT F T hC hN hni (fun h' e hm => ?_) (by show 0 ≤ sizeLine; exact Nat.zero_le _)
  exact mk_of I hm r h (I.hok.gone hm.new)
/-- x[i] of a list or a tuple -/
def rIxA (K : PySem.W.Frag) : R2 := fun x y H Q => rIxL K x y H Q ∨ rIxT K x y H Q
theorem ix_seq : IxR X (rIxA X.K) := IxR.or ix_list ix_tup
end
section
variable {K : PySem.W.Frag} {σ : L2.St} {H : Hp} {te ta tb tc : TE} {x y z : V} {r r' : R2} {a : Addr} {xs : List V} {v : V} {i : Int}
theorem ev_ixA (h : Evl.Ev te σ H (.ref a)) (hx : SqL K H a xs ∨ SqT K H a xs) (hv : atI xs i = some v) : Evl.Ev (tOp (rIxA K) te (tC (.int i))) σ H v := fun H1 e Q q =>
  h H1 e _ fun H2 e2 => by
    show rIxA K (.ref a) (.int i) H2 Q
    rcases hx with hx | hx
    · exact .inl ⟨a, xs, i, v, rfl, rfl, Evl.ex_l (e.trans e2) hx, hv, q H2 e2⟩
    · exact .inr ⟨a, xs, i, v, rfl, rfl, Evl.ex_t (e.trans e2) hx, hv, q H2 e2⟩
/-- a op b op c -/
theorem ev_chain {k l : Bool} (ha : Evl.Ev ta σ H x) (hb : Evl.Ev tb σ H y) (hr : Evl.RV r x y H (.bl k)) (hc : k = true → Evl.Ev tc σ H z) (hr2 : k = true → Evl.RV r' y z H (.bl l)) (hl : k = false → l = false) : Evl.Ev (tChain r r' ta tb tc) σ H (.bl l) := fun H1 e1 Q q =>
  ha H1 e1 _ fun H2 e2 => hb H2 (e1.trans e2) _ fun H3 e3 => hr H3 ((e1.trans e2).trans e3) _ fun H4 e4 => ⟨k, rfl, by
    cases k with
    | true =>
      rw [if_pos rfl]
      exact hc rfl H4 (((e1.trans e2).trans e3).trans e4) _ fun H5 e5 => hr2 rfl H5 ((((e1.trans e2).trans e3).trans e4).trans e5) Q fun H6 e6 => q H6 (((e2.trans e3).trans e4).trans (e5.trans e6))
    | false =>
      rw [if_neg (by simp)]
      rw [hl rfl] at q
      exact q H4 ((e2.trans e3).trans e4)⟩
/-- [True or False for x in a list or a tuple of data] -/
theorem el_seqB {tl : TE} {ds : List PyData} {f : PyData → Bool} {j : Nat} {vs : List Nat} (h : Evl.Ev tl σ H (.ref a)) (hx : SqL K H a xs ∨ SqT K H a xs) (hd : DpAll K H xs ds) (hz : ds.length ≤ 40000) (hw : ∀ x, wipe ((wipe σ vs).set j (some x)) vs = wipe σ vs)
    (he : ∀ (x : V) d H1, d ∈ ds → Ex H H1 → Dp K H1 x d → Evl.Ev te ((wipe σ vs).set j (some x)) H1 (.bl (f d))) : Evl.EvL (tLc (iSeq K tl) (gName j) tYes te vs) σ H ((ds.map f).map V.bl) := fun H0 e0 Q q => h H0 e0 _ fun H1 e1 => by
  have hlen := dpa_len hd
  let w : Nat → V := fun i => .bl (f (ds.getD i .none))
  have turn : ∀ (Dl : Addr) (i : Nat) (x : V) (H2 H3 : Hp), i < xs.length → Cm H1 w Dl i H2 → YAt xs i H2 x H3 → gName j x (wipe σ vs) H3 fun σ2 H2 => wipe σ2 vs = wipe σ vs ∧ tYes σ2 H2 fun b H3 =>
      if b = true then te σ2 H3 fun y H4 => ∃ acc, H4 Dl = some (.lst acc) ∧ acc.length < sizeLine ∧ Cm H1 w Dl (i + 1) (upd H4 Dl (.lst (acc ++ [y]))) else Cm H1 w Dl (i + 1) H3 := by
    intro Dl i x H2 H3 hi p yp
    obtain ⟨rfl, hu⟩ := yp
    obtain ⟨d, hd1, hd2⟩ := dpa_get hd hu
    refine ⟨hw x, ?_⟩
    refine yes_lc (A := fun H3 => te ((wipe σ vs).set j (some x)) H3 fun y H4 => ∃ acc, H4 Dl = some (.lst acc) ∧ acc.length < sizeLine ∧ Cm H1 w Dl (i + 1) (upd H4 Dl (.lst (acc ++ [y])))) (B := fun H3 => Cm H1 w Dl (i + 1) H3) ?_
    have ew : w i = .bl (f d) := by
      show V.bl (f (ds.getD i .none)) = _
      rw [List.getD_eq_getElem?_getD, hd1]
      rfl
    refine cm_turn p (by omega) _ (Ex.refl _) ?_
    rw [ew]
    exact he x d _ (List.mem_of_getElem? hd1) (e0.trans e1) (hd2.up (e0.trans e1))
  have fin : ∀ Dl H2, Cm H1 w Dl xs.length H2 → Q (.ref Dl) H2 := fun Dl H2 p => by
    refine q Dl H2 (Evl.fresh_back e1 p.1) (e1.trans p.2.1) ?_
    rw [p.2.2, hlen]
    congr 2
    apply List.ext_getElem
    · simp
    · intro i h1 h2
      have h3 : i < ds.length := by simpa using h1
      simp [w, h3]
  refine ⟨a, rfl, ?_⟩
  rcases hx with x1 | x1
  · refine .inl ⟨⟨xs, Evl.ex_l (e0.trans e1) x1⟩, fun Dl hD => ?_⟩
    exact lc_it (walk_list (xs := xs)) (Cm H1 w Dl) (cm_0 hD) (fun i H2 _ p => Evl.ex_l ((e0.trans e1).trans p.2.1) x1) (fun i x H2 H3 hi p y => turn Dl i x H2 H3 hi p y) (fun H2 p => fin Dl H2 p)
  · refine .inr ⟨⟨xs, Evl.ex_t (e0.trans e1) x1⟩, fun Dl hD => ?_⟩
    exact lc_it (walk_tup (xs := xs)) (Cm H1 w Dl) (cm_0 hD) (fun i H2 _ p => Evl.ex_t ((e0.trans e1).trans p.2.1) x1) (fun i x H2 H3 hi p y => turn Dl i x H2 H3 hi p y) (fun H2 p => fin Dl H2 p)
theorem el_seqBq {tl : TE} {ds : List PyData} {f : PyData → Bool} {j : Nat} {vs : List Nat} (h : Evl.Ev tl σ H (.ref a)) (hx : SqL K H a xs ∨ SqT K H a xs) (hd : DqAll K H xs ds) (hz : ds.length ≤ 40000) (hw : ∀ x, wipe ((wipe σ vs).set j (some x)) vs = wipe σ vs)
    (he : ∀ (x : V) d H1, d ∈ ds → Ex H H1 → Dq K H1 x d → Evl.Ev te ((wipe σ vs).set j (some x)) H1 (.bl (f d))) : Evl.EvL (tLc (iSeq K tl) (gName j) tYes te vs) σ H ((ds.map f).map V.bl) := fun H0 e0 Q q => h H0 e0 _ fun H1 e1 => by
  have hlen := dqa_len hd
  let w : Nat → V := fun i => .bl (f (ds.getD i .none))
  have turn : ∀ (Dl : Addr) (i : Nat) (x : V) (H2 H3 : Hp), i < xs.length → Cm H1 w Dl i H2 → YAt xs i H2 x H3 → gName j x (wipe σ vs) H3 fun σ2 H2 => wipe σ2 vs = wipe σ vs ∧ tYes σ2 H2 fun b H3 =>
      if b = true then te σ2 H3 fun y H4 => ∃ acc, H4 Dl = some (.lst acc) ∧ acc.length < sizeLine ∧ Cm H1 w Dl (i + 1) (upd H4 Dl (.lst (acc ++ [y]))) else Cm H1 w Dl (i + 1) H3 := by
    intro Dl i x H2 H3 hi p yp
    obtain ⟨rfl, hu⟩ := yp
    obtain ⟨d, hd1, hd2⟩ := dqa_get hd hu
    refine ⟨hw x, ?_⟩
    refine yes_lc (A := fun H3 => te ((wipe σ vs).set j (some x)) H3 fun y H4 => ∃ acc, H4 Dl = some (.lst acc) ∧ acc.length < sizeLine ∧ Cm H1 w Dl (i + 1) (upd H4 Dl (.lst (acc ++ [y])))) (B := fun H3 => Cm H1 w Dl (i + 1) H3) ?_
    have ew : w i = .bl (f d) := by
      show V.bl (f (ds.getD i .none)) = _
      rw [List.getD_eq_getElem?_getD, hd1]
      rfl
    refine cm_turn p (by omega) _ (Ex.refl _) ?_
    rw [ew]
    exact he x d _ (List.mem_of_getElem? hd1) (e0.trans e1) (hd2.up (e0.trans e1))
  have fin : ∀ Dl H2, Cm H1 w Dl xs.length H2 → Q (.ref Dl) H2 := fun Dl H2 p => by
    refine q Dl H2 (Evl.fresh_back e1 p.1) (e1.trans p.2.1) ?_
    rw [p.2.2, hlen]
    congr 2
    apply List.ext_getElem
    · simp
    · intro i h1 h2
      have h3 : i < ds.length := by simpa using h1
      simp [w, h3]
  refine ⟨a, rfl, ?_⟩
  rcases hx with x1 | x1
  · refine .inl ⟨⟨xs, Evl.ex_l (e0.trans e1) x1⟩, fun Dl hD => ?_⟩
    exact lc_it (walk_list (xs := xs)) (Cm H1 w Dl) (cm_0 hD) (fun i H2 _ p => Evl.ex_l ((e0.trans e1).trans p.2.1) x1) (fun i x H2 H3 hi p y => turn Dl i x H2 H3 hi p y) (fun H2 p => fin Dl H2 p)
  · refine .inr ⟨⟨xs, Evl.ex_t (e0.trans e1) x1⟩, fun Dl hD => ?_⟩
    exact lc_it (walk_tup (xs := xs)) (Cm H1 w Dl) (cm_0 hD) (fun i H2 _ p => Evl.ex_t ((e0.trans e1).trans p.2.1) x1) (fun i x H2 H3 hi p y => turn Dl i x H2 H3 hi p y) (fun H2 p => fin Dl H2 p)
theorem fits_len {ds : List PyData} (h : (∃ n, fits n (.list ds)) ∨ ∃ n, fits n (.tuple ds)) : ds.length ≤ 40000 := by
  rcases h with ⟨n, h⟩ | ⟨n, h⟩ <;>
  · cases n with
    | zero => exact h.elim
    | succ n => exact h.1
theorem fits_in {ds : List PyData} {d : PyData} (h : (∃ n, fits n (.list ds)) ∨ ∃ n, fits n (.tuple ds)) (hd : d ∈ ds) : ∃ n, fits n d := by
  rcases h with ⟨n, h⟩ | ⟨n, h⟩ <;>
  · cases n with
    | zero => exact h.elim
    | succ n => exact ⟨n, h.2 d hd⟩
/-- a field of an instance -/
theorem ev_fld {C dx : Addr} {fs : List (Str × V)} {f : Str} (h : Evl.Ev te σ H (.ref a)) (ha : H a = some (.ins C dx fs)) (c : Cls K C) (n : NoAttr K C f) (hv : fs.lookup f = some v) : Evl.Ev (tFld K te f) σ H v := fun H1 e Q q =>
  h H1 e _ fun H2 e2 => ⟨a, C, dx, fs, v, rfl, (e.trans e2) a _ ha, c, n, hv, q H2 e2⟩
end
end U

set_option Elab.async false
set_option linter.all false
set_option maxRecDepth 100000
set_option maxHeartbeats 4000000
/-! operators of two own classes, ~ of an own one, one rule of several -/
namespace UO
open PySem PySem.W PySem.Calls PyProof.Rows
section
variable {prog : Program} {w : World} {A : Around} {E : Value → Shared → Prop} {s : Shared} {K : Frag} {x C1 C2 L f g : Addr} {h₀ : Heap} {m : Str → Option Value} {ox : Obj} {od : Option Obj} {op : Operator} {b : Value} {Q : Value → Shared → Prop}
theorem binop2 (F : Fr h₀ L s.heap m) (X₀ : K.In h₀) (I : InstAt s.heap x ox C1 od) (hb : Looks (model prog w) s.heap (typeOf b) (.ref C2)) (ne : C1 ≠ C2) (c1 : selfFirst K C1 = true) (c2 : selfFirst K C2 = true)
    (s1 : findIn K (.ref C1) (PySem.dunder op.info.2) = some (some (.ref f))) (f1 : isFn K (.ref f) = true) (s2 : findIn K (.ref C2) (PySem.dunder op.info.2) = some (some (.ref g))) (r1 : findIn K (.ref C1) (dunderR op.info.2) = some none) (r2 : findIn K (.ref C2) (dunderR op.info.2) = some none)
    (hsub : subIn K (.ref C2) (.ref C1) = some false) (h : wpAny (model prog w) A (call (.ref f) [.ref x, b]) (PySem.W.CmpBack Q) E s) : wpAny (model prog w) A (binaryOp op (.ref x) b) Q E s := by
  have X := X₀.keeps F.keep
  obtain ⟨d1, t1, e1, m1⟩ := ksp_first c1
  obtain ⟨d2, t2, e2, m2⟩ := ksp_first c2
  rcases hi : op.info with ⟨sym, nm⟩
  rw [hi] at s1 s2 r1 r2
  dsimp only at s1 s2 r1 r2
  have one := ksp_try X I s1 f1 h
  obtain ⟨hh, g1, d, tt, os⟩ := s
  have T1 : Looks (model prog w) hh (typeOf (.ref x)) (.ref C1) := I.type
  have T2 : Looks (model prog w) hh (typeOf b) (.ref C2) := hb
  have N1 : Looks (model prog w) hh (fillsNumberSlot (.ref C1) nm) true := fills_K X e1 m1 s1
  have N2 : Looks (model prog w) hh (fillsNumberSlot (.ref C2) nm) true := fills_K X e2 m2 s2
  have S1 : Looks (model prog w) hh (isSubtype (.ref C2) (.ref C1)) false := looks_subIn X hsub
  have P1 : Looks (model prog w) hh (numberSlotInPython (.ref C1) nm) true := ksp_inPy X s1 r1 (.inl rfl)
  have P2 : Looks (model prog w) hh (numberSlotInPython (.ref C2) nm) true := ksp_inPy X s2 r2 (.inl rfl)
  have hne : (Value.ref C1 == Value.ref C2) = false := Bool.eq_false_iff.mpr fun q => ne (by cases beq_iff_eq.mp q; rfl)
  simp only [binaryOp, hi]
  refine wpAny_holding (wpAny_bind ?_)
  unfold binaryOp1
  refine wpAny_bind (T1.at (wpAny_bind (T2.at (wpAny_bind (N1.at ?_)))))
  simp only [hne, Bool.false_eq_true, if_false]
  ksp_lk
  refine wpAny_mono one (fun r s' hr' => ?_) fun _ _ e => e
  obtain ⟨v, rfl, hq⟩ := hr'
  ksp_lk
  exact hq
end
end UO
namespace U
open PySem PySem.Spec PyProof.Rows L2
open Evl (Ex)
section
variable {X : Cx} {e a b : Expr} {ta tb : TE} {n : Nat} {pos : Pos} {op : Operator} {sp : Sp} {C C1 C2 f g : Addr} {fd : FuncData} {ps : List Str}
/-- one of several readings -/
def tAny {ι : Type} (P : ι → Prop) (t : ι → TE) : TE := fun σ H Q => ∃ i, P i ∧ t i σ H Q
theorem pe_any {ι : Type} {P : ι → Prop} {t : ι → TE} (h : ∀ i, P i → PE X e (t i)) : PE X e (tAny P t) := ⟨fun pins s σ H Q I ⟨i, hi, q⟩ => (h i hi).run pins s σ H Q I q⟩
/-- one op other of instances of two classes -/
def tOwn2 (C1 C2 : Addr) (sp : Sp) (ta tb : TE) : TE := fun σ H Q => ta σ H fun x H1 => tb σ H1 fun y H2 => ∃ a b dx dy fs gs, x = .ref a ∧ y = .ref b ∧ H2 a = some (.ins C1 dx fs) ∧ H2 b = some (.ins C2 dy gs) ∧
  sp [.ref a, .ref b] H2 (fun v H' => ∃ r, v = .ref r ∧ Q (.ref r) H') E0
structure OpC (K : PySem.W.Frag) (C : Addr) (nm : Str) (nr : Str) (f : Addr) : Prop where
  sf : PySem.W.selfFirst K C = true
  hs : PySem.W.findIn K (.ref C) nm = some (some (.ref f))
  hf : PySem.W.isFn K (.ref f) = true
  hr : PySem.W.findIn K (.ref C) nr = some none
theorem pe_own2 (F : FnOk X.prog X.w X.K X.mg X.base CX0 n f fd ps sp) (hr : Room n X.A) (o1 : OpC X.K C1 (PySem.dunder op.info.2) (dunderR op.info.2) f) (o2 : OpC X.K C2 (PySem.dunder op.info.2) (dunderR op.info.2) g) (hsub : C1 = C2 ∨ PySem.W.subIn X.K (.ref C2) (.ref C1) = some false)
    (hb : Binds X.K fd ps []) (ha : PE X a ta) (hb2 : PE X b tb) : PE X (.BinOp a op b pos) (tOwn2 C1 C2 sp ta tb) := by
  refine ⟨fun pins s σ H Q I h => wpAny_BinOp (binT (R := fun x y H2 => ∃ a b dx dy fs gs, x = .ref a ∧ y = .ref b ∧ H2 a = some (.ins C1 dx fs) ∧ H2 b = some (.ins C2 dy gs) ∧ sp [.ref a, .ref b] H2 (fun v H' => ∃ r, v = .ref r ∧ Q (.ref r) H') E0) ha hb2 I h fun v u s2 x y H2 I2 rx ry q => ?_)⟩
  obtain ⟨p, r, dx, dy, fs, gs, rfl, rfl, hp, hr2, hsp⟩ := q
  cases rx
  cases ry
  obtain ⟨mA, J, _⟩ := ins_get I2.hok hp
  obtain ⟨mB, J', _⟩ := ins_get I2.hok hr2
  obtain ⟨od, J, _⟩ := J.look
  obtain ⟨od', J', _⟩ := J'.look
  obtain ⟨m, hF⟩ := I2.fr
  have r2 : Vals [V.ref p, V.ref r] [Value.ref p, Value.ref r] := .cons rfl (.cons rfl .nil)
  have run : wpAny (model X.prog X.w) X.A (call (.ref f) [Value.ref p, .ref r]) (PySem.W.CmpBack (EP X pins σ Q)) X.xe s2 := by
    refine wpAny_mono (run_fn F hr hb .nil pass0 I2 r2 hsp) (fun r s' z => ?_) fun _ _ x => x
    obtain ⟨v, H', I', rv, t, rfl, q⟩ := z
    cases rv
    exact ⟨V.ref t, H', I', rfl, q⟩
  by_cases e : C1 = C2
  · subst e
    exact PySem.W.binop_K (C := C1) hF I2.ok.mod.kin J J'.type o1.sf o1.hs o1.hf run
  · exact UO.binop2 hF I2.ok.mod.kin J J'.type e o1.sf o2.sf o1.hs o1.hf o2.hs o1.hr o2.hr (hsub.resolve_left e) run
/-- ~x of an instance -/
def tInv (C : Addr) (sp : Sp) (ta : TE) : TE := fun σ H Q => ta σ H fun x H1 => ∃ a dx fs, x = .ref a ∧ H1 a = some (.ins C dx fs) ∧ sp [.ref a] H1 Q E0
theorem pe_inv (F : FnOk X.prog X.w X.K X.mg X.base CX0 n f fd ps sp) (hr : Room n X.A) (hs : PySem.W.findIn X.K (.ref C) "__invert__" = some (some (.ref f))) (hf : PySem.W.isFn X.K (.ref f) = true) (hb : Binds X.K fd ps []) (ha : PE X a ta) : PE X (.UnaryOp .Invert a pos) (tInv C sp ta) := by
  refine ⟨fun pins s σ H Q I h => ?_⟩
  refine wpAny_UnaryOp (thn (ha.run pins s σ H _ I h) fun v s1 ⟨x, H1, I1, r1, q1⟩ => ?_)
  obtain ⟨p, dx, fs, rfl, hp, hsp⟩ := q1
  cases r1
  obtain ⟨mA, J, _⟩ := ins_get I1.hok hp
  obtain ⟨od, J, _⟩ := J.look
  obtain ⟨m, hF⟩ := I1.fr
  refine PySem.W.ksp_inv hF I1.ok.mod.kin J hs hf ?_
  exact run_fn F hr hb .nil pass0 I1 (show Vals [V.ref p] [Value.ref p] from .cons rfl .nil) hsp
end
end U

set_option Elab.async false
set_option linter.all false
set_option maxRecDepth 100000
set_option maxHeartbeats 4000000
namespace U
open PySem L2
open Evl (Ex)
def top (i : Nat) : Stmt := PySem.Challenge.pw_toldenough_k05_kinds_made.main.body.getD i (.Pass ⟨0, 0, 0, 0⟩)
abbrev s_source : Stmt := top 22
abbrev sc_source_N : List Str := ["_law_script", "_law_at", "_law_cell"]
theorem sc_source : FnScope sc_source_N ["_law_script", "_law_at"] (defScope s_source) := ⟨rfl, rfl, rfl, by decide +kernel, rfl, by decide +kernel, by decide +kernel⟩
abbrev s_draw : Stmt := top 23
abbrev sc_draw_N : List Str := ["_law_draws", "_law_many", "_law_digit", "_law_seed"]
theorem sc_draw : FnScope sc_draw_N ["_law_draws", "_law_many"] (defScope s_draw) := ⟨rfl, rfl, rfl, by decide +kernel, rfl, by decide +kernel, by decide +kernel⟩
abbrev s_pick : Stmt := top 24
abbrev sc_pick_N : List Str := ["_law_draws", "_law_things"]
theorem sc_pick : FnScope sc_pick_N ["_law_draws", "_law_things"] (defScope s_pick) := ⟨rfl, rfl, rfl, by decide +kernel, rfl, by decide +kernel, by decide +kernel⟩
abbrev s_same : Stmt := top 25
abbrev sc_same_N : List Str := ["_law_found", "_law_due", "_law_left", "_law_right"]
theorem sc_same : FnScope sc_same_N ["_law_found", "_law_due"] (defScope s_same) := ⟨rfl, rfl, rfl, by decide +kernel, rfl, by decide +kernel, by decide +kernel⟩
structure TxB (mg : Str → Option Value) : Prop where
  m_len : mg "len" = none
  m_int : mg "int" = none
  m_isinstance : mg "isinstance" = none
  m_list : mg "list" = none
  m_tuple : mg "tuple" = none
  m_bool : mg "bool" = none
  m_all : mg "all" = none
  m_zip : mg "zip" = none
section
variable {P : Program} {w : World} {K : PySem.W.Frag} {mg : Str → Option Value} {base : Heap}
theorem ok_source {f : Addr} {fd : FuncData} (F : Fun K "_law_source" "_law_source" s_source f fd) (T : TxB mg) : FnOk P w K mg base CX0 1 f fd ["_law_script", "_law_at"] (spSource K) := by
  refine F.ok sc_source (fun vs H Q E h => ?_) (fun cdv A outer s H vs Q E hr h => ?_)
  · obtain ⟨_, _, _, rfl, _⟩ := h
    rfl
  · obtain ⟨sa, ns, i, rfl, hS, hl, hi, k⟩ := h
    refine ⟨_, (pss_cons (ps_set (i := 2) sc_source.nd rfl (by first | exact Or.inl rfl | exact Or.inr rfl) (pe_ifExp (pt_cmpR op_lt (pv 1) (pe_callB call_len_seq (by rfl) T.m_len (by decide +kernel) (pa_cons (pv 0) pa_nil)) (nomark _)) (pe_ix ix_list (pv 0) (pv 1) (fun _ _ => rfl)) (pe_op op_add (pe_op op_mul pe_int (pv 1)) pe_int)))
    (pss_one (ps_ret (pe_lst (pa_cons (pe_ifExp (pt_cmpR op_ge (pv 2) (pe_op op_pow pe_int pe_int) (nomark _)) (pv 2) pe_int) (pa_cons (pe_op op_add (pe_op op_mod (pe_callTy call_int1 (by rfl) T.m_int (by decide +kernel) (pa_cons (pv 2) pa_nil)) pe_int) (pe_op op_mul pe_int (pv 1))) (pa_cons pe_int pa_nil))))))), ?_⟩
    have hlen : (ns.map V.int).length = ns.length := List.length_map ..
    have fin : ∀ (c : Int), ∀ l : Addr, H l = none → Q (.ref l) (upd H l (.lst [.int (if c ≥ 10 ^ 18 then c else 0), .int (c % 2147483647 + 131 * (i : Int)), .int 0])) := fun c l hn => by
      refine k l _ hn ⟨_, _, _, upd_same, ?_, ?_, ?_, by decide, by decide⟩
      · by_cases hc : c ≥ 10 ^ 18
        · rw [if_pos hc]
          omega
        · rw [if_neg hc]
          decide
      · omega
      · omega
    refine ⟨_, rfl, _, rfl, sa, _, rfl, .inl hS, _, _, rfl, rfl, _, rfl, ?_⟩
    refine ite2 (fun hc => ?_) (fun hc => ?_)
    · have hc' : i < ns.length := by
        have q := of_decide_eq_true hc
        rw [hlen] at q
        omega
      refine ⟨_, rfl, _, rfl, sa, _, _, .int ns[i], rfl, rfl, hS, atI_nat (by rw [List.getElem?_map, List.getElem?_eq_getElem hc']; rfl), ?_⟩
      have g := fin (ns[i])
      generalize ns[i] = c at g ⊢
      refine ⟨_, rfl, _, _, rfl, rfl, ⟨by decide, by decide, by decide⟩, _, _, rfl, rfl, _, rfl, ?_⟩
      refine ite2 (fun hc => ?_) (fun hc => ?_)
      · have hc' : c ≥ 10 ^ 18 := of_decide_eq_true hc
        rw [if_pos hc'] at g
        refine ⟨_, rfl, _, rfl, .inl ⟨_, rfl, _, _, rfl, rfl, (by show (0 : Int) < _; decide), _, rfl, _, _, rfl, rfl, .inl ⟨by decide, by decide⟩, _, _, rfl, rfl, by show 3 ≤ sizeLine; decide, fun l hn => ?_⟩⟩
        exact g l hn
      · have hc' : ¬ c ≥ 10 ^ 18 := fun q => hc (decide_eq_true q)
        rw [if_neg hc'] at g
        refine ⟨_, rfl, .inl ⟨_, rfl, _, _, rfl, rfl, (by show (0 : Int) < _; decide), _, rfl, _, _, rfl, rfl, .inl ⟨by decide, by decide⟩, _, _, rfl, rfl, by show 3 ≤ sizeLine; decide, fun l hn => ?_⟩⟩
        exact g l hn
    · have g := fin (11 * (i : Int) + 3)
      refine ⟨_, rfl, _, _, rfl, rfl, .inl ⟨by decide, by decide⟩, _, _, rfl, rfl, ?_⟩
      refine ⟨_, rfl, _, _, rfl, rfl, ⟨by decide, by decide, by decide⟩, _, _, rfl, rfl, _, rfl, ?_⟩
      refine ite2 (fun hc => ?_) (fun hc => ?_)
      · have hc' : 11 * (i : Int) + 3 ≥ 10 ^ 18 := of_decide_eq_true hc
        rw [if_pos hc'] at g
        refine ⟨_, rfl, _, rfl, .inl ⟨_, rfl, _, _, rfl, rfl, (by show (0 : Int) < _; decide), _, rfl, _, _, rfl, rfl, .inl ⟨by decide, by decide⟩, _, _, rfl, rfl, by show 3 ≤ sizeLine; decide, fun l hn => ?_⟩⟩
        exact g l hn
      · have hc' : ¬ 11 * (i : Int) + 3 ≥ 10 ^ 18 := fun q => hc (decide_eq_true q)
        rw [if_neg hc'] at g
        refine ⟨_, rfl, .inl ⟨_, rfl, _, _, rfl, rfl, (by show (0 : Int) < _; decide), _, rfl, _, _, rfl, rfl, .inl ⟨by decide, by decide⟩, _, _, rfl, rfl, by show 3 ≤ sizeLine; decide, fun l hn => ?_⟩⟩
        exact g l hn
theorem ok_draw {f : Addr} {fd : FuncData} (F : Fun K "_law_draw" "_law_draw" s_draw f fd) (T : TxB mg) : FnOk P w K mg base CX0 1 f fd ["_law_draws", "_law_many"] spDraw := by
  refine F.ok sc_draw (fun vs H Q E h => ?_) (fun cdv A outer s H vs Q E hr h => ?_)
  · obtain ⟨_, _, _, rfl, _⟩ := h
    rfl
  · obtain ⟨l, many, n, rfl, ⟨x, y, z, hl, x0, y0, y1, z0, z1⟩, hn, m0, m1, k⟩ := h
    refine ⟨_, (pss_cons (ps_if (pt_cmpR op_gt (pe_ix ix_list (pv 0) pe_int (fun _ _ => rfl)) pe_int (nomark _)) (pss_cons (ps_set (i := 2) sc_draw.nd rfl (by first | exact Or.inl rfl | exact Or.inr rfl) (pe_op op_mod (pe_callTy call_int1 (by rfl) T.m_int (by decide +kernel) (pa_cons (pe_ix ix_list (pv 0) pe_int (fun _ _ => rfl)) pa_nil)) (pv 1)))
      (pss_cons (ps_asg (pe_op op_fdivN (pe_ix ix_list (pv 0) pe_int (fun _ _ => rfl)) (pv 1)) (pg_sub (pv 0) pe_int set_list))
      (pss_one (ps_ret (pv 2))))) pss_nil)
    (pss_cons (ps_asg (pe_op op_add (pe_ix ix_list (pv 0) pe_int (fun _ _ => rfl)) pe_int) (pg_sub (pv 0) pe_int set_list))
    (pss_cons (ps_set (i := 3) sc_draw.nd rfl (by first | exact Or.inl rfl | exact Or.inr rfl) (pe_op op_mod (pe_op op_pow (pe_callTy call_int1 (by rfl) T.m_int (by decide +kernel) (pa_cons (pe_op op_add (pe_op op_add (pe_ix ix_list (pv 0) pe_int (fun _ _ => rfl)) (pe_op op_mul pe_int (pe_ix ix_list (pv 0) pe_int (fun _ _ => rfl)))) pe_int) pa_nil)) pe_int) pe_int))
    (pss_one (ps_ret (pe_op op_mod (pe_op op_mod (pe_op op_pow (pe_callTy call_int1 (by rfl) T.m_int (by decide +kernel) (pa_cons (pe_op op_add (pe_op op_mul (pv 3) pe_int) (pe_op op_mul pe_int (pe_ix ix_list (pv 0) pe_int (fun _ _ => rfl)))) pa_nil)) pe_int) pe_int) (pv 1))))))), ?_⟩
    have i0 : atI [V.int x, V.int y, V.int z] 0 = some (.int x) := rfl
    have i1 : atI [V.int x, V.int y, V.int z] 1 = some (.int y) := rfl
    have i2 : atI [V.int x, V.int y, V.int z] 2 = some (.int z) := rfl
    refine ⟨_, rfl, l, _, _, _, rfl, rfl, SqL.of hl, i0, _, _, rfl, rfl, _, rfl, ?_⟩
    refine ite2 (fun hc => ?_) (fun hc => ?_)
    · refine ⟨_, rfl, l, _, _, _, rfl, rfl, SqL.of hl, i0, .inl ⟨_, rfl, _, rfl, _, _, rfl, rfl, m0, ?_⟩⟩
      refine ⟨_, rfl, l, _, _, _, rfl, rfl, SqL.of hl, i0, _, rfl, _, _, rfl, rfl, ⟨by omega, by omega⟩, _, rfl, l, _, _, 0, rfl, rfl, hl, rfl, ?_⟩
      refine ⟨_, rfl, ?_⟩
      exact k (x % many) _ (Int.emod_nonneg _ (by omega)) (Int.emod_lt_of_pos _ m0) ⟨_, _, _, upd_same, Int.fdiv_nonneg x0 (by omega), y0, y1, z0, by omega⟩
    · have hl2 : (upd H l (.lst [V.int x, V.int y, V.int (z + 1)])) l = some (.lst [V.int x, V.int y, V.int (z + 1)]) := upd_same
      have j1 : atI [V.int x, V.int y, V.int (z + 1)] 1 = some (.int y) := rfl
      have j2 : atI [V.int x, V.int y, V.int (z + 1)] 2 = some (.int (z + 1)) := rfl
      refine ⟨_, rfl, l, _, _, _, rfl, rfl, SqL.of hl, i2, _, _, rfl, rfl, _, rfl, l, _, _, 2, rfl, rfl, hl, rfl, ?_⟩
      refine ⟨_, rfl, l, _, _, _, rfl, rfl, SqL.of hl2, j1, _, rfl, l, _, _, _, rfl, rfl, SqL.of hl2, j2, _, _, rfl, rfl, .inl ⟨by decide, by decide⟩, _, _, rfl, rfl, _, _, rfl, rfl, .inl ⟨_, rfl, _, _, rfl, rfl, ⟨by decide, by decide, ?_⟩, _, _, rfl, rfl, (by show (0 : Int) < _; decide), ?_⟩⟩
      · show (y + 7919 * (z + 1) + 104729).natAbs < 18446744073709551616
        omega
      have e1 : 0 ≤ (y + 7919 * (z + 1) + 104729) ^ (5 : Int).toNat % 2147483629 := Int.emod_nonneg _ (by decide)
      have e2 : (y + 7919 * (z + 1) + 104729) ^ (5 : Int).toNat % 2147483629 < 2147483629 := Int.emod_lt_of_pos _ (by decide)
      have hb : ∀ c : Int, 0 ≤ c → c < 2147483629 → (c * 48271 + 40503 * (z + 1)).natAbs < 18446744073709551616 := fun c _ _ => by omega
      refine ⟨_, rfl, _, _, rfl, rfl, .inr ⟨by decide, by decide⟩, _, rfl, l, _, _, _, rfl, rfl, SqL.of hl2, j2, _, _, rfl, rfl, .inl ⟨by decide, by decide⟩, _, _, rfl, rfl, .inl ⟨_, rfl, _, _, rfl, rfl, ⟨by decide, by decide, ?_⟩, _, _, rfl, rfl, (by show (0 : Int) < _; decide), _, rfl, _, _, rfl, rfl, m0, ?_⟩⟩
      · exact hb _ e1 e2
      exact k _ _ (Int.emod_nonneg _ (by omega)) (Int.emod_lt_of_pos _ m0) ⟨_, _, _, upd_same, x0, y0, y1, by omega, by omega⟩
theorem ok_pick {f : Addr} {fd : FuncData} (F : Fun K "_law_pick" "_law_pick" s_pick f fd) (T : TxB mg) (D_draw : DefAt P w K mg base "_law_draw" 1 ["_law_draws", "_law_many"] spDraw) : FnOk P w K mg base CX0 2 f fd ["_law_draws", "_law_things"] (spPick K) := by
  refine F.ok sc_pick (fun vs H Q E h => ?_) (fun cdv A outer s H vs Q E hr h => ?_)
  · obtain ⟨_, _, _, _, _, rfl, _⟩ := h
    rfl
  · obtain ⟨l, t, ds, n, L, rfl, hd, hn, hL, hp, h0, h1, k⟩ := h
    refine ⟨_, (pss_one (ps_ret (pe_ix ix_list (pv 1) (pe_callD D_draw (by first | exact hr | exact hr.mono (by decide) | exact hr.mono (by omega)) (by rfl) (pa_cons (pv 0) (pa_cons (pe_callB call_len_seq (by rfl) T.m_len (by decide +kernel) (pa_cons (pv 1) pa_nil)) pa_nil))) (fun _ _ => rfl)))), ?_⟩
    cases hp with
    | @lst _ xs _ hs ha =>
      have hlen := dpa_len ha
      refine ⟨_, rfl, _, rfl, _, rfl, t, xs, rfl, .inl (Evl.ex_l w_sub hs), ?_⟩
      refine ⟨l, _, n, rfl, hd, hn, by omega, by omega, fun r o r0 r1 hd' => ?_⟩
      have hr' : r.toNat < xs.length := by omega
      obtain ⟨d, hd1, hd2⟩ := dpa_get ha (List.getElem?_eq_getElem hr')
      have er : ((r.toNat : Nat) : Int) = r := by omega
      refine ⟨t, xs, r, xs[r.toNat], rfl, rfl, Evl.ex_l (w_sub (L := L)) (by rw [w_upd_in hL]; exact hs), ?_, ?_⟩
      · have q := atI_nat (List.getElem?_eq_getElem hr')
        rw [er] at q
        exact q
      · exact k _ d o (List.mem_of_getElem? hd1) (by rw [w_upd_in hL]; exact hd2) hd'
end
end U

set_option Elab.async false
set_option linter.all false
set_option maxRecDepth 100000
set_option maxHeartbeats 4000000
namespace U
open PySem L2
open Evl (Ex)
abbrev s_is_integer : Stmt := top 9
abbrev sc_is_integer_N : List Str := ["thing"]
theorem sc_is_integer : FnScope sc_is_integer_N ["thing"] (defScope s_is_integer) := ⟨rfl, rfl, rfl, by decide +kernel, rfl, by decide +kernel, by decide +kernel⟩
abbrev s_is_number_of_places : Stmt := top 10
abbrev sc_is_number_of_places_N : List Str := ["thing"]
theorem sc_is_number_of_places : FnScope sc_is_number_of_places_N ["thing"] (defScope s_is_number_of_places) := ⟨rfl, rfl, rfl, by decide +kernel, rfl, by decide +kernel, by decide +kernel⟩
def isI : PyData → Bool
  | .int _ => true
  | _ => false
def isL : PyData → Bool
  | .bool _ => true
  | _ => false
def isR : PyData → Bool
  | .list _ => true
  | .tuple _ => true
  | _ => false
def isN : PyData → Bool
  | .int i => decide (1 ≤ i) && decide (i ≤ 3)
  | _ => false
def isP (p : Int) : PyData → Bool
  | .list ds => decide ((ds.length : Int) = p) && ds.all isI
  | .tuple ds => decide ((ds.length : Int) = p) && ds.all isI
  | _ => false
def isO (p : Int) : PyData → Bool
  | .list ds => decide ((ds.length : Int) = p)
  | .tuple ds => decide ((ds.length : Int) = p)
  | _ => false
def isX (p : Int) : PyData → Bool
  | .list [a, b] => isP p a && isL b
  | .tuple [a, b] => isP p a && isL b
  | _ => false
def tupOf : PyData → PyData
  | .list ds => .tuple ds
  | d => d
def cpy : PyData → PyData
  | .list [a, b] => .tuple [tupOf a, b]
  | .tuple [a, b] => .tuple [tupOf a, b]
  | d => d
/-- True or False of data, by f | of data and a number of places -/
def spB (K : PySem.W.Frag) (f : PyData → Bool) : Sp := fun vs H Q _ => ∃ v d, vs = [v] ∧ Dq K H v d ∧ ∀ H', Ex H H' → Q (.bl (f d)) H'
def spBp (K : PySem.W.Frag) (f : Int → PyData → Bool) : Sp := fun vs H Q _ => ∃ v d p, vs = [v, .int p] ∧ Dq K H v d ∧ (∃ n, fits n d) ∧ ∀ H', Ex H H' → Q (.bl (f p d)) H'
structure TxF (mg : Str → Option Value) : Prop extends TxB mg where
  m_range : mg "range" = none
  m_enumerate : mg "enumerate" = none
  c_LEAST_PLACES : ∃ t, mg "LEAST_PLACES" = some (.int 1 t)
  c_MOST_PLACES : ∃ t, mg "MOST_PLACES" = some (.int 3 t)
section
variable {P : Program} {w : World} {K : PySem.W.Frag} {mg : Str → Option Value} {base : Heap}
theorem isP_two {p : Int} {d : PyData} : (isO p d && isP p d) = isP p d := by
  have q : ∀ a b : Bool, (a && (a && b)) = (a && b) := by decide
  cases d with
  | list ds => exact q _ _
  | tuple ds => exact q _ _
  | _ => rfl
theorem isX_two {p : Int} {d : PyData} {ds : List PyData} (h : d = .list ds ∨ d = .tuple ds) : (isO 2 d && isX p d) = isX p d := by
  rcases h with rfl | rfl <;> (match ds with
    | [] => rfl
    | [_] => rfl
    | [_, _] => rfl
    | _ :: _ :: _ :: r =>
      show (_ && false) = false
      rw [Bool.and_false])
theorem ev_spB {σ : L2.St} {H : Hp} {te : TE} {v : V} {d : PyData} {f : PyData → Bool} (h : Evl.Ev te σ H v) (hd : Dp K H v d) : Evl.Ev (tCallD (spB K f) (tCons te tNil)) σ H (.bl (f d)) :=
  ev_callD (Evl.ea_cons h Evl.ea_nil) fun H1 e1 Q q => ⟨v, d, rfl, (hd.up e1).q, q⟩
theorem ev_spBp {σ : L2.St} {H : Hp} {te tp : TE} {v : V} {d : PyData} {f : Int → PyData → Bool} {p : Int} (h : Evl.Ev te σ H v) (hp : Evl.Ev tp σ H (.int p)) (hd : Dp K H v d) (hw : ∃ n, fits n d) : Evl.Ev (tCallD (spBp K f) (tCons te (tCons tp tNil))) σ H (.bl (f p d)) :=
  ev_callD (Evl.ea_cons h (Evl.ea_cons hp Evl.ea_nil)) fun H1 e1 Q q => ⟨v, d, p, rfl, (hd.up e1).q, hw, q⟩
theorem ev_spBq {σ : L2.St} {H : Hp} {te : TE} {v : V} {d : PyData} {f : PyData → Bool} (h : Evl.Ev te σ H v) (hd : Dq K H v d) : Evl.Ev (tCallD (spB K f) (tCons te tNil)) σ H (.bl (f d)) :=
  ev_callD (Evl.ea_cons h Evl.ea_nil) fun H1 e1 Q q => ⟨v, d, rfl, hd.up e1, q⟩
theorem ev_spBpq {σ : L2.St} {H : Hp} {te tp : TE} {v : V} {d : PyData} {f : Int → PyData → Bool} {p : Int} (h : Evl.Ev te σ H v) (hp : Evl.Ev tp σ H (.int p)) (hd : Dq K H v d) (hw : ∃ n, fits n d) : Evl.Ev (tCallD (spBp K f) (tCons te (tCons tp tNil))) σ H (.bl (f p d)) :=
  ev_callD (Evl.ea_cons h (Evl.ea_cons hp Evl.ea_nil)) fun H1 e1 Q q => ⟨v, d, p, rfl, hd.up e1, hw, q⟩
theorem ok_is_integer {f : Addr} {fd : FuncData} (F : Fun K "is_integer" "is_integer" s_is_integer f fd) (T : TxF mg) : FnOk P w K mg base CX0 1 f fd ["thing"] (spB K isI) := by
  refine F.ok sc_is_integer (fun vs H Q E h => ?_) (fun cdv A outer s H vs Q E hr h => ?_)
  · obtain ⟨_, _, rfl, _⟩ := h
    rfl
  · obtain ⟨v, d, rfl, hd, k⟩ := h
    refine ⟨_, (pss_one (ps_ret (pe_and (pe_callB call_isi (by rfl) T.m_isinstance (by decide +kernel) (pa_cons (pv 0) (pa_cons (pe_bltn (v := .ty "int") (by rfl) T.m_int (by decide +kernel) rfl) pa_nil))) (pe_one (pe_not (pe_callB call_isi (by rfl) T.m_isinstance (by decide +kernel) (pa_cons (pv 0) (pa_cons (pe_bltn (v := .ty "bool") (by rfl) T.m_bool (by decide +kernel) rfl) pa_nil)))))))), ?_⟩
    have v0 : Evl.Ev (tVar 0) (start sc_is_integer_N [v]) H v := Evl.ev_var rfl
    cases d with
    | none => exact Evl.s_ret (v := .bl false) (Evl.ev_andV (a := false) (b := false) (evq_isi v0 hd isi_NoneType_int) fun z => nomatch z) k
    | bool z => exact Evl.s_ret (v := .bl false) (Evl.ev_andV (a := true) (b := false) (evq_isi v0 hd isi_bool_int) fun _ => Evl.ev_notV (a := true) (evq_isi v0 hd isi_bool_bool)) k
    | int z => exact Evl.s_ret (v := .bl true) (Evl.ev_andV (a := true) (b := true) (evq_isi v0 hd isi_int_int) fun _ => Evl.ev_notV (a := false) (evq_isi v0 hd isi_int_bool)) k
    | str z' => exact Evl.s_ret (v := .bl false) (Evl.ev_andV (a := false) (b := false) (evq_isi v0 hd isi_str_int) fun z => nomatch z) k
    | list ds => exact Evl.s_ret (v := .bl false) (Evl.ev_andV (a := false) (b := false) (evq_isi v0 hd isi_list_int) fun z => nomatch z) k
    | tuple ds => exact Evl.s_ret (v := .bl false) (Evl.ev_andV (a := false) (b := false) (evq_isi v0 hd isi_tuple_int) fun z => nomatch z) k
    | dict z' => exact Evl.s_ret (v := .bl false) (Evl.ev_andV (a := false) (b := false) (evq_isi v0 hd isi_dict_int) fun z => nomatch z) k
theorem ok_is_number_of_places {f : Addr} {fd : FuncData} (F : Fun K "is_number_of_places" "is_number_of_places" s_is_number_of_places f fd) (T : TxF mg) (D_is_integer : DefAt P w K mg base "is_integer" 1 ["thing"] (spB K isI)) : FnOk P w K mg base CX0 2 f fd ["thing"] (spB K isN) := by
  refine F.ok sc_is_number_of_places (fun vs H Q E h => ?_) (fun cdv A outer s H vs Q E hr h => ?_)
  · obtain ⟨_, _, rfl, _⟩ := h
    rfl
  · obtain ⟨v, d, rfl, hd, k⟩ := h
    refine ⟨_, (pss_one (ps_ret (pe_and (pe_callD D_is_integer (by first | exact hr | exact hr.mono (by decide) | exact hr.mono (by omega)) (by rfl) (pa_cons (pv 0) pa_nil)) (pe_one (pe_chain op_le op_le (pe_glob (v := .int 1) (by rfl) T.c_LEAST_PLACES.choose_spec (by exact ⟨_, rfl⟩)) (pv 0) (pe_glob (v := .int 3) (by rfl) T.c_MOST_PLACES.choose_spec (by exact ⟨_, rfl⟩))))))), ?_⟩
    have v0 : Evl.Ev (tVar 0) (start sc_is_number_of_places_N [v]) H v := Evl.ev_var rfl
    have e : isI d = true → ∃ i, d = .int i := fun z => by
      cases d <;> first | exact ⟨_, rfl⟩ | cases z
    have q : (isI d && isN d) = isN d := by
      cases d <;> rfl
    refine Evl.s_ret (v := .bl (isN d)) (Evl.ev_is (Evl.ev_andV (a := isI d) (b := isN d) (ev_spBq v0 hd) fun z => ?_) (congrArg V.bl q)) k
    obtain ⟨i, rfl⟩ := e z
    cases hd
    refine ev_chain (k := decide (1 ≤ i)) Evl.ev_c v0 (Evl.rv_I0 (g := fun a b => .bl (decide (a ≤ b)))) (fun _ => Evl.ev_c) (fun _ => ?_) (fun z => ?_)
    · have e : (isN (.int i)) = decide (i ≤ 3) := by
        show (decide (1 ≤ i) && decide (i ≤ 3)) = _
        rw [‹decide (1 ≤ i) = true›]
        rfl
      rw [e]
      exact Evl.rv_I0 (g := fun a b => .bl (decide (a ≤ b)))
    · show (decide (1 ≤ i) && decide (i ≤ 3)) = false
      rw [z]
      rfl
end
end U

set_option Elab.async false
set_option linter.all false
set_option maxRecDepth 100000
set_option maxHeartbeats 4000000
/-! kinds as instances -/
namespace U
open PySem PySem.Spec PyProof.Rows L2
open Evl (Ex)
open C8 (Met Mak pe_mt pe_mt0 pe_mk)
abbrev s_check_number_of_places : Stmt := top 20
abbrev sc_check_number_of_places_N : List Str := ["places"]
theorem sc_check_number_of_places : FnScope sc_check_number_of_places_N ["places"] (defScope s_check_number_of_places) := ⟨rfl, rfl, rfl, by decide +kernel, rfl, by decide +kernel, by decide +kernel⟩
abbrev s_Halves_init : Stmt := inClass (top 13) 0
abbrev sc_Halves_init_N : List Str := ["self", "places"]
theorem sc_Halves_init : FnScope sc_Halves_init_N ["self", "places"] (defScope s_Halves_init) := ⟨rfl, rfl, rfl, by decide +kernel, rfl, by decide +kernel, by decide +kernel⟩
abbrev s_Halves_invert : Stmt := inClass (top 13) 7
abbrev sc_Halves_invert_N : List Str := ["self"]
theorem sc_Halves_invert : FnScope sc_Halves_invert_N ["self"] (defScope s_Halves_invert) := ⟨rfl, rfl, rfl, by decide +kernel, rfl, by decide +kernel, by decide +kernel⟩
abbrev s_Halves_and : Stmt := inClass (top 13) 8
abbrev sc_Halves_and_N : List Str := ["self", "other"]
theorem sc_Halves_and : FnScope sc_Halves_and_N ["self", "other"] (defScope s_Halves_and) := ⟨rfl, rfl, rfl, by decide +kernel, rfl, by decide +kernel, by decide +kernel⟩
abbrev s_Halves_or : Stmt := inClass (top 13) 9
abbrev sc_Halves_or_N : List Str := ["self", "other"]
theorem sc_Halves_or : FnScope sc_Halves_or_N ["self", "other"] (defScope s_Halves_or) := ⟨rfl, rfl, rfl, by decide +kernel, rfl, by decide +kernel, by decide +kernel⟩
abbrev s_Halves_add : Stmt := inClass (top 13) 10
abbrev sc_Halves_add_N : List Str := ["self", "other"]
theorem sc_Halves_add : FnScope sc_Halves_add_N ["self", "other"] (defScope s_Halves_add) := ⟨rfl, rfl, rfl, by decide +kernel, rfl, by decide +kernel, by decide +kernel⟩
abbrev s_Boxes_init : Stmt := inClass (top 14) 0
abbrev sc_Boxes_init_N : List Str := ["self", "places"]
theorem sc_Boxes_init : FnScope sc_Boxes_init_N ["self", "places"] (defScope s_Boxes_init) := ⟨rfl, rfl, rfl, by decide +kernel, rfl, by decide +kernel, by decide +kernel⟩
abbrev s_Boxes_invert : Stmt := inClass (top 14) 7
abbrev sc_Boxes_invert_N : List Str := ["self"]
theorem sc_Boxes_invert : FnScope sc_Boxes_invert_N ["self"] (defScope s_Boxes_invert) := ⟨rfl, rfl, rfl, by decide +kernel, rfl, by decide +kernel, by decide +kernel⟩
abbrev s_Boxes_and : Stmt := inClass (top 14) 8
abbrev sc_Boxes_and_N : List Str := ["self", "other"]
theorem sc_Boxes_and : FnScope sc_Boxes_and_N ["self", "other"] (defScope s_Boxes_and) := ⟨rfl, rfl, rfl, by decide +kernel, rfl, by decide +kernel, by decide +kernel⟩
abbrev s_Boxes_or : Stmt := inClass (top 14) 9
abbrev sc_Boxes_or_N : List Str := ["self", "other"]
theorem sc_Boxes_or : FnScope sc_Boxes_or_N ["self", "other"] (defScope s_Boxes_or) := ⟨rfl, rfl, rfl, by decide +kernel, rfl, by decide +kernel, by decide +kernel⟩
abbrev s_Boxes_add : Stmt := inClass (top 14) 10
abbrev sc_Boxes_add_N : List Str := ["self", "other"]
theorem sc_Boxes_add : FnScope sc_Boxes_add_N ["self", "other"] (defScope s_Boxes_add) := ⟨rfl, rfl, rfl, by decide +kernel, rfl, by decide +kernel, by decide +kernel⟩
abbrev s_Rising_init : Stmt := inClass (top 15) 0
abbrev sc_Rising_init_N : List Str := ["self", "places"]
theorem sc_Rising_init : FnScope sc_Rising_init_N ["self", "places"] (defScope s_Rising_init) := ⟨rfl, rfl, rfl, by decide +kernel, rfl, by decide +kernel, by decide +kernel⟩
abbrev s_Rising_invert : Stmt := inClass (top 15) 7
abbrev sc_Rising_invert_N : List Str := ["self"]
theorem sc_Rising_invert : FnScope sc_Rising_invert_N ["self"] (defScope s_Rising_invert) := ⟨rfl, rfl, rfl, by decide +kernel, rfl, by decide +kernel, by decide +kernel⟩
abbrev s_Rising_and : Stmt := inClass (top 15) 8
abbrev sc_Rising_and_N : List Str := ["self", "other"]
theorem sc_Rising_and : FnScope sc_Rising_and_N ["self", "other"] (defScope s_Rising_and) := ⟨rfl, rfl, rfl, by decide +kernel, rfl, by decide +kernel, by decide +kernel⟩
abbrev s_Rising_or : Stmt := inClass (top 15) 9
abbrev sc_Rising_or_N : List Str := ["self", "other"]
theorem sc_Rising_or : FnScope sc_Rising_or_N ["self", "other"] (defScope s_Rising_or) := ⟨rfl, rfl, rfl, by decide +kernel, rfl, by decide +kernel, by decide +kernel⟩
abbrev s_Rising_add : Stmt := inClass (top 15) 10
abbrev sc_Rising_add_N : List Str := ["self", "other"]
theorem sc_Rising_add : FnScope sc_Rising_add_N ["self", "other"] (defScope s_Rising_add) := ⟨rfl, rfl, rfl, by decide +kernel, rfl, by decide +kernel, by decide +kernel⟩
abbrev s_Flats_init : Stmt := inClass (top 16) 0
abbrev sc_Flats_init_N : List Str := ["self", "places"]
theorem sc_Flats_init : FnScope sc_Flats_init_N ["self", "places"] (defScope s_Flats_init) := ⟨rfl, rfl, rfl, by decide +kernel, rfl, by decide +kernel, by decide +kernel⟩
abbrev s_Flats_invert : Stmt := inClass (top 16) 7
abbrev sc_Flats_invert_N : List Str := ["self"]
theorem sc_Flats_invert : FnScope sc_Flats_invert_N ["self"] (defScope s_Flats_invert) := ⟨rfl, rfl, rfl, by decide +kernel, rfl, by decide +kernel, by decide +kernel⟩
abbrev s_Flats_and : Stmt := inClass (top 16) 8
abbrev sc_Flats_and_N : List Str := ["self", "other"]
theorem sc_Flats_and : FnScope sc_Flats_and_N ["self", "other"] (defScope s_Flats_and) := ⟨rfl, rfl, rfl, by decide +kernel, rfl, by decide +kernel, by decide +kernel⟩
abbrev s_Flats_or : Stmt := inClass (top 16) 9
abbrev sc_Flats_or_N : List Str := ["self", "other"]
theorem sc_Flats_or : FnScope sc_Flats_or_N ["self", "other"] (defScope s_Flats_or) := ⟨rfl, rfl, rfl, by decide +kernel, rfl, by decide +kernel, by decide +kernel⟩
abbrev s_Flats_add : Stmt := inClass (top 16) 10
abbrev sc_Flats_add_N : List Str := ["self", "other"]
theorem sc_Flats_add : FnScope sc_Flats_add_N ["self", "other"] (defScope s_Flats_add) := ⟨rfl, rfl, rfl, by decide +kernel, rfl, by decide +kernel, by decide +kernel⟩
abbrev s_Turns_init : Stmt := inClass (top 17) 0
abbrev sc_Turns_init_N : List Str := ["self", "most"]
theorem sc_Turns_init : FnScope sc_Turns_init_N ["self", "most"] (defScope s_Turns_init) := ⟨rfl, rfl, rfl, by decide +kernel, rfl, by decide +kernel, by decide +kernel⟩
abbrev s_Turns_invert : Stmt := inClass (top 17) 7
abbrev sc_Turns_invert_N : List Str := ["self"]
theorem sc_Turns_invert : FnScope sc_Turns_invert_N ["self"] (defScope s_Turns_invert) := ⟨rfl, rfl, rfl, by decide +kernel, rfl, by decide +kernel, by decide +kernel⟩
abbrev s_Turns_and : Stmt := inClass (top 17) 8
abbrev sc_Turns_and_N : List Str := ["self", "other"]
theorem sc_Turns_and : FnScope sc_Turns_and_N ["self", "other"] (defScope s_Turns_and) := ⟨rfl, rfl, rfl, by decide +kernel, rfl, by decide +kernel, by decide +kernel⟩
abbrev s_Turns_or : Stmt := inClass (top 17) 9
abbrev sc_Turns_or_N : List Str := ["self", "other"]
theorem sc_Turns_or : FnScope sc_Turns_or_N ["self", "other"] (defScope s_Turns_or) := ⟨rfl, rfl, rfl, by decide +kernel, rfl, by decide +kernel, by decide +kernel⟩
abbrev s_Turns_add : Stmt := inClass (top 17) 10
abbrev sc_Turns_add_N : List Str := ["self", "other"]
theorem sc_Turns_add : FnScope sc_Turns_add_N ["self", "other"] (defScope s_Turns_add) := ⟨rfl, rfl, rfl, by decide +kernel, rfl, by decide +kernel, by decide +kernel⟩
abbrev s_Contrary_init : Stmt := inClass (top 18) 0
abbrev sc_Contrary_init_N : List Str := ["self", "kind"]
theorem sc_Contrary_init : FnScope sc_Contrary_init_N ["self", "kind"] (defScope s_Contrary_init) := ⟨rfl, rfl, rfl, by decide +kernel, rfl, by decide +kernel, by decide +kernel⟩
abbrev s_Contrary_invert : Stmt := inClass (top 18) 4
abbrev sc_Contrary_invert_N : List Str := ["self"]
theorem sc_Contrary_invert : FnScope sc_Contrary_invert_N ["self"] (defScope s_Contrary_invert) := ⟨rfl, rfl, rfl, by decide +kernel, rfl, by decide +kernel, by decide +kernel⟩
abbrev s_Contrary_and : Stmt := inClass (top 18) 5
abbrev sc_Contrary_and_N : List Str := ["self", "other"]
theorem sc_Contrary_and : FnScope sc_Contrary_and_N ["self", "other"] (defScope s_Contrary_and) := ⟨rfl, rfl, rfl, by decide +kernel, rfl, by decide +kernel, by decide +kernel⟩
abbrev s_Contrary_or : Stmt := inClass (top 18) 6
abbrev sc_Contrary_or_N : List Str := ["self", "other"]
theorem sc_Contrary_or : FnScope sc_Contrary_or_N ["self", "other"] (defScope s_Contrary_or) := ⟨rfl, rfl, rfl, by decide +kernel, rfl, by decide +kernel, by decide +kernel⟩
abbrev s_Contrary_add : Stmt := inClass (top 18) 7
abbrev sc_Contrary_add_N : List Str := ["self", "other"]
theorem sc_Contrary_add : FnScope sc_Contrary_add_N ["self", "other"] (defScope s_Contrary_add) := ⟨rfl, rfl, rfl, by decide +kernel, rfl, by decide +kernel, by decide +kernel⟩
abbrev s_Pair_init : Stmt := inClass (top 19) 0
abbrev sc_Pair_init_N : List Str := ["self", "word", "one", "other"]
theorem sc_Pair_init : FnScope sc_Pair_init_N ["self", "word", "one", "other"] (defScope s_Pair_init) := ⟨rfl, rfl, rfl, by decide +kernel, rfl, by decide +kernel, by decide +kernel⟩
abbrev s_Pair_invert : Stmt := inClass (top 19) 4
abbrev sc_Pair_invert_N : List Str := ["self"]
theorem sc_Pair_invert : FnScope sc_Pair_invert_N ["self"] (defScope s_Pair_invert) := ⟨rfl, rfl, rfl, by decide +kernel, rfl, by decide +kernel, by decide +kernel⟩
abbrev s_Pair_and : Stmt := inClass (top 19) 5
abbrev sc_Pair_and_N : List Str := ["self", "other"]
theorem sc_Pair_and : FnScope sc_Pair_and_N ["self", "other"] (defScope s_Pair_and) := ⟨rfl, rfl, rfl, by decide +kernel, rfl, by decide +kernel, by decide +kernel⟩
abbrev s_Pair_or : Stmt := inClass (top 19) 6
abbrev sc_Pair_or_N : List Str := ["self", "other"]
theorem sc_Pair_or : FnScope sc_Pair_or_N ["self", "other"] (defScope s_Pair_or) := ⟨rfl, rfl, rfl, by decide +kernel, rfl, by decide +kernel, by decide +kernel⟩
abbrev s_Pair_add : Stmt := inClass (top 19) 7
abbrev sc_Pair_add_N : List Str := ["self", "other"]
theorem sc_Pair_add : FnScope sc_Pair_add_N ["self", "other"] (defScope s_Pair_add) := ⟨rfl, rfl, rfl, by decide +kernel, rfl, by decide +kernel, by decide +kernel⟩
inductive KI where
  | ha | bo | ri | fl | tu | co | pa
  deriving DecidableEq
abbrev KC := KI → Addr
def placesK : Kd → Int
  | .halves p => p
  | .boxes p => p
  | .rising p => p
  | .flats p => p
  | .turns _ => 1
  | .no k => placesK k
  | .both k _ => placesK k
  | .either k _ => placesK k
  | .any k _ => placesK k
def kiOf : Kd → KI
  | .halves _ => .ha
  | .boxes _ => .bo
  | .rising _ => .ri
  | .flats _ => .fl
  | .turns _ => .tu
  | .no _ => .co
  | .both _ _ => .pa
  | .either _ _ => .pa
  | .any _ _ => .pa
/-- at x an instance that stands for the kind -/
def Kin (c : KC) (H : Hp) : Kd → Addr → Prop
  | .halves p, x => ∃ dx, H x = some (.ins (c .ha) dx [("places", .int p)])
  | .boxes p, x => ∃ dx, H x = some (.ins (c .bo) dx [("places", .int p)])
  | .rising p, x => ∃ dx, H x = some (.ins (c .ri) dx [("places", .int p)])
  | .flats p, x => ∃ dx, H x = some (.ins (c .fl) dx [("places", .int p)])
  | .turns m, x => ∃ dx, H x = some (.ins (c .tu) dx [("places", .int 1), ("most", .int m)])
  | .no k, x => ∃ dx y, H x = some (.ins (c .co) dx [("places", .int (placesK k)), ("kind", .ref y)]) ∧ Kin c H k y
  | .both k m, x => ∃ dx y z, H x = some (.ins (c .pa) dx [("places", .int (placesK k)), ("word", .str "both"), ("one", .ref y), ("other", .ref z)]) ∧ Kin c H k y ∧ Kin c H m z
  | .either k m, x => ∃ dx y z, H x = some (.ins (c .pa) dx [("places", .int (placesK k)), ("word", .str "either"), ("one", .ref y), ("other", .ref z)]) ∧ Kin c H k y ∧ Kin c H m z
  | .any k m, x => ∃ dx y z, H x = some (.ins (c .pa) dx [("places", .int (placesK k)), ("word", .str "any"), ("one", .ref y), ("other", .ref z)]) ∧ Kin c H k y ∧ Kin c H m z
theorem Kin.up {c : KC} {H H' : Hp} (e : Ex H H') : ∀ {k : Kd} {x : Addr}, Kin c H k x → Kin c H' k x
  | .halves _, _, ⟨dx, h⟩ => ⟨dx, e _ _ h⟩
  | .boxes _, _, ⟨dx, h⟩ => ⟨dx, e _ _ h⟩
  | .rising _, _, ⟨dx, h⟩ => ⟨dx, e _ _ h⟩
  | .flats _, _, ⟨dx, h⟩ => ⟨dx, e _ _ h⟩
  | .turns _, _, ⟨dx, h⟩ => ⟨dx, e _ _ h⟩
  | .no _, _, ⟨dx, y, h, q⟩ => ⟨dx, y, e _ _ h, Kin.up e q⟩
  | .both _ _, _, ⟨dx, y, z, h, q, r⟩ => ⟨dx, y, z, e _ _ h, Kin.up e q, Kin.up e r⟩
  | .either _ _, _, ⟨dx, y, z, h, q, r⟩ => ⟨dx, y, z, e _ _ h, Kin.up e q, Kin.up e r⟩
  | .any _ _, _, ⟨dx, y, z, h, q, r⟩ => ⟨dx, y, z, e _ _ h, Kin.up e q, Kin.up e r⟩
theorem Kin.ins {c : KC} {H : Hp} : ∀ {k : Kd} {x : Addr}, Kin c H k x → ∃ dx fs, H x = some (.ins (c (kiOf k)) dx fs) ∧ fs.lookup ("places" : Str) = some (V.int (placesK k))
  | .halves _, _, ⟨dx, h⟩ => ⟨dx, _, h, rfl⟩
  | .boxes _, _, ⟨dx, h⟩ => ⟨dx, _, h, rfl⟩
  | .rising _, _, ⟨dx, h⟩ => ⟨dx, _, h, rfl⟩
  | .flats _, _, ⟨dx, h⟩ => ⟨dx, _, h, rfl⟩
  | .turns _, _, ⟨dx, h⟩ => ⟨dx, _, h, rfl⟩
  | .no _, _, ⟨dx, y, h, q⟩ => ⟨dx, _, h, rfl⟩
  | .both _ _, _, ⟨dx, y, z, h, q, r⟩ => ⟨dx, _, h, rfl⟩
  | .either _ _, _, ⟨dx, y, z, h, q, r⟩ => ⟨dx, _, h, rfl⟩
  | .any _ _, _, ⟨dx, y, z, h, q, r⟩ => ⟨dx, _, h, rfl⟩
structure KCl (K : PySem.W.Frag) (c : KC) : Prop where
  cl : ∀ i, Cls K (c i)
  na : ∀ i f, f ∈ (["places", "most", "kind", "word", "one", "other"] : List Str) → NoAttr K (c i) f
structure TxK (mg : Str → Option Value) : Prop extends TxF mg where
  c_GREATEST_MOST : ∃ t, mg "GREATEST_MOST" = some (.int 6 t)
/-- all but x stays -/
def Off (x : Addr) (H H' : Hp) : Prop := ∀ a o, a ≠ x → H a = some o → H' a = some o
def spCheckP : Sp := fun vs H Q _ => ∃ p : Int, vs = [.int p] ∧ 1 ≤ p ∧ p ≤ 3 ∧ ∀ H', Ex H H' → Q .non H'
def spI1 (C : Addr) : Sp := fun vs H Q _ => ∃ x dx p, vs = [.ref x, .int p] ∧ H x = some (.ins C dx []) ∧ 1 ≤ p ∧ p ≤ 3 ∧ ∀ H', Off x H H' → H' x = some (.ins C dx [("places", .int p)]) → Q .non H'
def spIT (C : Addr) : Sp := fun vs H Q _ => ∃ x dx m, vs = [.ref x, .int m] ∧ H x = some (.ins C dx []) ∧ 0 ≤ m ∧ m ≤ 6 ∧ ∀ H', Off x H H' → H' x = some (.ins C dx [("places", .int 1), ("most", .int m)]) → Q .non H'
def spIC (c : KC) : Sp := fun vs H Q _ => ∃ x dx y i dy fs p, vs = [.ref x, .ref y] ∧ H x = some (.ins (c .co) dx []) ∧ H y = some (.ins (c i) dy fs) ∧ fs.lookup ("places" : Str) = some (V.int p) ∧ ∀ H', Off x H H' → H' x = some (.ins (c .co) dx [("places", .int p), ("kind", .ref y)]) → Q .non H'
def spIP (c : KC) : Sp := fun vs H Q _ => ∃ x dx z y1 i1 d1 f1 y2 i2 d2 f2 p, vs = [.ref x, .str z, .ref y1, .ref y2] ∧ H x = some (.ins (c .pa) dx []) ∧ y1 ≠ x ∧ H y1 = some (.ins (c i1) d1 f1) ∧ f1.lookup ("places" : Str) = some (V.int p) ∧ H y2 = some (.ins (c i2) d2 f2) ∧ f2.lookup ("places" : Str) = some (V.int p) ∧
  ∀ H', Off x H H' → H' x = some (.ins (c .pa) dx [("places", .int p), ("word", .str z), ("one", .ref y1), ("other", .ref y2)]) → Q .non H'
def spInv (K : PySem.W.Frag) (c : KC) : Sp := fun vs H Q _ => ∃ x k L, vs = [.ref x] ∧ Hid L H ∧ Kin c (W L H) k x ∧ ∀ y H', H y = none → Ex H H' → Kin c (W L H') (.no k) y → Q (.ref y) H'
def spPr (c : KC) (f : Kd → Kd → Kd) : Sp := fun vs H Q _ => ∃ x y k m L, vs = [.ref x, .ref y] ∧ Hid L H ∧ Kin c (W L H) k x ∧ Kin c (W L H) m y ∧ placesK k = placesK m ∧ ∀ z H', H z = none → Ex H H' → Kin c (W L H') (f k m) z → Q (.ref z) H'
section
variable {P : Program} {w : World} {K : PySem.W.Frag} {mg : Str → Option Value} {base : Heap} {c : KC}
theorem off_upd {x : Addr} {H : Hp} {o : HO} : Off x H (upd H x o) := fun a u n h => by
  rw [upd_ne n]
  exact h
theorem Off.of {x : Addr} {H H' : Hp} (e : Ex H H') : Off x H H' := fun a o _ h => e a o h
theorem Off.trans {x : Addr} {H H1 H2 : Hp} (a : Off x H H1) (b : Off x H1 H2) : Off x H H2 := fun d o n h => b d o n (a d o n h)
theorem ok_checkP {f : Addr} {fd : FuncData} (F : Fun K "_check_number_of_places" "_check_number_of_places" s_check_number_of_places f fd) (T : TxK mg) (D_is_number_of_places : DefAt P w K mg base "is_number_of_places" 2 ["thing"] (spB K isN)) : FnOk P w K mg base CX0 3 f fd ["places"] spCheckP := by
  refine F.ok sc_check_number_of_places (fun vs H Q E h => ?_) (fun cdv A outer s H vs Q E hr h => ?_)
  · obtain ⟨_, rfl, _⟩ := h
    rfl
  · obtain ⟨p, rfl, p1, p3, k⟩ := h
    refine ⟨_, (pss_one (ps_if (pt_not (pt_val (pe_callD D_is_number_of_places (by first | exact hr | exact hr.mono (by decide) | exact hr.mono (by omega)) (by rfl) (pa_cons (pv 0) pa_nil)))) (pss_one ps_never) pss_nil)), ?_⟩
    have hN : isN (.int p) = true := by
      show (decide (1 ≤ p) && decide (p ≤ 3)) = true
      simp [p1, p3]
    exact Evl.s_when (D := { nx := fun _ H' => Q .non H', rt := Q }) (b := false) (Evl.et_is (Evl.et_not (Evl.et_B (ev_spB (K := K) (d := .int p) (Evl.ev_var (v := .int p) rfl) (.int p)))) (by rw [hN]; rfl)) (fun z => nomatch z) (fun _ H1 e1 => k H1 e1)
theorem ok_Halves_init {f : Addr} {fd : FuncData} (F : Fun K "__init__" "Halves.__init__" s_Halves_init f fd) (T : TxK mg) (S : KCl K c) (D_check_number_of_places : DefAt P w K mg base "_check_number_of_places" 3 ["places"] spCheckP) : FnOk P w K mg base CX0 4 f fd ["self", "places"] (spI1 (c .ha)) := by
  refine F.ok sc_Halves_init (fun vs H Q E h => ?_) (fun cdv A outer s H vs Q E hr h => ?_)
  · obtain ⟨_, _, _, rfl, _⟩ := h
    rfl
  · obtain ⟨x, dx, p, rfl, hx, p1, p3, k⟩ := h
    refine ⟨_, (pss_cons (ps_expr (pe_callD D_check_number_of_places (by first | exact hr | exact hr.mono (by decide) | exact hr.mono (by omega)) (by rfl) (pa_cons (pv 1) pa_nil)))
    (pss_one (ps_fld (pv 0) (pv 1) rfl))), ?_⟩
    refine ⟨_, rfl, p, rfl, p1, p3, fun H1 e1 => ?_⟩
    refine ⟨_, rfl, _, rfl, x, c .ha, dx, [], rfl, e1 x _ hx, S.cl _, S.na _ _ (by decide), by decide, ?_⟩
    exact k _ ((Off.of e1).trans off_upd) upd_same
theorem ok_Boxes_init {f : Addr} {fd : FuncData} (F : Fun K "__init__" "Boxes.__init__" s_Boxes_init f fd) (T : TxK mg) (S : KCl K c) (D_check_number_of_places : DefAt P w K mg base "_check_number_of_places" 3 ["places"] spCheckP) : FnOk P w K mg base CX0 4 f fd ["self", "places"] (spI1 (c .bo)) := by
  refine F.ok sc_Boxes_init (fun vs H Q E h => ?_) (fun cdv A outer s H vs Q E hr h => ?_)
  · obtain ⟨_, _, _, rfl, _⟩ := h
    rfl
  · obtain ⟨x, dx, p, rfl, hx, p1, p3, k⟩ := h
    refine ⟨_, (pss_cons (ps_expr (pe_callD D_check_number_of_places (by first | exact hr | exact hr.mono (by decide) | exact hr.mono (by omega)) (by rfl) (pa_cons (pv 1) pa_nil)))
    (pss_one (ps_fld (pv 0) (pv 1) rfl))), ?_⟩
    refine ⟨_, rfl, p, rfl, p1, p3, fun H1 e1 => ?_⟩
    refine ⟨_, rfl, _, rfl, x, c .bo, dx, [], rfl, e1 x _ hx, S.cl _, S.na _ _ (by decide), by decide, ?_⟩
    exact k _ ((Off.of e1).trans off_upd) upd_same
theorem ok_Rising_init {f : Addr} {fd : FuncData} (F : Fun K "__init__" "Rising.__init__" s_Rising_init f fd) (T : TxK mg) (S : KCl K c) (D_check_number_of_places : DefAt P w K mg base "_check_number_of_places" 3 ["places"] spCheckP) : FnOk P w K mg base CX0 4 f fd ["self", "places"] (spI1 (c .ri)) := by
  refine F.ok sc_Rising_init (fun vs H Q E h => ?_) (fun cdv A outer s H vs Q E hr h => ?_)
  · obtain ⟨_, _, _, rfl, _⟩ := h
    rfl
  · obtain ⟨x, dx, p, rfl, hx, p1, p3, k⟩ := h
    refine ⟨_, (pss_cons (ps_expr (pe_callD D_check_number_of_places (by first | exact hr | exact hr.mono (by decide) | exact hr.mono (by omega)) (by rfl) (pa_cons (pv 1) pa_nil)))
    (pss_one (ps_fld (pv 0) (pv 1) rfl))), ?_⟩
    refine ⟨_, rfl, p, rfl, p1, p3, fun H1 e1 => ?_⟩
    refine ⟨_, rfl, _, rfl, x, c .ri, dx, [], rfl, e1 x _ hx, S.cl _, S.na _ _ (by decide), by decide, ?_⟩
    exact k _ ((Off.of e1).trans off_upd) upd_same
theorem ok_Flats_init {f : Addr} {fd : FuncData} (F : Fun K "__init__" "Flats.__init__" s_Flats_init f fd) (T : TxK mg) (S : KCl K c) (D_check_number_of_places : DefAt P w K mg base "_check_number_of_places" 3 ["places"] spCheckP) : FnOk P w K mg base CX0 4 f fd ["self", "places"] (spI1 (c .fl)) := by
  refine F.ok sc_Flats_init (fun vs H Q E h => ?_) (fun cdv A outer s H vs Q E hr h => ?_)
  · obtain ⟨_, _, _, rfl, _⟩ := h
    rfl
  · obtain ⟨x, dx, p, rfl, hx, p1, p3, k⟩ := h
    refine ⟨_, (pss_cons (ps_expr (pe_callD D_check_number_of_places (by first | exact hr | exact hr.mono (by decide) | exact hr.mono (by omega)) (by rfl) (pa_cons (pv 1) pa_nil)))
    (pss_one (ps_fld (pv 0) (pv 1) rfl))), ?_⟩
    refine ⟨_, rfl, p, rfl, p1, p3, fun H1 e1 => ?_⟩
    refine ⟨_, rfl, _, rfl, x, c .fl, dx, [], rfl, e1 x _ hx, S.cl _, S.na _ _ (by decide), by decide, ?_⟩
    exact k _ ((Off.of e1).trans off_upd) upd_same
theorem ok_Turns_init {f : Addr} {fd : FuncData} (F : Fun K "__init__" "Turns.__init__" s_Turns_init f fd) (T : TxK mg) (S : KCl K c) (D_is_integer : DefAt P w K mg base "is_integer" 1 ["thing"] (spB K isI)) : FnOk P w K mg base CX0 2 f fd ["self", "most"] (spIT (c .tu)) := by
  refine F.ok sc_Turns_init (fun vs H Q E h => ?_) (fun cdv A outer s H vs Q E hr h => ?_)
  · obtain ⟨_, _, _, rfl, _⟩ := h
    rfl
  · obtain ⟨x, dx, m, rfl, hx, m0, m6, k⟩ := h
    refine ⟨_, (pss_cons (ps_if (PW.pt (pw_or (pt_not (pt_val (pe_callD D_is_integer (by first | exact hr | exact hr.mono (by decide) | exact hr.mono (by omega)) (by rfl) (pa_cons (pv 1) pa_nil)))) (pw_or1 (pt_not (pt_chain op_le op_le pe_int (pv 1) (pe_glob (v := .int 6) (by rfl) T.c_GREATEST_MOST.choose_spec (by exact ⟨_, rfl⟩))))))) (pss_one ps_never) pss_nil)
    (pss_cons (ps_fld (pv 0) pe_int rfl)
    (pss_one (ps_fld (pv 0) (pv 1) rfl)))), ?_⟩
    have v1 : Evl.Ev (tVar 1) (start sc_Turns_init_N [.ref x, .int m]) H (.int m) := Evl.ev_var rfl
    refine Evl.q_when (b := false) (Evl.et_is (Evl.et_or (a := false) (b := false) (Evl.et_is (Evl.et_not (Evl.et_B (ev_spB (K := K) (d := .int m) v1 (.int m)))) rfl) fun _ => Evl.et_is (Evl.et_not (Evl.et_is (b := true) (Evl.et_test (ev_chain (k := decide (0 ≤ m)) (l := decide (m ≤ 6)) Evl.ev_c v1 (Evl.rv_I0 (g := fun a b => .bl (decide (a ≤ b)))) (fun _ => Evl.ev_c) (fun _ => Evl.rv_I0 (g := fun a b => .bl (decide (a ≤ b)))) (fun z => absurd m0 (of_decide_eq_false z)))) (decide_eq_true m6))) rfl) rfl) (fun z => nomatch z) (fun _ H1 e1 => ?_)
    refine ⟨_, rfl, x, c .tu, dx, [], rfl, e1 x _ hx, S.cl _, S.na _ _ (by decide), by decide, ?_⟩
    refine ⟨_, rfl, _, rfl, x, c .tu, dx, _, rfl, upd_same, S.cl _, S.na _ _ (by decide), by show 1 < 1000; omega, ?_⟩
    exact k _ (((Off.of e1).trans off_upd).trans off_upd) upd_same
theorem ok_Contrary_init {f : Addr} {fd : FuncData} (F : Fun K "__init__" "Contrary.__init__" s_Contrary_init f fd) (S : KCl K c) : FnOk P w K mg base CX0 1 f fd ["self", "kind"] (spIC c) := by
  refine F.ok sc_Contrary_init (fun vs H Q E h => ?_) (fun cdv A outer s H vs Q E hr h => ?_)
  · obtain ⟨_, _, _, _, _, _, _, rfl, _⟩ := h
    rfl
  · obtain ⟨x, dx, y, i, dy, fs, p, rfl, hx, hy, hp, k⟩ := h
    refine ⟨_, (pss_cons (ps_fld (pv 0) (pe_fld (pv 1) rfl) rfl)
    (pss_one (ps_fld (pv 0) (pv 1) rfl))), ?_⟩
    refine ⟨_, rfl, y, c i, dy, fs, .int p, rfl, hy, S.cl _, S.na _ _ (by decide), hp, _, rfl, x, c .co, dx, [], rfl, hx, S.cl _, S.na _ _ (by decide), by decide, ?_⟩
    refine ⟨_, rfl, _, rfl, x, c .co, dx, _, rfl, upd_same, S.cl _, S.na _ _ (by decide), by show 1 < 1000; omega, ?_⟩
    exact k _ (off_upd.trans off_upd) upd_same
theorem ok_Pair_init {f : Addr} {fd : FuncData} (F : Fun K "__init__" "Pair.__init__" s_Pair_init f fd) (S : KCl K c) : FnOk P w K mg base CX0 1 f fd ["self", "word", "one", "other"] (spIP c) := by
  refine F.ok sc_Pair_init (fun vs H Q E h => ?_) (fun cdv A outer s H vs Q E hr h => ?_)
  · obtain ⟨_, _, _, _, _, _, _, _, _, _, _, _, rfl, _⟩ := h
    rfl
  · obtain ⟨x, dx, z, y1, i1, d1, f1, y2, i2, d2, f2, p, rfl, hx, ne, h1, hp1, h2, hp2, k⟩ := h
    refine ⟨_, (pss_cons (ps_if (pt_cmpR op_ne (pe_fld (pv 2) rfl) (pe_fld (pv 3) rfl) (nomark _)) (pss_one ps_never) pss_nil)
    (pss_cons (ps_fld (pv 0) (pe_fld (pv 2) rfl) rfl)
    (pss_cons (ps_fld (pv 0) (pv 1) rfl)
    (pss_cons (ps_fld (pv 0) (pv 2) rfl)
    (pss_one (ps_fld (pv 0) (pv 3) rfl)))))), ?_⟩
    have a1 : Evl.Ev (tFld K (tVar 2) "places") (start sc_Pair_init_N [.ref x, .str z, .ref y1, .ref y2]) H (.int p) := ev_fld (Evl.ev_var (v := .ref y1) rfl) h1 (S.cl _) (S.na _ _ (by decide)) hp1
    have a2 : Evl.Ev (tFld K (tVar 3) "places") (start sc_Pair_init_N [.ref x, .str z, .ref y1, .ref y2]) H (.int p) := ev_fld (Evl.ev_var (v := .ref y2) rfl) h2 (S.cl _) (S.na _ _ (by decide)) hp2
    refine Evl.q_when (b := false) (Evl.et_is (Evl.et_test (Evl.ev_op a1 a2 (Evl.rv_ne rfl))) (by simp)) (fun z => nomatch z) (fun _ H1 e1 => ?_)
    refine ⟨_, rfl, y1, c i1, d1, f1, .int p, rfl, e1 _ _ h1, S.cl _, S.na _ _ (by decide), hp1, _, rfl, x, c .pa, dx, [], rfl, e1 _ _ hx, S.cl _, S.na _ _ (by decide), by decide, ?_⟩
    refine ⟨_, rfl, _, rfl, x, c .pa, dx, _, rfl, upd_same, S.cl _, S.na _ _ (by decide), by show 1 < 1000; omega, ?_⟩
    refine ⟨_, rfl, _, rfl, x, c .pa, dx, _, rfl, upd_same, S.cl _, S.na _ _ (by decide), by show 2 < 1000; omega, ?_⟩
    refine ⟨_, rfl, _, rfl, x, c .pa, dx, _, rfl, upd_same, S.cl _, S.na _ _ (by decide), by show 3 < 1000; omega, ?_⟩
    exact k _ (((((Off.of e1).trans off_upd).trans off_upd).trans off_upd).trans off_upd) upd_same
/-- evaluates to a new instance for the kind -/
def EvK (c : KC) (L : List Addr) (te : TE) (σ : L2.St) (H : Hp) (k : Kd) : Prop := ∀ H1, Ex H H1 → ∀ Q : VK, (∀ x H2, H1 x = none → Ex H1 H2 → Kin c (W L H2) k x → Q (.ref x) H2) → te σ H1 Q
section
variable {σ : L2.St} {H : Hp} {L : List Addr} {te ta tb : TE} {C : Addr} {p m : Int} {k k2 : Kd} {x y : Addr}
theorem new_ex {H3 H' : Hp} {x dx : Addr} {o : HO} (hx : H3 x = none) (hdx : H3 dx = none) (ne : dx ≠ x) (b : Off x (upd (upd H3 dx (.own x)) x o) H') : Ex H3 H' := fun a u h => by
  have n1 : a ≠ x := ne_of_none h hx
  have n2 : a ≠ dx := ne_of_none h hdx
  exact b a u n1 (by rw [upd_ne n1, upd_ne n2]; exact h)
theorem mk_1 {i : KI} (h : Evl.Ev te σ H (.int p)) (hL : Hid L H) (p1 : 1 ≤ p) (p3 : p ≤ 3) (hk : ∀ H' x dx, H' x = some (.ins (c i) dx [("places", .int p)]) → Kin c H' k x) : EvK c L (tMake (c i) (spI1 (c i)) [] E0 (tCons te tNil)) σ H k := fun H1 e Q q =>
  h H1 e _ fun H2 e2 x dx hx hdx ne => ⟨x, dx, p, rfl, upd_same, p1, p3, fun H' b hf => ⟨rfl, q x H' (Evl.fresh_back e2 hx) (e2.trans (new_ex hx hdx ne b)) (hk _ x dx (w_of (hid_not (hid_ex (e.trans e2) hL) hx) hf))⟩⟩
theorem mk_T (h : Evl.Ev te σ H (.int m)) (hL : Hid L H) (m0 : 0 ≤ m) (m6 : m ≤ 6) : EvK c L (tMake (c .tu) (spIT (c .tu)) [] E0 (tCons te tNil)) σ H (.turns m) := fun H1 e Q q =>
  h H1 e _ fun H2 e2 x dx hx hdx ne => ⟨x, dx, m, rfl, upd_same, m0, m6, fun H' b hf => ⟨rfl, q x H' (Evl.fresh_back e2 hx) (e2.trans (new_ex hx hdx ne b)) ⟨dx, w_of (hid_not (hid_ex (e.trans e2) hL) hx) hf⟩⟩⟩
theorem mk_C (h : Evl.Ev te σ H (.ref y)) (hL : Hid L H) (hk : Kin c (W L H) k y) : EvK c L (tMake (c .co) (spIC c) [] E0 (tCons te tNil)) σ H (.no k) := fun H1 e Q q =>
  h H1 e _ fun H2 e2 x dx hx hdx ne => by
    have hk2 := hk.up (w_ex (e.trans e2))
    obtain ⟨dy, fs, hy, hp⟩ := hk2.ins
    have hy2 := (w_in hy).1
    have eN : Ex H2 (upd (upd H2 dx (.own x)) x (.ins (c .co) dx [])) := new_ex hx hdx ne (fun _ _ _ h => h)
    refine ⟨x, dx, y, kiOf k, dy, fs, placesK k, rfl, upd_same, eN _ _ hy2, hp, fun H' b hf => ⟨rfl, q x H' (Evl.fresh_back e2 hx) (e2.trans (new_ex hx hdx ne b)) ⟨dx, y, w_of (hid_not (hid_ex (e.trans e2) hL) hx) hf, hk2.up (w_ex (new_ex hx hdx ne b))⟩⟩⟩
theorem mk_P {z : Str} {f : Kd} (hz : Evl.Ev te σ H (.str z)) (h1 : Evl.Ev ta σ H (.ref x)) (h2 : Evl.Ev tb σ H (.ref y)) (hL : Hid L H) (hk : Kin c (W L H) k x) (hk2 : Kin c (W L H) k2 y) (hp : placesK k = placesK k2)
    (hf : ∀ H' u dx, H' u = some (.ins (c .pa) dx [("places", .int (placesK k)), ("word", .str z), ("one", .ref x), ("other", .ref y)]) → Kin c H' k x → Kin c H' k2 y → Kin c H' f u) : EvK c L (tMake (c .pa) (spIP c) [] E0 (tCons te (tCons ta (tCons tb tNil)))) σ H f := fun H1 e Q q =>
  hz H1 e _ fun H2 e2 => h1 H2 (e.trans e2) _ fun H3 e3 => h2 H3 ((e.trans e2).trans e3) _ fun H4 e4 u dx hu hdx ne => by
    have eA := ((e.trans e2).trans e3).trans e4
    have a1 := hk.up (w_ex eA)
    have a2 := hk2.up (w_ex eA)
    obtain ⟨d1, f1, y1, q1⟩ := a1.ins
    obtain ⟨d2, f2, y2, q2⟩ := a2.ins
    have z1 := (w_in y1).1
    have z2 := (w_in y2).1
    have eN : Ex H4 (upd (upd H4 dx (.own u)) u (.ins (c .pa) dx [])) := new_ex hu hdx ne (fun _ _ _ h => h)
    rw [← hp] at q2
    refine ⟨u, dx, z, x, kiOf k, d1, f1, y, kiOf k2, d2, f2, placesK k, rfl, upd_same, ne_of_none z1 hu, eN _ _ z1, q1, eN _ _ z2, q2, fun H' b hx => ⟨rfl, q u H' (Evl.fresh_back ((e2.trans e3).trans e4) hu) (((e2.trans e3).trans e4).trans (new_ex hu hdx ne b)) ?_⟩⟩
    exact hf _ u dx (w_of (hid_not (hid_ex eA hL) hu) hx) (a1.up (w_ex (new_ex hu hdx ne b))) (a2.up (w_ex (new_ex hu hdx ne b)))
end
theorem ok_Halves_invert {f : Addr} {fd : FuncData} (F : Fun K "__invert__" "Halves.__invert__" s_Halves_invert f fd) (N_Contrary : Mak P w K mg base 1 "Contrary" (c .co) (spIC c) []) : FnOk P w K mg base CX0 3 f fd ["self"] (spInv K c) := by
  refine F.ok sc_Halves_invert (fun vs H Q E h => ?_) (fun cdv A outer s H vs Q E hr h => ?_)
  · obtain ⟨_, _, _, rfl, _⟩ := h
    rfl
  · obtain ⟨x, k, L, rfl, hL, hk, kk⟩ := h
    refine ⟨_, (pss_one (ps_ret (pe_mk N_Contrary hr (by decide) (by rfl) (pa_cons (pv 0) pa_nil)))), ?_⟩
    exact mk_C (Evl.ev_var (v := .ref x) rfl) hL hk H (Ex.refl H) _ kk
theorem ok_Halves_and {f : Addr} {fd : FuncData} (F : Fun K "__and__" "Halves.__and__" s_Halves_and f fd) (N_Pair : Mak P w K mg base 1 "Pair" (c .pa) (spIP c) []) : FnOk P w K mg base CX0 3 f fd ["self", "other"] (spPr c .both) := by
  refine F.ok sc_Halves_and (fun vs H Q E h => ?_) (fun cdv A outer s H vs Q E hr h => ?_)
  · obtain ⟨_, _, _, _, _, rfl, _⟩ := h
    rfl
  · obtain ⟨x, y, k, m, L, rfl, hL, hk, hm, hp, kk⟩ := h
    refine ⟨_, (pss_one (ps_ret (pe_mk N_Pair hr (by decide) (by rfl) (pa_cons pe_str (pa_cons (pv 0) (pa_cons (pv 1) pa_nil)))))), ?_⟩
    exact mk_P (z := "both") (f := .both k m) Evl.ev_c (Evl.ev_var (v := .ref x) rfl) (Evl.ev_var (v := .ref y) rfl) hL hk hm hp (fun H' u dx h a b => ⟨dx, x, y, h, a, b⟩) H (Ex.refl H) _ kk
theorem ok_Halves_or {f : Addr} {fd : FuncData} (F : Fun K "__or__" "Halves.__or__" s_Halves_or f fd) (N_Pair : Mak P w K mg base 1 "Pair" (c .pa) (spIP c) []) : FnOk P w K mg base CX0 3 f fd ["self", "other"] (spPr c .either) := by
  refine F.ok sc_Halves_or (fun vs H Q E h => ?_) (fun cdv A outer s H vs Q E hr h => ?_)
  · obtain ⟨_, _, _, _, _, rfl, _⟩ := h
    rfl
  · obtain ⟨x, y, k, m, L, rfl, hL, hk, hm, hp, kk⟩ := h
    refine ⟨_, (pss_one (ps_ret (pe_mk N_Pair hr (by decide) (by rfl) (pa_cons pe_str (pa_cons (pv 0) (pa_cons (pv 1) pa_nil)))))), ?_⟩
    exact mk_P (z := "either") (f := .either k m) Evl.ev_c (Evl.ev_var (v := .ref x) rfl) (Evl.ev_var (v := .ref y) rfl) hL hk hm hp (fun H' u dx h a b => ⟨dx, x, y, h, a, b⟩) H (Ex.refl H) _ kk
theorem ok_Halves_add {f : Addr} {fd : FuncData} (F : Fun K "__add__" "Halves.__add__" s_Halves_add f fd) (N_Pair : Mak P w K mg base 1 "Pair" (c .pa) (spIP c) []) : FnOk P w K mg base CX0 3 f fd ["self", "other"] (spPr c .any) := by
  refine F.ok sc_Halves_add (fun vs H Q E h => ?_) (fun cdv A outer s H vs Q E hr h => ?_)
  · obtain ⟨_, _, _, _, _, rfl, _⟩ := h
    rfl
  · obtain ⟨x, y, k, m, L, rfl, hL, hk, hm, hp, kk⟩ := h
    refine ⟨_, (pss_one (ps_ret (pe_mk N_Pair hr (by decide) (by rfl) (pa_cons pe_str (pa_cons (pv 0) (pa_cons (pv 1) pa_nil)))))), ?_⟩
    exact mk_P (z := "any") (f := .any k m) Evl.ev_c (Evl.ev_var (v := .ref x) rfl) (Evl.ev_var (v := .ref y) rfl) hL hk hm hp (fun H' u dx h a b => ⟨dx, x, y, h, a, b⟩) H (Ex.refl H) _ kk
theorem ok_Boxes_invert {f : Addr} {fd : FuncData} (F : Fun K "__invert__" "Boxes.__invert__" s_Boxes_invert f fd) (N_Contrary : Mak P w K mg base 1 "Contrary" (c .co) (spIC c) []) : FnOk P w K mg base CX0 3 f fd ["self"] (spInv K c) := by
  refine F.ok sc_Boxes_invert (fun vs H Q E h => ?_) (fun cdv A outer s H vs Q E hr h => ?_)
  · obtain ⟨_, _, _, rfl, _⟩ := h
    rfl
  · obtain ⟨x, k, L, rfl, hL, hk, kk⟩ := h
    refine ⟨_, (pss_one (ps_ret (pe_mk N_Contrary hr (by decide) (by rfl) (pa_cons (pv 0) pa_nil)))), ?_⟩
    exact mk_C (Evl.ev_var (v := .ref x) rfl) hL hk H (Ex.refl H) _ kk
theorem ok_Boxes_and {f : Addr} {fd : FuncData} (F : Fun K "__and__" "Boxes.__and__" s_Boxes_and f fd) (N_Pair : Mak P w K mg base 1 "Pair" (c .pa) (spIP c) []) : FnOk P w K mg base CX0 3 f fd ["self", "other"] (spPr c .both) := by
  refine F.ok sc_Boxes_and (fun vs H Q E h => ?_) (fun cdv A outer s H vs Q E hr h => ?_)
  · obtain ⟨_, _, _, _, _, rfl, _⟩ := h
    rfl
  · obtain ⟨x, y, k, m, L, rfl, hL, hk, hm, hp, kk⟩ := h
    refine ⟨_, (pss_one (ps_ret (pe_mk N_Pair hr (by decide) (by rfl) (pa_cons pe_str (pa_cons (pv 0) (pa_cons (pv 1) pa_nil)))))), ?_⟩
    exact mk_P (z := "both") (f := .both k m) Evl.ev_c (Evl.ev_var (v := .ref x) rfl) (Evl.ev_var (v := .ref y) rfl) hL hk hm hp (fun H' u dx h a b => ⟨dx, x, y, h, a, b⟩) H (Ex.refl H) _ kk
theorem ok_Boxes_or {f : Addr} {fd : FuncData} (F : Fun K "__or__" "Boxes.__or__" s_Boxes_or f fd) (N_Pair : Mak P w K mg base 1 "Pair" (c .pa) (spIP c) []) : FnOk P w K mg base CX0 3 f fd ["self", "other"] (spPr c .either) := by
  refine F.ok sc_Boxes_or (fun vs H Q E h => ?_) (fun cdv A outer s H vs Q E hr h => ?_)
  · obtain ⟨_, _, _, _, _, rfl, _⟩ := h
    rfl
  · obtain ⟨x, y, k, m, L, rfl, hL, hk, hm, hp, kk⟩ := h
    refine ⟨_, (pss_one (ps_ret (pe_mk N_Pair hr (by decide) (by rfl) (pa_cons pe_str (pa_cons (pv 0) (pa_cons (pv 1) pa_nil)))))), ?_⟩
    exact mk_P (z := "either") (f := .either k m) Evl.ev_c (Evl.ev_var (v := .ref x) rfl) (Evl.ev_var (v := .ref y) rfl) hL hk hm hp (fun H' u dx h a b => ⟨dx, x, y, h, a, b⟩) H (Ex.refl H) _ kk
theorem ok_Boxes_add {f : Addr} {fd : FuncData} (F : Fun K "__add__" "Boxes.__add__" s_Boxes_add f fd) (N_Pair : Mak P w K mg base 1 "Pair" (c .pa) (spIP c) []) : FnOk P w K mg base CX0 3 f fd ["self", "other"] (spPr c .any) := by
  refine F.ok sc_Boxes_add (fun vs H Q E h => ?_) (fun cdv A outer s H vs Q E hr h => ?_)
  · obtain ⟨_, _, _, _, _, rfl, _⟩ := h
    rfl
  · obtain ⟨x, y, k, m, L, rfl, hL, hk, hm, hp, kk⟩ := h
    refine ⟨_, (pss_one (ps_ret (pe_mk N_Pair hr (by decide) (by rfl) (pa_cons pe_str (pa_cons (pv 0) (pa_cons (pv 1) pa_nil)))))), ?_⟩
    exact mk_P (z := "any") (f := .any k m) Evl.ev_c (Evl.ev_var (v := .ref x) rfl) (Evl.ev_var (v := .ref y) rfl) hL hk hm hp (fun H' u dx h a b => ⟨dx, x, y, h, a, b⟩) H (Ex.refl H) _ kk
theorem ok_Rising_invert {f : Addr} {fd : FuncData} (F : Fun K "__invert__" "Rising.__invert__" s_Rising_invert f fd) (N_Contrary : Mak P w K mg base 1 "Contrary" (c .co) (spIC c) []) : FnOk P w K mg base CX0 3 f fd ["self"] (spInv K c) := by
  refine F.ok sc_Rising_invert (fun vs H Q E h => ?_) (fun cdv A outer s H vs Q E hr h => ?_)
  · obtain ⟨_, _, _, rfl, _⟩ := h
    rfl
  · obtain ⟨x, k, L, rfl, hL, hk, kk⟩ := h
    refine ⟨_, (pss_one (ps_ret (pe_mk N_Contrary hr (by decide) (by rfl) (pa_cons (pv 0) pa_nil)))), ?_⟩
    exact mk_C (Evl.ev_var (v := .ref x) rfl) hL hk H (Ex.refl H) _ kk
theorem ok_Rising_and {f : Addr} {fd : FuncData} (F : Fun K "__and__" "Rising.__and__" s_Rising_and f fd) (N_Pair : Mak P w K mg base 1 "Pair" (c .pa) (spIP c) []) : FnOk P w K mg base CX0 3 f fd ["self", "other"] (spPr c .both) := by
  refine F.ok sc_Rising_and (fun vs H Q E h => ?_) (fun cdv A outer s H vs Q E hr h => ?_)
  · obtain ⟨_, _, _, _, _, rfl, _⟩ := h
    rfl
  · obtain ⟨x, y, k, m, L, rfl, hL, hk, hm, hp, kk⟩ := h
    refine ⟨_, (pss_one (ps_ret (pe_mk N_Pair hr (by decide) (by rfl) (pa_cons pe_str (pa_cons (pv 0) (pa_cons (pv 1) pa_nil)))))), ?_⟩
    exact mk_P (z := "both") (f := .both k m) Evl.ev_c (Evl.ev_var (v := .ref x) rfl) (Evl.ev_var (v := .ref y) rfl) hL hk hm hp (fun H' u dx h a b => ⟨dx, x, y, h, a, b⟩) H (Ex.refl H) _ kk
theorem ok_Rising_or {f : Addr} {fd : FuncData} (F : Fun K "__or__" "Rising.__or__" s_Rising_or f fd) (N_Pair : Mak P w K mg base 1 "Pair" (c .pa) (spIP c) []) : FnOk P w K mg base CX0 3 f fd ["self", "other"] (spPr c .either) := by
  refine F.ok sc_Rising_or (fun vs H Q E h => ?_) (fun cdv A outer s H vs Q E hr h => ?_)
  · obtain ⟨_, _, _, _, _, rfl, _⟩ := h
    rfl
  · obtain ⟨x, y, k, m, L, rfl, hL, hk, hm, hp, kk⟩ := h
    refine ⟨_, (pss_one (ps_ret (pe_mk N_Pair hr (by decide) (by rfl) (pa_cons pe_str (pa_cons (pv 0) (pa_cons (pv 1) pa_nil)))))), ?_⟩
    exact mk_P (z := "either") (f := .either k m) Evl.ev_c (Evl.ev_var (v := .ref x) rfl) (Evl.ev_var (v := .ref y) rfl) hL hk hm hp (fun H' u dx h a b => ⟨dx, x, y, h, a, b⟩) H (Ex.refl H) _ kk
theorem ok_Rising_add {f : Addr} {fd : FuncData} (F : Fun K "__add__" "Rising.__add__" s_Rising_add f fd) (N_Pair : Mak P w K mg base 1 "Pair" (c .pa) (spIP c) []) : FnOk P w K mg base CX0 3 f fd ["self", "other"] (spPr c .any) := by
  refine F.ok sc_Rising_add (fun vs H Q E h => ?_) (fun cdv A outer s H vs Q E hr h => ?_)
  · obtain ⟨_, _, _, _, _, rfl, _⟩ := h
    rfl
  · obtain ⟨x, y, k, m, L, rfl, hL, hk, hm, hp, kk⟩ := h
    refine ⟨_, (pss_one (ps_ret (pe_mk N_Pair hr (by decide) (by rfl) (pa_cons pe_str (pa_cons (pv 0) (pa_cons (pv 1) pa_nil)))))), ?_⟩
    exact mk_P (z := "any") (f := .any k m) Evl.ev_c (Evl.ev_var (v := .ref x) rfl) (Evl.ev_var (v := .ref y) rfl) hL hk hm hp (fun H' u dx h a b => ⟨dx, x, y, h, a, b⟩) H (Ex.refl H) _ kk
theorem ok_Flats_invert {f : Addr} {fd : FuncData} (F : Fun K "__invert__" "Flats.__invert__" s_Flats_invert f fd) (N_Contrary : Mak P w K mg base 1 "Contrary" (c .co) (spIC c) []) : FnOk P w K mg base CX0 3 f fd ["self"] (spInv K c) := by
  refine F.ok sc_Flats_invert (fun vs H Q E h => ?_) (fun cdv A outer s H vs Q E hr h => ?_)
  · obtain ⟨_, _, _, rfl, _⟩ := h
    rfl
  · obtain ⟨x, k, L, rfl, hL, hk, kk⟩ := h
    refine ⟨_, (pss_one (ps_ret (pe_mk N_Contrary hr (by decide) (by rfl) (pa_cons (pv 0) pa_nil)))), ?_⟩
    exact mk_C (Evl.ev_var (v := .ref x) rfl) hL hk H (Ex.refl H) _ kk
theorem ok_Flats_and {f : Addr} {fd : FuncData} (F : Fun K "__and__" "Flats.__and__" s_Flats_and f fd) (N_Pair : Mak P w K mg base 1 "Pair" (c .pa) (spIP c) []) : FnOk P w K mg base CX0 3 f fd ["self", "other"] (spPr c .both) := by
  refine F.ok sc_Flats_and (fun vs H Q E h => ?_) (fun cdv A outer s H vs Q E hr h => ?_)
  · obtain ⟨_, _, _, _, _, rfl, _⟩ := h
    rfl
  · obtain ⟨x, y, k, m, L, rfl, hL, hk, hm, hp, kk⟩ := h
    refine ⟨_, (pss_one (ps_ret (pe_mk N_Pair hr (by decide) (by rfl) (pa_cons pe_str (pa_cons (pv 0) (pa_cons (pv 1) pa_nil)))))), ?_⟩
    exact mk_P (z := "both") (f := .both k m) Evl.ev_c (Evl.ev_var (v := .ref x) rfl) (Evl.ev_var (v := .ref y) rfl) hL hk hm hp (fun H' u dx h a b => ⟨dx, x, y, h, a, b⟩) H (Ex.refl H) _ kk
theorem ok_Flats_or {f : Addr} {fd : FuncData} (F : Fun K "__or__" "Flats.__or__" s_Flats_or f fd) (N_Pair : Mak P w K mg base 1 "Pair" (c .pa) (spIP c) []) : FnOk P w K mg base CX0 3 f fd ["self", "other"] (spPr c .either) := by
  refine F.ok sc_Flats_or (fun vs H Q E h => ?_) (fun cdv A outer s H vs Q E hr h => ?_)
  · obtain ⟨_, _, _, _, _, rfl, _⟩ := h
    rfl
  · obtain ⟨x, y, k, m, L, rfl, hL, hk, hm, hp, kk⟩ := h
    refine ⟨_, (pss_one (ps_ret (pe_mk N_Pair hr (by decide) (by rfl) (pa_cons pe_str (pa_cons (pv 0) (pa_cons (pv 1) pa_nil)))))), ?_⟩
    exact mk_P (z := "either") (f := .either k m) Evl.ev_c (Evl.ev_var (v := .ref x) rfl) (Evl.ev_var (v := .ref y) rfl) hL hk hm hp (fun H' u dx h a b => ⟨dx, x, y, h, a, b⟩) H (Ex.refl H) _ kk
theorem ok_Flats_add {f : Addr} {fd : FuncData} (F : Fun K "__add__" "Flats.__add__" s_Flats_add f fd) (N_Pair : Mak P w K mg base 1 "Pair" (c .pa) (spIP c) []) : FnOk P w K mg base CX0 3 f fd ["self", "other"] (spPr c .any) := by
  refine F.ok sc_Flats_add (fun vs H Q E h => ?_) (fun cdv A outer s H vs Q E hr h => ?_)
  · obtain ⟨_, _, _, _, _, rfl, _⟩ := h
    rfl
  · obtain ⟨x, y, k, m, L, rfl, hL, hk, hm, hp, kk⟩ := h
    refine ⟨_, (pss_one (ps_ret (pe_mk N_Pair hr (by decide) (by rfl) (pa_cons pe_str (pa_cons (pv 0) (pa_cons (pv 1) pa_nil)))))), ?_⟩
    exact mk_P (z := "any") (f := .any k m) Evl.ev_c (Evl.ev_var (v := .ref x) rfl) (Evl.ev_var (v := .ref y) rfl) hL hk hm hp (fun H' u dx h a b => ⟨dx, x, y, h, a, b⟩) H (Ex.refl H) _ kk
theorem ok_Turns_invert {f : Addr} {fd : FuncData} (F : Fun K "__invert__" "Turns.__invert__" s_Turns_invert f fd) (N_Contrary : Mak P w K mg base 1 "Contrary" (c .co) (spIC c) []) : FnOk P w K mg base CX0 3 f fd ["self"] (spInv K c) := by
  refine F.ok sc_Turns_invert (fun vs H Q E h => ?_) (fun cdv A outer s H vs Q E hr h => ?_)
  · obtain ⟨_, _, _, rfl, _⟩ := h
    rfl
  · obtain ⟨x, k, L, rfl, hL, hk, kk⟩ := h
    refine ⟨_, (pss_one (ps_ret (pe_mk N_Contrary hr (by decide) (by rfl) (pa_cons (pv 0) pa_nil)))), ?_⟩
    exact mk_C (Evl.ev_var (v := .ref x) rfl) hL hk H (Ex.refl H) _ kk
theorem ok_Turns_and {f : Addr} {fd : FuncData} (F : Fun K "__and__" "Turns.__and__" s_Turns_and f fd) (N_Pair : Mak P w K mg base 1 "Pair" (c .pa) (spIP c) []) : FnOk P w K mg base CX0 3 f fd ["self", "other"] (spPr c .both) := by
  refine F.ok sc_Turns_and (fun vs H Q E h => ?_) (fun cdv A outer s H vs Q E hr h => ?_)
  · obtain ⟨_, _, _, _, _, rfl, _⟩ := h
    rfl
  · obtain ⟨x, y, k, m, L, rfl, hL, hk, hm, hp, kk⟩ := h
    refine ⟨_, (pss_one (ps_ret (pe_mk N_Pair hr (by decide) (by rfl) (pa_cons pe_str (pa_cons (pv 0) (pa_cons (pv 1) pa_nil)))))), ?_⟩
    exact mk_P (z := "both") (f := .both k m) Evl.ev_c (Evl.ev_var (v := .ref x) rfl) (Evl.ev_var (v := .ref y) rfl) hL hk hm hp (fun H' u dx h a b => ⟨dx, x, y, h, a, b⟩) H (Ex.refl H) _ kk
theorem ok_Turns_or {f : Addr} {fd : FuncData} (F : Fun K "__or__" "Turns.__or__" s_Turns_or f fd) (N_Pair : Mak P w K mg base 1 "Pair" (c .pa) (spIP c) []) : FnOk P w K mg base CX0 3 f fd ["self", "other"] (spPr c .either) := by
  refine F.ok sc_Turns_or (fun vs H Q E h => ?_) (fun cdv A outer s H vs Q E hr h => ?_)
  · obtain ⟨_, _, _, _, _, rfl, _⟩ := h
    rfl
  · obtain ⟨x, y, k, m, L, rfl, hL, hk, hm, hp, kk⟩ := h
    refine ⟨_, (pss_one (ps_ret (pe_mk N_Pair hr (by decide) (by rfl) (pa_cons pe_str (pa_cons (pv 0) (pa_cons (pv 1) pa_nil)))))), ?_⟩
    exact mk_P (z := "either") (f := .either k m) Evl.ev_c (Evl.ev_var (v := .ref x) rfl) (Evl.ev_var (v := .ref y) rfl) hL hk hm hp (fun H' u dx h a b => ⟨dx, x, y, h, a, b⟩) H (Ex.refl H) _ kk
theorem ok_Turns_add {f : Addr} {fd : FuncData} (F : Fun K "__add__" "Turns.__add__" s_Turns_add f fd) (N_Pair : Mak P w K mg base 1 "Pair" (c .pa) (spIP c) []) : FnOk P w K mg base CX0 3 f fd ["self", "other"] (spPr c .any) := by
  refine F.ok sc_Turns_add (fun vs H Q E h => ?_) (fun cdv A outer s H vs Q E hr h => ?_)
  · obtain ⟨_, _, _, _, _, rfl, _⟩ := h
    rfl
  · obtain ⟨x, y, k, m, L, rfl, hL, hk, hm, hp, kk⟩ := h
    refine ⟨_, (pss_one (ps_ret (pe_mk N_Pair hr (by decide) (by rfl) (pa_cons pe_str (pa_cons (pv 0) (pa_cons (pv 1) pa_nil)))))), ?_⟩
    exact mk_P (z := "any") (f := .any k m) Evl.ev_c (Evl.ev_var (v := .ref x) rfl) (Evl.ev_var (v := .ref y) rfl) hL hk hm hp (fun H' u dx h a b => ⟨dx, x, y, h, a, b⟩) H (Ex.refl H) _ kk
theorem ok_Contrary_invert {f : Addr} {fd : FuncData} (F : Fun K "__invert__" "Contrary.__invert__" s_Contrary_invert f fd) (N_Contrary : Mak P w K mg base 1 "Contrary" (c .co) (spIC c) []) : FnOk P w K mg base CX0 3 f fd ["self"] (spInv K c) := by
  refine F.ok sc_Contrary_invert (fun vs H Q E h => ?_) (fun cdv A outer s H vs Q E hr h => ?_)
  · obtain ⟨_, _, _, rfl, _⟩ := h
    rfl
  · obtain ⟨x, k, L, rfl, hL, hk, kk⟩ := h
    refine ⟨_, (pss_one (ps_ret (pe_mk N_Contrary hr (by decide) (by rfl) (pa_cons (pv 0) pa_nil)))), ?_⟩
    exact mk_C (Evl.ev_var (v := .ref x) rfl) hL hk H (Ex.refl H) _ kk
theorem ok_Contrary_and {f : Addr} {fd : FuncData} (F : Fun K "__and__" "Contrary.__and__" s_Contrary_and f fd) (N_Pair : Mak P w K mg base 1 "Pair" (c .pa) (spIP c) []) : FnOk P w K mg base CX0 3 f fd ["self", "other"] (spPr c .both) := by
  refine F.ok sc_Contrary_and (fun vs H Q E h => ?_) (fun cdv A outer s H vs Q E hr h => ?_)
  · obtain ⟨_, _, _, _, _, rfl, _⟩ := h
    rfl
  · obtain ⟨x, y, k, m, L, rfl, hL, hk, hm, hp, kk⟩ := h
    refine ⟨_, (pss_one (ps_ret (pe_mk N_Pair hr (by decide) (by rfl) (pa_cons pe_str (pa_cons (pv 0) (pa_cons (pv 1) pa_nil)))))), ?_⟩
    exact mk_P (z := "both") (f := .both k m) Evl.ev_c (Evl.ev_var (v := .ref x) rfl) (Evl.ev_var (v := .ref y) rfl) hL hk hm hp (fun H' u dx h a b => ⟨dx, x, y, h, a, b⟩) H (Ex.refl H) _ kk
theorem ok_Contrary_or {f : Addr} {fd : FuncData} (F : Fun K "__or__" "Contrary.__or__" s_Contrary_or f fd) (N_Pair : Mak P w K mg base 1 "Pair" (c .pa) (spIP c) []) : FnOk P w K mg base CX0 3 f fd ["self", "other"] (spPr c .either) := by
  refine F.ok sc_Contrary_or (fun vs H Q E h => ?_) (fun cdv A outer s H vs Q E hr h => ?_)
  · obtain ⟨_, _, _, _, _, rfl, _⟩ := h
    rfl
  · obtain ⟨x, y, k, m, L, rfl, hL, hk, hm, hp, kk⟩ := h
    refine ⟨_, (pss_one (ps_ret (pe_mk N_Pair hr (by decide) (by rfl) (pa_cons pe_str (pa_cons (pv 0) (pa_cons (pv 1) pa_nil)))))), ?_⟩
    exact mk_P (z := "either") (f := .either k m) Evl.ev_c (Evl.ev_var (v := .ref x) rfl) (Evl.ev_var (v := .ref y) rfl) hL hk hm hp (fun H' u dx h a b => ⟨dx, x, y, h, a, b⟩) H (Ex.refl H) _ kk
theorem ok_Contrary_add {f : Addr} {fd : FuncData} (F : Fun K "__add__" "Contrary.__add__" s_Contrary_add f fd) (N_Pair : Mak P w K mg base 1 "Pair" (c .pa) (spIP c) []) : FnOk P w K mg base CX0 3 f fd ["self", "other"] (spPr c .any) := by
  refine F.ok sc_Contrary_add (fun vs H Q E h => ?_) (fun cdv A outer s H vs Q E hr h => ?_)
  · obtain ⟨_, _, _, _, _, rfl, _⟩ := h
    rfl
  · obtain ⟨x, y, k, m, L, rfl, hL, hk, hm, hp, kk⟩ := h
    refine ⟨_, (pss_one (ps_ret (pe_mk N_Pair hr (by decide) (by rfl) (pa_cons pe_str (pa_cons (pv 0) (pa_cons (pv 1) pa_nil)))))), ?_⟩
    exact mk_P (z := "any") (f := .any k m) Evl.ev_c (Evl.ev_var (v := .ref x) rfl) (Evl.ev_var (v := .ref y) rfl) hL hk hm hp (fun H' u dx h a b => ⟨dx, x, y, h, a, b⟩) H (Ex.refl H) _ kk
theorem ok_Pair_invert {f : Addr} {fd : FuncData} (F : Fun K "__invert__" "Pair.__invert__" s_Pair_invert f fd) (N_Contrary : Mak P w K mg base 1 "Contrary" (c .co) (spIC c) []) : FnOk P w K mg base CX0 3 f fd ["self"] (spInv K c) := by
  refine F.ok sc_Pair_invert (fun vs H Q E h => ?_) (fun cdv A outer s H vs Q E hr h => ?_)
  · obtain ⟨_, _, _, rfl, _⟩ := h
    rfl
  · obtain ⟨x, k, L, rfl, hL, hk, kk⟩ := h
    refine ⟨_, (pss_one (ps_ret (pe_mk N_Contrary hr (by decide) (by rfl) (pa_cons (pv 0) pa_nil)))), ?_⟩
    exact mk_C (Evl.ev_var (v := .ref x) rfl) hL hk H (Ex.refl H) _ kk
theorem ok_Pair_and {f : Addr} {fd : FuncData} (F : Fun K "__and__" "Pair.__and__" s_Pair_and f fd) (N_Pair : Mak P w K mg base 1 "Pair" (c .pa) (spIP c) []) : FnOk P w K mg base CX0 3 f fd ["self", "other"] (spPr c .both) := by
  refine F.ok sc_Pair_and (fun vs H Q E h => ?_) (fun cdv A outer s H vs Q E hr h => ?_)
  · obtain ⟨_, _, _, _, _, rfl, _⟩ := h
    rfl
  · obtain ⟨x, y, k, m, L, rfl, hL, hk, hm, hp, kk⟩ := h
    refine ⟨_, (pss_one (ps_ret (pe_mk N_Pair hr (by decide) (by rfl) (pa_cons pe_str (pa_cons (pv 0) (pa_cons (pv 1) pa_nil)))))), ?_⟩
    exact mk_P (z := "both") (f := .both k m) Evl.ev_c (Evl.ev_var (v := .ref x) rfl) (Evl.ev_var (v := .ref y) rfl) hL hk hm hp (fun H' u dx h a b => ⟨dx, x, y, h, a, b⟩) H (Ex.refl H) _ kk
theorem ok_Pair_or {f : Addr} {fd : FuncData} (F : Fun K "__or__" "Pair.__or__" s_Pair_or f fd) (N_Pair : Mak P w K mg base 1 "Pair" (c .pa) (spIP c) []) : FnOk P w K mg base CX0 3 f fd ["self", "other"] (spPr c .either) := by
  refine F.ok sc_Pair_or (fun vs H Q E h => ?_) (fun cdv A outer s H vs Q E hr h => ?_)
  · obtain ⟨_, _, _, _, _, rfl, _⟩ := h
    rfl
  · obtain ⟨x, y, k, m, L, rfl, hL, hk, hm, hp, kk⟩ := h
    refine ⟨_, (pss_one (ps_ret (pe_mk N_Pair hr (by decide) (by rfl) (pa_cons pe_str (pa_cons (pv 0) (pa_cons (pv 1) pa_nil)))))), ?_⟩
    exact mk_P (z := "either") (f := .either k m) Evl.ev_c (Evl.ev_var (v := .ref x) rfl) (Evl.ev_var (v := .ref y) rfl) hL hk hm hp (fun H' u dx h a b => ⟨dx, x, y, h, a, b⟩) H (Ex.refl H) _ kk
theorem ok_Pair_add {f : Addr} {fd : FuncData} (F : Fun K "__add__" "Pair.__add__" s_Pair_add f fd) (N_Pair : Mak P w K mg base 1 "Pair" (c .pa) (spIP c) []) : FnOk P w K mg base CX0 3 f fd ["self", "other"] (spPr c .any) := by
  refine F.ok sc_Pair_add (fun vs H Q E h => ?_) (fun cdv A outer s H vs Q E hr h => ?_)
  · obtain ⟨_, _, _, _, _, rfl, _⟩ := h
    rfl
  · obtain ⟨x, y, k, m, L, rfl, hL, hk, hm, hp, kk⟩ := h
    refine ⟨_, (pss_one (ps_ret (pe_mk N_Pair hr (by decide) (by rfl) (pa_cons pe_str (pa_cons (pv 0) (pa_cons (pv 1) pa_nil)))))), ?_⟩
    exact mk_P (z := "any") (f := .any k m) Evl.ev_c (Evl.ev_var (v := .ref x) rfl) (Evl.ev_var (v := .ref y) rfl) hL hk hm hp (fun H' u dx h a b => ⟨dx, x, y, h, a, b⟩) H (Ex.refl H) _ kk
end
end U

set_option Elab.async false
set_option linter.all false
set_option maxRecDepth 100000
set_option maxHeartbeats 2000000
/-! defs that may raise an own error with one field -/
namespace U
open PySem PySem.Spec PyProof.Rows L2
open Evl (Ex)
/-- a def that may raise, with its promise -/
structure DefX (P : Program) (w : World) (K : PySem.W.Frag) (mg : Str → Option Value) (base : Heap) (x : Str) (k : Nat) (ps : List Str) (sp : Sp) : Prop where
  ex : ∃ (f : Addr) (fd : FuncData), FnOk P w K mg base (CX P w) k f fd ps sp ∧ mg x = some (.ref f) ∧ PySem.W.keepIn K (.ref f) = true ∧ Binds K fd ps []
/-- f(e, ..): what it raises is E -/
def tCallX (sp : Sp) (E : XK) (t : TA) : TE := fun σ H Q => t σ H fun vs H1 => sp vs H1 Q E
theorem pe_callX {X : Cx} {x : Str} {k : Nat} {ps : List Str} {sp : Sp} {p pos : Pos} {e : Expr} {es : List Expr} {t : TA} {E : XK} (D : DefX X.prog X.w X.K X.mg X.base x k ps sp) (hr : Room k X.A) (hx : Passes (CX X.prog X.w) X E) (hg : Gl X x) (ha : PA X (e :: es) t)
    (hdb : (x == ("__debug__" : Str)) = false := by decide) (he : starEach (e :: es) X.env = (false, eval e X.env) :: starEach es X.env := by rfl) (hpl : (backTo pos (starEach es X.env)).any (·.1) = false := by rfl) :
    PE X (.Call (.Name x p) (e :: es) [] pos) (tCallX sp E t) := by
  obtain ⟨f, fd, F, hm, hk, hb⟩ := D.ex
  refine ⟨fun pins s σ H Q I h => (pe_call (E := E) F hr hg hm hk hb .nil hx ha hdb he hpl).run pins s σ H Q I ?_⟩
  have e1 : (fun (vs : List V) (H1 : Hp) => sp (vs ++ []) H1 Q E) = fun vs H1 => sp vs H1 Q E := by
    funext vs H1
    rw [List.append_nil]
  show t σ H fun vs H1 => sp (vs ++ []) H1 Q E
  rw [e1]
  exact h
/-- nothing leaves -/
theorem passX0 {X : Cx} : Passes (CX X.prog X.w) X E0 := fun _ _ _ _ _ _ _ c => by
  obtain ⟨_, _, _, _, _, _, _, _, _, _, _, _, z⟩ := c
  exact z.elim
theorem Passes.of {X : Cx} {E : XK} (tk : Takes X (fun cls d _ H => E cls d H)) : Passes (CX X.prog X.w) X E := passes_call tk fun _ _ _ _ h => h
/-- what an own __init__(self, f) promises -/
def spErrI (C : Addr) (f : Str) : Sp := fun vs H Q _ => ∃ (a : Addr) (v : V), vs = [.ref a, v] ∧ H a = some (exo a C none) ∧ ∀ dx, H dx = none → dx ≠ a → Q .non (upd (upd H dx (exd dx [(f, v)])) a (exo a C (some dx)))
theorem pmk_err {X : Cx} {x f : Str} {C : Addr} {e : Expr} {te : TE} {p pos : Pos} (R : ErrC X.prog X.w X.K X.mg X.base x C f) (hr : Room 2 X.A) (hg : Gl X x) (he : PE X e te) (hdb : (x == ("__debug__" : Str)) = false := by decide)
    (hs : starEach [e] X.env = (false, eval e X.env) :: starEach [] X.env := by rfl) : PMk X (.Call (.Name x p) [e] [] pos) (tMkO C (spErrI C f) [] (tCons te tNil)) := by
  obtain ⟨fI, fd, iC, tI, F1, hb, _⟩ := R.init
  exact pmk_oex R.T iC tI F1 hr hb .nil pass0 hg R.gC (pa_cons he pa_nil hs) hdb hs (by rfl)
theorem mk_err_run {C : Addr} {f : Str} {te : TE} {σ : L2.St} {H : Hp} {v : V} {Q : XK} (h : Evl.Ev te σ H v) (k : ∀ d H2, H d = none → Ex H H2 → H2 d = some (.xd [(f, v)]) → Q (.ref C) (some d) H2) : tMkO C (spErrI C f) [] (tCons te tNil) σ H Q :=
  h H (Ex.refl _) _ fun H1 e1 => ⟨by simp, fun a ha => ⟨a, v, rfl, upd_same, fun dx hdx nx => by
    have hd1 : H1 dx = none := by
      rw [upd_ne nx] at hdx
      exact hdx
    refine ⟨rfl, dx, [(f, v)], upd_same, by rw [upd_ne nx, upd_same], hd1, k dx _ (Evl.fresh_back e1 hd1) (fun b o e => ?_) upd_same⟩
    have e' := e1 b o e
    have n1 : b ≠ a := ne_of_none e' ha
    have n2 : b ≠ dx := ne_of_none e' hd1
    rw [upd_ne n2]
    show del _ a b = _
    rw [del_ne n1, upd_ne n1, upd_ne n2, upd_ne n1]
    exact e'⟩⟩
/-- an error whose field is v was made and raised -/
def ErrE (C : Addr) (f : Str) (v : V) (H : Hp) (E : XK) : Prop := ∀ d H2, H d = none → Ex H H2 → H2 d = some (.xd [(f, v)]) → E (.ref C) (some d) H2
theorem ErrE.ex {C : Addr} {f : Str} {v : V} {H H1 : Hp} {E : XK} (h : ErrE C f v H E) (e : Ex H H1) : ErrE C f v H1 E := fun d H2 hd e2 hx => h d H2 (Evl.fresh_back e hd) (e.trans e2) hx
end U

set_option Elab.async false
set_option linter.all false
set_option maxRecDepth 100000
/-! several except clauses, each with or without a name -/
namespace U
open PySem PySem.Spec PyProof.Rows L2
/-- a clause: its class, its name's slot, its suite -/
structure Clau where
  cls : Value
  slot : Option Nat
  ts : Addr → Value → Option Addr → TS
/-- the name goes when the suite ends -/
def endsC (D : Ends) : Option Nat → Ends
  | none => D
  | some i => { nx := fun σ' H' => D.nx (σ'.set i none) H', rt := D.rt, bk := fun σ' H' => D.bk (σ'.set i none) H', ct := fun σ' H' => D.ct (σ'.set i none) H' }
def inC (σ : L2.St) (a : Addr) : Option Nat → L2.St
  | none => σ
  | some i => σ.set i (some (.ref a))
def wCl (K : PySem.W.Frag) (Wout : WX) (D : Ends) : List Clau → WX
  | [] => Wout
  | c :: r => fun cls d σ H => ∃ b, PySem.W.exmOne K cls c.cls = some b ∧ (b = true → ∀ a, H a = none → c.ts a cls d (endsC D c.slot) (inC σ a c.slot) H) ∧ (b = false → wCl K Wout D r cls d σ H)
def NameC (X : Cx) (nm : Option Str) (slot : Option Nat) : Prop := (nm = none ∧ slot = none) ∨ ∃ n i, nm = some n ∧ slot = some i ∧ X.N.Nodup ∧ X.N[i]? = some n ∧ X.env.kindOf n = some .local
inductive ClOk (X : Cx) : List ExceptHandler → List Clau → Prop
  | nil : ClOk X [] []
  | cons {x : Str} {c : Clau} {nm : Option Str} {b₀ : Stmt} {suite : List Stmt} {np pos' : Pos} {hds : List ExceptHandler} {l : List Clau} (hc : Names X x c.cls) (hn : NameC X nm c.slot)
      (hsu : ∀ (a : Addr) (oe : Obj) (cls : Value) (d : Option Addr) (pn : List (Addr × Obj)), Zc cls d oe → (∃ vs, oe.data = .fields vs) → PSs (X.suite a ((a, oe) :: pn)) (b₀ :: suite) (c.ts a cls d)) (r : ClOk X hds l) :
      ClOk X (.ExceptHandler (some (.Name x np)) nm (b₀ :: suite) pos' :: hds) (c :: l)
section
variable {X : Cx} {body : List Stmt} {h₀ : ExceptHandler} {hds : List ExceptHandler} {l : List Clau} {pos : Pos} {tb : WX → TS} {Wout : WX}
/-- a suite run where the exception stands -/
theorem suite_ends {pins : List (Addr × Obj)} {D : Ends} {f : Flow} {s6 : Shared} {a : Addr} {oe : Obj} (ok : X.Ok) (h : SP (X.suite a ((a, oe) :: (X.pn ++ pins))) [] D f s6) : SP X pins D f s6 := by
  cases f with
  | next => obtain ⟨σ6, H6, S6, q6⟩ := h; exact ⟨_, _, S6.unsuite ok, q6⟩
  | brk => obtain ⟨σ6, H6, S6, q6⟩ := h; exact ⟨_, _, S6.unsuite ok, q6⟩
  | cont => obtain ⟨σ6, H6, S6, q6⟩ := h; exact ⟨_, _, S6.unsuite ok, q6⟩
  | ret u => obtain ⟨v6, σ6, H6, S6, r6, q6⟩ := h; exact ⟨_, _, _, S6.unsuite ok, r6, q6⟩
theorem ps_try_cl (hs : X.stack = X.env :: X.outer) (hf : X.env.frame = some X.env.locals) (tk : Takes X Wout)
    (hb : ∀ (W : WX) (pn : List (Addr × Obj)) (xe : Value → Shared → Prop), Takes (X.tr pn xe) W → PassesOwn (model X.prog X.w) X.A X.env xe → PSs (X.tr pn xe) body (tb W))
    (hh : ClOk X (h₀ :: hds) l) : PS X (.Try body (h₀ :: hds) [] [] pos) (fun D σ H => tb (wCl X.K Wout D l) D σ H) := by
  refine ⟨fun pins s σ H D I h => ?_⟩
  have ok := I.ok
  have hfr : X.A.frames = some (X.env :: X.outer) := by rw [ok.frames, hs]
  -- the clauses, one after the other, for the exception at a
  let after : Value → Shared → Prop := fun e s₁ => wpAny (model X.prog X.w) X.A (noteFrame e X.env) (fun _ s₂ => wpAny (model X.prog X.w) X.A (setFlight e none) (fun _ s₃ =>
    wpAny (model X.prog X.w) X.A (handleBy e X.env (h₀ :: hds)) (SP X pins D) X.xe s₃) X.xe s₂) X.xe s₁
  have caught : ∀ u s', XE (X.tr (X.pn ++ pins) after) (wCl X.K Wout D l) u s' → after u s' := by
    rintro u s' ⟨a, B, sI, pins', σ', H', cls, d, rfl, J', nb, up, sky, na, os, ag, w⟩
    have J : Inv X pins σ' H' sI := J'.ofTry ok
    have sky' : Sky B (X.env :: X.outer) a (Zc cls d) X.env.locals s'.heap := by rw [← hs]; exact sky
    show wpAny (model X.prog X.w) X.A (noteFrame (.ref a) X.env) _ _ _
    refine Sky.land Zc.steady hfr hf sky' fun h3 fl3 up3 => ?_
    have J3 : Inv X pins σ' H' { s' with heap := h3 } := J.landed nb fl3.1 (up.trans up3) os ag
    obtain ⟨oe3, vs3, he3, hz3, hd3⟩ := fl3.there
    have nfr : a ∉ frs (X.env :: X.outer) := fun hm => by
      obtain ⟨_, o', e', hnf⟩ := fl3.2.2.1.mem hm
      rw [he3] at e'
      cases e'
      exact hnf _ hd3
    have nL : a ≠ X.env.locals := fun z => nfr (List.mem_filterMap.mpr ⟨X.env, List.mem_cons_self, by rw [hf, z]⟩)
    have nF : a ∉ X.fs := fun hm => by
      obtain ⟨e, he, q⟩ := List.mem_filterMap.mp hm
      exact nfr (List.mem_filterMap.mpr ⟨e, List.mem_cons_of_mem _ he, q⟩)
    have S3 := J3.suite he3 hd3 na nL nF
    have go : ∀ {hds' : List ExceptHandler} {l' : List Clau}, ClOk X hds' l' → wCl X.K Wout D l' cls d σ' H' → wpAny (model X.prog X.w) X.A (handleBy (.ref a) X.env hds') (SP X pins D) X.xe { s' with heap := h3 } := by
      intro hds' l' hk
      induction hk with
      | nil =>
        intro w
        have fin : wpAny (model X.prog X.w) X.A (setFlight (.ref a) X.env.frame) (fun _ s4 => wpAny (model X.prog X.w) X.A (throw (.ref a) : Sem Flow) (SP X pins D) X.xe s4) X.xe { s' with heap := h3 } := by
          rw [hf]
          exact HandSPX.setFlight_upZ fl3 fun h4 hh4 up4 => wpAny_throw (tk _ _ ⟨a, B, sI, pins, σ', H', cls, d, rfl, J, nb, (up.trans up3).trans up4, .inr (.inr (by rw [hs]; exact hh4)), na, os, ag, w⟩)
        obtain ⟨_, _, _, oe, vs, T, oT, ts', he, hz, hd, h1, hr⟩ := id fl3
        refine wpAny_handleBy_nil ?_
        unfold PySem.passOn
        refine wpAny_bind (wpAny_field he hd h1 ?_)
        rw [if_neg (show ¬ ((Value.ref T == Value.none) = true) from by simp)]
        first
          | exact wpAny_bind (wpAny_pure (wpAny_bind fin))
          | exact wpAny_bind fin
      | @cons x c nm b₀ suite np pos' hds2 l2 hc hn hsu r ih =>
        rintro ⟨b, hb1, hyes, hno⟩
        have LT : PySem.W.Looks (model X.prog X.w) h3 (typeOf (.ref a)) cls := fun A Q E s k q => wpAny_typeOf_ref (k _ _ he3) (by rw [hz3.1]; exact q)
        have LM := PySem.W.exm_one (M := model X.prog X.w) (J3.kIn) LT hb1
        refine wpAny_handleBy_cons (codeAny_handlers_test ?_) (by intro q; cases q)
        have test : ∀ {Q : Value → Shared → Prop} {E : Value → Shared → Prop}, Q c.cls { s' with heap := h3 } → wpAny (model X.prog X.w) (X.A.mark (some (.ref a))) (eval (.Name x np) X.env) Q E { s' with heap := h3 } := fun {Q E} q => by
          obtain ⟨hg, hdbg, hm | ⟨hm, hv, hnn⟩⟩ := hc
          · exact ld_glob (X := X.suite a ((a, oe3) :: (X.pn ++ pins))) S3 hg hm q hdbg
          · exact ld_blt (X := X.suite a ((a, oe3) :: (X.pn ++ pins))) S3 hg hm hv q hnn hdbg
        refine test (LM.here ?_)
        cases b with
        | false => exact ih (hno rfl)
        | true =>
          replace hyes := hyes rfl a na
          rcases hn with ⟨rfl, e2⟩ | ⟨n, i, rfl, e2, hN, hi, hln⟩
          · rw [e2] at hyes
            refine codeAny_handlers_suite (HandSPX.lands_againZ fl3 fun h4 fl4 up4 => ?_)
            have J4 : Inv X pins σ' H' { s' with heap := h4 } := J.landed nb fl4.1 ((up.trans up3).trans up4) os ag
            obtain ⟨oe4, vs4, he4, hz4, hd4⟩ := fl4.there
            exact wpAny_mono ((hsu a oe4 cls d (X.pn ++ pins) hz4 ⟨_, hd4⟩).run [] _ _ H' _ (J4.suite he4 hd4 na nL nF) hyes) (fun f s6 hsp => suite_ends ok hsp) (fun _ _ z => False.elim z)
          · rw [e2] at hyes
            refine codeAny_handlers_suite_as (HandSPX.lands_againZ fl3 fun h4 fl4 up4 => ?_)
            have J4 : Inv X pins σ' H' { s' with heap := h4 } := J.landed nb fl4.1 ((up.trans up3).trans up4) os ag
            obtain ⟨oe4, vs4, he4, hz4, hd4⟩ := fl4.there
            refine store_ok (X := X.suite a ((a, oe4) :: (X.pn ++ pins))) (v := .ref a) (J4.suite he4 hd4 na nL nF) hN hi (.inl hln) rfl (fun s5 S5 => ?_) (.inr hln)
            refine wpAny_mono ((hsu a oe4 cls d (X.pn ++ pins) hz4 ⟨_, hd4⟩).run [] s5 _ H' _ S5 hyes) (fun f s6 hsp => ?_) (fun _ _ z => False.elim z)
            cases f with
            | next => obtain ⟨σ6, H6, S6, q6⟩ := hsp; exact gone_ok (S6.unsuite ok) hN hi hln fun s7 J7 => ⟨_, _, J7, q6⟩
            | brk => obtain ⟨σ6, H6, S6, q6⟩ := hsp; exact gone_ok (S6.unsuite ok) hN hi hln fun s7 J7 => ⟨_, _, J7, q6⟩
            | cont => obtain ⟨σ6, H6, S6, q6⟩ := hsp; exact gone_ok (S6.unsuite ok) hN hi hln fun s7 J7 => ⟨_, _, J7, q6⟩
            | ret u => obtain ⟨v6, σ6, H6, S6, r6, q6⟩ := hsp; exact gone_ok (S6.unsuite ok) hN hi hln fun s7 J7 => ⟨_, _, _, J7, r6, q6⟩
    exact go hh w
  refine wpAny_Try_except ?_
  refine wpAny_mono ((hb (wCl X.K Wout D l) (X.pn ++ pins) after caught PassesOwn.looking).run [] s σ H D (I.toTry _) h) (fun f s1 hsp => ?_) (fun e s1 he => he)
  cases f with
  | next => obtain ⟨σ', H', J', q⟩ := hsp; exact wpAny_execs_nil ⟨σ', H', J'.ofTry ok, q⟩
  | brk => obtain ⟨σ', H', J', q⟩ := hsp; exact ⟨σ', H', J'.ofTry ok, q⟩
  | cont => obtain ⟨σ', H', J', q⟩ := hsp; exact ⟨σ', H', J'.ofTry ok, q⟩
  | ret u => obtain ⟨v, σ', H', J', r, q⟩ := hsp; exact ⟨v, σ', H', J'.ofTry ok, r, q⟩
end
end U

set_option Elab.async false
set_option linter.all false
set_option maxRecDepth 100000
set_option maxHeartbeats 4000000
/-! how a call ends -/
namespace U
open PySem PySem.Spec PyProof.Rows L2
open Evl (Ex)
abbrev s_end : Stmt := top 32
abbrev sc_end_N : List Str := ["_law_ask", "_law_found", "e"]
theorem sc_end : FnScope sc_end_N ["_law_ask"] (defScope s_end) := ⟨rfl, rfl, rfl, by decide +kernel, rfl, by decide +kernel, by decide +kernel⟩
theorem takes_len {X : Cx} {W : WX} (tk : Takes X W) : Takes X (fun cls d σ H => σ.length = X.N.length → W cls d σ H) := fun u s' ⟨a, B, sI, pins, σ, H, cls, d, e, I, nb, up, sky, na, os, ag, w⟩ =>
  tk u s' ⟨a, B, sI, pins, σ, H, cls, d, e, I, nb, up, sky, na, os, ag, w I.len⟩
/-- an error's field told behind a word (no field: None) -/
def endE (K : PySem.W.Frag) (Q : VK) : List (Addr × Option Str × Str) → XK
  | [] => fun _ _ _ => False
  | (C, some fld, word) :: r => fun cls d H => ∃ b, PySem.W.exmOne K cls (.ref C) = some b ∧ (b = true → cls = .ref C ∧ ∃ (dd : Addr) (fs : List (Str × V)) (v : V), d = some dd ∧ H dd = some (.xd fs) ∧ fs.lookup fld = some v ∧ ∀ t, H t = none → Q (.ref t) (upd H t (.tup [.str word, v]))) ∧ (b = false → endE K Q r cls d H)
  | (C, none, word) :: r => fun cls d H => ∃ b, PySem.W.exmOne K cls (.ref C) = some b ∧ (b = true → ∀ t, H t = none → Q (.ref t) (upd H t (.tup [.str word, .non]))) ∧ (b = false → endE K Q r cls d H)
/-- what the lambda gave, told; or its error -/
def TEnd (K : PySem.W.Frag) (cl : List (Addr × Option Str × Str)) : (XK → Hp → VK → Prop) → Hp → VK → Prop := fun tl H Q => ∀ (k : VK) (H1 : Hp), Ex H H1 → (∀ v H2, (∀ t, H2 t = none → Q (.ref t) (upd H2 t (.tup [.str "told", v]))) → k v H2) → tl (endE K Q cl) H1 k
abbrev clsE (CP CM CU : Addr) : List (Addr × Option Str × Str) := [(CP, some "places", "places"), (CM, some "most", "most"), (CU, none, "unlike")]
theorem end_gives {X : Cx} {g : Addr} {cdg : Value} {q : Str} {CP CM CU : Addr} (R1 : ErrC X.prog X.w X.K X.mg X.base "BadPlaces" CP "places") (R2 : ErrC X.prog X.w X.K X.mg X.base "BadMost" CM "most") (gU : X.mg "UnlikePlaces" = some (.ref CU)) :
    LamX.GivesTo X sc_end_N "_law_end" (defScope s_end) g cdg (defBody s_end) "_law_ask" q (TEnd X.K (clsE CP CM CU)) := by
  intro f c' s H Q tl act hc h
  refine ⟨_, pss_cons (ps_set (i := 1) sc_end.nd rfl (by first | exact Or.inl rfl | exact Or.inr rfl) (pe_tup (pa_cons pe_str (pa_cons pe_non pa_nil)))) (pss_cons (ps_try_cl (X := (cxOf CX0 X.prog X.w X.K X.mg X.base sc_end_N "_law_end" (defScope s_end) g cdg X.A X.stack s H E0).nox)
      (l := [⟨.ref CP, some 2, fun a cls d => tAsg (tTup (tCons (tC (.str "places")) (tCons (tXf a cls d CP "places" (tVar 2)) tNil))) (gName 1)⟩, ⟨.ref CM, some 2, fun a cls d => tAsg (tTup (tCons (tC (.str "most")) (tCons (tXf a cls d CM "most" (tVar 2)) tNil))) (gName 1)⟩, ⟨.ref CU, none, fun a cls d => tAsg (tTup (tCons (tC (.str "unlike")) (tCons (tC .non) tNil))) (gName 1)⟩])
      (tb := fun W D σ H => ∃ Ech : XK, (∀ cls d σ' H', Ech cls d H' → σ'.length = 3 → W cls d σ' H') ∧ tAsg (tTup (tCons (tC (.str "told")) (tCons (fun σZ HZ Q => σZ[0]? = some (some (.ref f)) ∧ HZ c' = some (LamX.CodeO c' q) ∧ tl Ech HZ Q) tNil))) (gName 1) D σ H)
      (Wout := fun _ _ _ _ => False) rfl rfl LamX.takes0 (fun W pn xe tk _ => ⟨fun pins s' σ H' D I h' => ?_⟩)
      (.cons ⟨rfl, by decide, .inl R1.gC⟩ (.inr ⟨"e", 2, rfl, rfl, sc_end.nd, rfl, rfl⟩) (fun a oe cls d pn hz hf => pss_one (ps_set (i := 1) sc_end.nd rfl (by first | exact Or.inl rfl | exact Or.inr rfl) (pe_tup (pa_cons pe_str (pa_cons (pe_xf (X := (cxOf CX0 X.prog X.w X.K X.mg X.base sc_end_N "_law_end" (defScope s_end) g cdg X.A X.stack s H E0).nox) R1.xf R1.no hz hf (pv 2)) pa_nil)))))
        (.cons ⟨rfl, by decide, .inl R2.gC⟩ (.inr ⟨"e", 2, rfl, rfl, sc_end.nd, rfl, rfl⟩) (fun a oe cls d pn hz hf => pss_one (ps_set (i := 1) sc_end.nd rfl (by first | exact Or.inl rfl | exact Or.inr rfl) (pe_tup (pa_cons pe_str (pa_cons (pe_xf (X := (cxOf CX0 X.prog X.w X.K X.mg X.base sc_end_N "_law_end" (defScope s_end) g cdg X.A X.stack s H E0).nox) R2.xf R2.no hz hf (pv 2)) pa_nil)))))
          (.cons ⟨rfl, by decide, .inl gU⟩ (.inl ⟨rfl, rfl⟩) (fun a oe cls d pn hz hf => pss_one (ps_set (i := 1) sc_end.nd rfl (by first | exact Or.inl rfl | exact Or.inr rfl) (pe_tup (pa_cons pe_str (pa_cons pe_non pa_nil))))) .nil))))
    (pss_one (ps_ret (pv 1)))), ?_⟩
  · obtain ⟨Ech, hW, h1⟩ := h'
    have hp := fun p1 p2 => act _ pn xe Ech p1 p2 (takes_len tk) hW
    exact (pss_one (ps_set (i := 1) sc_end.nd rfl (by first | exact Or.inl rfl | exact Or.inr rfl) (pe_tup (pa_cons pe_str (pa_cons (hp _ _) pa_nil))))).run pins s' σ H' D I h1
  · refine ⟨by show 2 ≤ sizeLine; decide, fun t0 ht0 => ?_⟩
    have e0 : Ex H (upd H t0 (.tup [.str "odd", .non])) := Ex.new ht0
    refine ⟨endE X.K Q (clsE CP CM CU), fun cls d σ' H' h' hl => ?_, rfl, e0 _ _ hc, h _ _ e0 fun v H1 hv => ⟨by show 2 ≤ sizeLine; decide, fun t ht => ⟨_, rfl, hv t ht⟩⟩⟩
    have fin : ∀ (C : Addr) (fld word : Str) (a : Addr), (cls = .ref C ∧ ∃ (dd : Addr) (fs : List (Str × V)) (v : V), d = some dd ∧ H' dd = some (.xd fs) ∧ fs.lookup fld = some v ∧ ∀ t, H' t = none → Q (.ref t) (upd H' t (.tup [.str word, v]))) →
        tAsg (tTup (tCons (tC (.str word)) (tCons (tXf a cls d C fld (tVar 2)) tNil))) (gName 1) (endsC { nx := tRet (tVar 1) { nx := fun x H' => Q V.non H', rt := Q }, rt := Q } (some 2)) (inC σ' a (some 2)) H' := by
      rintro C fld word a ⟨hc', dd, fs, v, hd, hx, hf, hq⟩
      match σ', hl with
      | [x0, x1, x2], _ => exact ⟨_, rfl, rfl, hc', dd, fs, v, hd, hx, hf, by show 2 ≤ sizeLine; decide, fun t ht => ⟨_, rfl, hq t ht⟩⟩
    obtain ⟨b1, m1, y1, n1⟩ := h'
    refine ⟨b1, m1, fun z a ha => fin CP "places" "places" a (y1 z), fun z => ?_⟩
    obtain ⟨b2, m2, y2, n2⟩ := n1 z
    refine ⟨b2, m2, fun z a ha => fin CM "most" "most" a (y2 z), fun z => ?_⟩
    obtain ⟨b3, m3, y3, n3⟩ := n2 z
    refine ⟨b3, m3, fun z a ha => ?_, fun z => (n3 z).elim⟩
    match σ', hl with
    | [x0, x1, x2], _ => exact ⟨by show 2 ≤ sizeLine; decide, fun t ht => ⟨_, rfl, y3 z t ht⟩⟩
end U

set_option Elab.async false
set_option linter.all false
set_option maxRecDepth 100000
set_option maxHeartbeats 4000000
/-! a lambda handed to the def that tells how a call ends; more tables than one -/
namespace U
open PySem PySem.Spec PyProof.Rows L2
open Evl (Ex)
open C8 (Met Mak pe_mt pe_mt0 pe_mk)
/-- the promise of a def whose code object is known -/
theorem ok_code {P : Program} {w : World} {K : PySem.W.Frag} {mg : Str → Option Value} {base : Heap} {k : Nat} {f : Addr} {name qual : Str} {params : Arguments} {body : List Stmt} {scope : Scope} {dV kV doc pm cdv ct oc : Value} {an od : Option Addr} {osl : Array (Option Value)} {N ps : List Str} {sp : Sp}
    (lk : K.lookup f = some ⟨oc, od, .func (PySem.W.fnOf name qual params body scope dV kV doc pm an cdv ct), osl⟩) (hcd : PySem.W.codeIn K cdv qual = true) (S : FnScope N ps scope) (len : ∀ vs H Q E, sp vs H Q E → vs.length = ps.length)
    (hbody : ∀ (A : Around) (outer : List Env) (s : Shared) (H : Hp) (vs : List V) (Q : VK) (E : XK), Room k (A.deeper (envOfC qual scope s.heap.objs.size f cdv)) → sp vs H Q E →
      ∃ t, PSs (cxOf CX0 P w K mg base N qual scope f cdv A outer s H E).nox body t ∧ t { nx := fun _ H' => Q .non H', rt := Q } (L2.start N vs) H) :
    FnOk P w K mg base CX0 (k + 1) f (PySem.W.fnOf name qual params body scope dV kV doc pm an cdv ct) ps sp :=
  ⟨len, fun A outer s H args us vs Q E hr e0 hb r h => LamX.run_ofS lk hcd S hr e0 hb r (len _ _ _ _ h) fun hr' => by
    obtain ⟨t, h1, h2⟩ := hbody A outer s H vs Q E hr' h
    exact ⟨t, h1.nox, h2⟩⟩
/-- a class whose making may raise -/
structure MakX (P : Program) (w : World) (K : PySem.W.Frag) (mg : Str → Option Value) (base : Heap) (k : Nat) (x : Str) (C : Addr) (sp : Sp) (dvs : List V) : Prop where
  ex : ∃ (f : Addr) (fd : FuncData) (ps : List Str) (ds : List Value), Mk K C f ∧ FnOk P w K mg base (L2.CX P w) k f fd ps sp ∧ mg x = some (.ref C) ∧ Binds K fd ps ds ∧ Vals dvs ds
section
variable {X : Cx} {k j : Nat} {C : Addr} {x m : Str} {sp : Sp} {dvs : List V} {p pos apos : Pos} {e o : Expr} {es : List Expr} {ta : TE} {t : TA} {E : XK}
theorem pe_mkX (c : MakX X.prog X.w X.K X.mg X.base k x C sp dvs) (hr : Room j X.A) (hk : k + 1 ≤ j) (hx : Passes (L2.CX X.prog X.w) X E) (hg : Gl X x) (ha : PA X (e :: es) t)
    (hdb : (x == ("__debug__" : Str)) = false := by decide) (he : starEach (e :: es) X.env = (false, eval e X.env) :: starEach es X.env := by rfl) (hpl : (backTo pos (starEach es X.env)).any (·.1) = false := by rfl) :
    PE X (.Call (.Name x p) (e :: es) [] pos) (tMake C sp dvs E t) := by
  obtain ⟨f, fd, ps, ds, M, F, hm, b, d⟩ := c.ex
  exact pe_make M F (hr.mono hk) hg hm b d hx ha hdb he hpl
end
/-- the def that tells how a call ends -/
structure EndL (P : Program) (w : World) (K : PySem.W.Frag) (mg : Str → Option Value) (base : Heap) (CP CM CU : Addr) : Prop where
  ex : ∃ (g : Addr) (oc dV kV doc pm cdv ct : Value) (an od : Option Addr) (osl : Array (Option Value)), mg "_law_end" = some (.ref g) ∧ PySem.W.keepIn K (.ref g) = true ∧
    K.lookup g = some ⟨oc, od, .func (PySem.W.fnOf "_law_end" "_law_end" (defArgs s_end) (defBody s_end) (defScope s_end) dV kV doc pm an cdv ct), osl⟩ ∧ PySem.W.codeIn K cdv "_law_end" = true ∧
    L2.Binds K (PySem.W.fnOf "_law_end" "_law_end" (defArgs s_end) (defBody s_end) (defScope s_end) dV kV doc pm an cdv ct) ["_law_ask"] []
  R1 : ErrC P w K mg base "BadPlaces" CP "places"
  R2 : ErrC P w K mg base "BadMost" CM "most"
  gU : mg "UnlikePlaces" = some (.ref CU)
theorem pe_end {X : Cx} {cA PT CP CM CU : Addr} {T : List (Addr × Str)} {k : Nat} {params : Arguments} {body : Expr} {scope : Scope} {t : XK → TE} {p lpos pos : Pos} (D : EndL X.prog X.w X.K X.mg X.base CP CM CU) (TB : LamX.TabB X.base X.mg cA PT) (hg : Gl X "_law_end") (hcode : X.env.code = .ref cA) (hmT : (PT, X.env.qual ++ "<lambda>") ∈ T) (hu : ∀ p ∈ T, p.1 = PT → p.2 = X.env.qual ++ "<lambda>") (hr : Room (k + 2) X.A) (L : LamX.LamS X.env.scope scope)
    (hbody : ∀ (A : Around) (outer : List Env) (s : Shared) (H : Hp) (E : XK) (f c' : Addr), Room k (A.deeper (LamX.lamEnv X scope s.heap.objs.size f c')) → PE (LamX.lamCx X A outer s H E scope f c') body (t E))
    (hdef : defaultsOf params X.env = ([], []) := by rfl)
    (hbind : ∀ (q : Str) (cl : List (Str × Addr)) (pm cv ctv : Value), bindArgs (PySem.W.kla_fn "<lambda>" q params body scope cl pm cv ctv) ⟨[], []⟩ = pure [] := by intros; rfl) :
    PE X (.Call (.Name "_law_end" p) [.Lambda params body scope lpos] [] pos) (LamX.tLam T (TEnd X.K (clsE CP CM CU)) t) := by
  obtain ⟨g, oc, dV, kV, doc, pm, cdv, ct, an, od, osl, h1, h2, h3, h4, h5⟩ := D.ex
  exact LamX.pe_lamcall hg h1 h2 h3 h4 h5 sc_end rfl (Or.inl rfl) (end_gives D.R1 D.R2 D.gU) TB hcode hmT hu hr L hdef hbind hbody
end U

set_option Elab.async false
set_option linter.all false
set_option maxRecDepth 100000
set_option maxHeartbeats 4000000
/-! kinds that are refused -/
namespace U
open PySem PySem.Spec PyProof.Rows L2
open Evl (Ex)
section
variable {P : Program} {w : World} {K : PySem.W.Frag} {mg : Str → Option Value} {base : Heap} {c : KC} {CP CM : Addr}
theorem ev_bq {σ : L2.St} {H : Hp} {te : TE} {v : V} {d : PyData} {f : PyData → Bool} (h : Evl.Ev te σ H v) (hd : Dq K H v d) : Evl.Ev (tCallD (spB K f) (tCons te tNil)) σ H (.bl (f d)) := ev_spBq h hd
def spCheckBad (K : PySem.W.Frag) (CP : Addr) : Sp := fun vs H _ E => ∃ v d, vs = [v] ∧ Dq K H v d ∧ isN d = false ∧ ErrE CP "places" v H E
theorem ok_checkBad {f : Addr} {fd : FuncData} (F : Fun K "_check_number_of_places" "_check_number_of_places" s_check_number_of_places f fd) (T : TxK mg) (R1 : ErrC P w K mg base "BadPlaces" CP "places") (D_is_number_of_places : DefAt P w K mg base "is_number_of_places" 2 ["thing"] (spB K isN)) : FnOk P w K mg base (L2.CX P w) 3 f fd ["places"] (spCheckBad K CP) := by
  refine F.okX sc_check_number_of_places (fun vs H Q E h => ?_) (fun cdv A outer s H vs Q E hr h => ?_)
  · obtain ⟨_, _, rfl, _⟩ := h
    rfl
  · obtain ⟨v, d, rfl, hd, hN, k⟩ := h
    refine ⟨_, (pss_one (ps_if (pt_not (pt_val (pe_callD D_is_number_of_places (by first | exact hr | exact hr.mono (by decide) | exact hr.mono (by omega)) (by rfl) (pa_cons (pv 0) pa_nil)))) (pss_one (ps_raise rfl (takes_of rfl rfl rfl rfl) (pmk_err R1 (hr.mono (by decide)) (by rfl) (pv 0)))) pss_nil)), ?_⟩
    exact Evl.s_when (D := { nx := fun _ H' => Q .non H', rt := Q }) (b := true) (Evl.et_is (Evl.et_not (Evl.et_B (ev_bq (Evl.ev_var (v := v) rfl) hd))) (by rw [hN]; rfl)) (fun _ H1 e1 => mk_err_run (Evl.ev_var rfl) fun d H4 hd e4 hx4 => k d H4 (Evl.fresh_back e1 hd) (e1.trans e4) hx4) (fun z => nomatch z)
def spIBad (K : PySem.W.Frag) (CP : Addr) : Sp := fun vs H _ E => ∃ x v d, vs = [.ref x, v] ∧ Dq K H v d ∧ isN d = false ∧ ErrE CP "places" v H E
theorem ok_Halves_bad {f : Addr} {fd : FuncData} (F : Fun K "__init__" "Halves.__init__" s_Halves_init f fd) (T : TxK mg) (D_checkX : DefX P w K mg base "_check_number_of_places" 3 ["places"] (spCheckBad K CP)) : FnOk P w K mg base (L2.CX P w) 4 f fd ["self", "places"] (spIBad K CP) := by
  refine F.okX sc_Halves_init (fun vs H Q E h => ?_) (fun cdv A outer s H vs Q E hr h => ?_)
  · obtain ⟨_, _, _, rfl, _⟩ := h
    rfl
  · obtain ⟨x, v, d, rfl, hd, hN, k⟩ := h
    refine ⟨_, (pss_cons (ps_expr (pe_callX D_checkX (hr.mono (by decide)) (Passes.of (takes_of rfl rfl rfl rfl)) (by rfl) (pa_cons (pv 1) pa_nil)))
    (pss_one (ps_fld (pv 0) (pv 1) rfl))), ?_⟩
    exact ⟨_, rfl, v, d, rfl, hd, hN, k⟩
theorem ok_Boxes_bad {f : Addr} {fd : FuncData} (F : Fun K "__init__" "Boxes.__init__" s_Boxes_init f fd) (T : TxK mg) (D_checkX : DefX P w K mg base "_check_number_of_places" 3 ["places"] (spCheckBad K CP)) : FnOk P w K mg base (L2.CX P w) 4 f fd ["self", "places"] (spIBad K CP) := by
  refine F.okX sc_Boxes_init (fun vs H Q E h => ?_) (fun cdv A outer s H vs Q E hr h => ?_)
  · obtain ⟨_, _, _, rfl, _⟩ := h
    rfl
  · obtain ⟨x, v, d, rfl, hd, hN, k⟩ := h
    refine ⟨_, (pss_cons (ps_expr (pe_callX D_checkX (hr.mono (by decide)) (Passes.of (takes_of rfl rfl rfl rfl)) (by rfl) (pa_cons (pv 1) pa_nil)))
    (pss_one (ps_fld (pv 0) (pv 1) rfl))), ?_⟩
    exact ⟨_, rfl, v, d, rfl, hd, hN, k⟩
theorem ok_Rising_bad {f : Addr} {fd : FuncData} (F : Fun K "__init__" "Rising.__init__" s_Rising_init f fd) (T : TxK mg) (D_checkX : DefX P w K mg base "_check_number_of_places" 3 ["places"] (spCheckBad K CP)) : FnOk P w K mg base (L2.CX P w) 4 f fd ["self", "places"] (spIBad K CP) := by
  refine F.okX sc_Rising_init (fun vs H Q E h => ?_) (fun cdv A outer s H vs Q E hr h => ?_)
  · obtain ⟨_, _, _, rfl, _⟩ := h
    rfl
  · obtain ⟨x, v, d, rfl, hd, hN, k⟩ := h
    refine ⟨_, (pss_cons (ps_expr (pe_callX D_checkX (hr.mono (by decide)) (Passes.of (takes_of rfl rfl rfl rfl)) (by rfl) (pa_cons (pv 1) pa_nil)))
    (pss_one (ps_fld (pv 0) (pv 1) rfl))), ?_⟩
    exact ⟨_, rfl, v, d, rfl, hd, hN, k⟩
theorem ok_Flats_bad {f : Addr} {fd : FuncData} (F : Fun K "__init__" "Flats.__init__" s_Flats_init f fd) (T : TxK mg) (D_checkX : DefX P w K mg base "_check_number_of_places" 3 ["places"] (spCheckBad K CP)) : FnOk P w K mg base (L2.CX P w) 4 f fd ["self", "places"] (spIBad K CP) := by
  refine F.okX sc_Flats_init (fun vs H Q E h => ?_) (fun cdv A outer s H vs Q E hr h => ?_)
  · obtain ⟨_, _, _, rfl, _⟩ := h
    rfl
  · obtain ⟨x, v, d, rfl, hd, hN, k⟩ := h
    refine ⟨_, (pss_cons (ps_expr (pe_callX D_checkX (hr.mono (by decide)) (Passes.of (takes_of rfl rfl rfl rfl)) (by rfl) (pa_cons (pv 1) pa_nil)))
    (pss_one (ps_fld (pv 0) (pv 1) rfl))), ?_⟩
    exact ⟨_, rfl, v, d, rfl, hd, hN, k⟩
/-- no number of changes -/
def isMo : PyData → Bool
  | .int i => decide (0 ≤ i) && decide (i ≤ 6)
  | _ => false
def spTBad (K : PySem.W.Frag) (CM : Addr) : Sp := fun vs H _ E => ∃ x v d, vs = [.ref x, v] ∧ Dq K H v d ∧ isMo d = false ∧ ErrE CM "most" v H E
theorem ok_Turns_bad {f : Addr} {fd : FuncData} (F : Fun K "__init__" "Turns.__init__" s_Turns_init f fd) (T : TxK mg) (R2 : ErrC P w K mg base "BadMost" CM "most") (D_is_integer : DefAt P w K mg base "is_integer" 1 ["thing"] (spB K isI)) : FnOk P w K mg base (L2.CX P w) 3 f fd ["self", "most"] (spTBad K CM) := by
  refine F.okX sc_Turns_init (fun vs H Q E h => ?_) (fun cdv A outer s H vs Q E hr h => ?_)
  · obtain ⟨_, _, _, rfl, _⟩ := h
    rfl
  · obtain ⟨x, v, d, rfl, hd, hM, k⟩ := h
    refine ⟨_, (pss_cons (ps_if (PW.pt (pw_or (pt_not (pt_val (pe_callD D_is_integer (by first | exact hr | exact hr.mono (by decide) | exact hr.mono (by omega)) (by rfl) (pa_cons (pv 1) pa_nil)))) (pw_or1 (pt_not (pt_chain op_le op_le pe_int (pv 1) (pe_glob (v := .int 6) (by rfl) T.c_GREATEST_MOST.choose_spec (by exact ⟨_, rfl⟩))))))) (pss_one (ps_raise rfl (takes_of rfl rfl rfl rfl) (pmk_err R2 (hr.mono (by decide)) (by rfl) (pv 1)))) pss_nil)
    (pss_cons (ps_fld (pv 0) pe_int rfl)
    (pss_one (ps_fld (pv 0) (pv 1) rfl)))), ?_⟩
    have v1 : Evl.Ev (tVar 1) (start sc_Turns_init_N [.ref x, v]) H v := Evl.ev_var rfl
    refine Evl.q_when (b := true) (Evl.et_is (Evl.et_or (a := !isI d) (b := true) (Evl.et_not (Evl.et_B (ev_bq v1 hd))) fun z => ?_) (Bool.or_true _)) (fun _ H1 e1 => mk_err_run (Evl.ev_var rfl) fun d H4 hd e4 hx4 => k d H4 (Evl.fresh_back e1 hd) (e1.trans e4) hx4) (fun z => nomatch z)
    obtain ⟨i, rfl⟩ : ∃ i, d = .int i := by
      cases d <;> first | exact ⟨_, rfl⟩ | cases z
    cases hd
    have hM' : (decide (0 ≤ i) && decide (i ≤ 6)) = false := hM
    refine Evl.et_is (Evl.et_not (a := decide (0 ≤ i) && decide (i ≤ 6)) (Evl.et_test (ev_chain (k := decide (0 ≤ i)) (l := decide (0 ≤ i) && decide (i ≤ 6)) Evl.ev_c v1 (Evl.rv_I0 (g := fun a b => .bl (decide (a ≤ b)))) (fun _ => Evl.ev_c) (fun z => ?_) (fun z => by rw [z]; rfl)))) (by rw [hM']; rfl)
    rw [z, Bool.true_and]
    exact Evl.rv_I0 (g := fun a b => .bl (decide (a ≤ b)))
end
end U

set_option Elab.async false
set_option linter.all false
set_option maxRecDepth 100000
set_option maxHeartbeats 4000000
/-! what stays where only tables of code objects change; how a call ends -/
namespace U
open PySem PySem.Spec PyProof.Rows L2
open Evl (Ex)
/-- lists, tuples and empty dicts stay -/
structure SqTo (K : PySem.W.Frag) (H H' : Hp) : Prop where
  l : ∀ a xs, SqL K H a xs → SqL K H' a xs
  t : ∀ a xs, SqT K H a xs → SqT K H' a xs
  d : ∀ a, H a = some (.dK []) → H' a = some (.dK [])
section
variable {K : PySem.W.Frag} {H H' H2 : Hp} {L : List Addr}
mutual
theorem dq_to (e : SqTo K H H') : ∀ (d : PyData) (v : V), Dq K H v d → Dq K H' v d
  | .none, _, h => by cases h; exact .non
  | .bool _, _, h => by cases h; exact .bl _
  | .int _, _, h => by cases h; exact .int _
  | .str _, _, h => by cases h; exact .str _
  | .list ds, _, h => by
    cases h with
    | lst hs ha => exact .lst (e.l _ _ hs) (dqa_to e ds _ ha)
  | .tuple ds, _, h => by
    cases h with
    | tup hs ha => exact .tup (e.t _ _ hs) (dqa_to e ds _ ha)
  | .dict _, _, h => by
    cases h with
    | dct h => exact .dct (e.d _ h)
theorem dqa_to (e : SqTo K H H') : ∀ (ds : List PyData) (vs : List V), DqAll K H vs ds → DqAll K H' vs ds
  | [], _, h => by cases h; exact .nil
  | d :: ds, _, h => by
    cases h with
    | cons h1 h2 => exact .cons (dq_to e d _ h1) (dqa_to e ds _ h2)
end
mutual
theorem dp_to (e : SqTo K H H') : ∀ (d : PyData) (v : V), Dp K H v d → Dp K H' v d
  | .none, _, h => by cases h; exact .non
  | .bool _, _, h => by cases h; exact .bl _
  | .int _, _, h => by cases h; exact .int _
  | .str _, _, h => by cases h; exact .str _
  | .list ds, _, h => by
    cases h with
    | lst hs ha => exact .lst (e.l _ _ hs) (dpa_to e ds _ ha)
  | .tuple ds, _, h => by
    cases h with
    | tup hs ha => exact .tup (e.t _ _ hs) (dpa_to e ds _ ha)
  | .dict _, _, h => by cases h
theorem dpa_to (e : SqTo K H H') : ∀ (ds : List PyData) (vs : List V), DpAll K H vs ds → DpAll K H' vs ds
  | [], _, h => by cases h; exact .nil
  | d :: ds, _, h => by
    cases h with
    | cons h1 h2 => exact .cons (dp_to e d _ h1) (dpa_to e ds _ h2)
end
theorem sqto_of (e : ∀ b o, H b = some o → (∀ ps, o ≠ .tbl ps) → H' b = some o) : SqTo K H H' := by
  refine ⟨fun a xs h => ?_, fun a xs h => ?_, fun a h => e a _ h (fun _ z => by cases z)⟩
  · rcases h with (h | ⟨o, h⟩) | h
    · exact .inl (.inl (e a _ h (fun _ z => by cases z)))
    · exact .inl (.inr ⟨o, e a _ h (fun _ z => by cases z)⟩)
    · exact .inr h
  · rcases h with (h | ⟨o, h⟩) | h
    · exact .inl (.inl (e a _ h (fun _ z => by cases z)))
    · exact .inl (.inr ⟨o, e a _ h (fun _ z => by cases z)⟩)
    · exact .inr h
end
section
variable {K : PySem.W.Frag} {L : List Addr} {σ : L2.St} {H H' H0 : Hp} {te tb tc tl tdue : TE} {ds es : List PyData} {l a x CP CM CU C : Addr} {n m : Nat} {v : V} {d : PyData} {T : List (Addr × Str)} {tz tr : TS} {D : Ends} {p : Int} {X : XK → TE}
structure ExM (K : PySem.W.Frag) (CP CM CU : Addr) : Prop where
  pp : PySem.W.exmOne K (.ref CP) (.ref CP) = some true
  mp : PySem.W.exmOne K (.ref CM) (.ref CP) = some false
  mm : PySem.W.exmOne K (.ref CM) (.ref CM) = some true
  up : PySem.W.exmOne K (.ref CU) (.ref CP) = some false
  um : PySem.W.exmOne K (.ref CU) (.ref CM) = some false
  uu : PySem.W.exmOne K (.ref CU) (.ref CU) = some true
/-- lists stand there -/
def LsS (L : List Addr) (H : Hp) : Prop := ∀ a ∈ L, ∃ xs, H a = some (.lst xs)
theorem LsS.ext (h : LsS L H) (e : LamX.ExtN H H') : LsS L H' := fun a m => by
  obtain ⟨xs, q⟩ := h a m
  exact ⟨xs, e _ _ q (fun _ z => by cases z)⟩
theorem LsS.hid (h : LsS L H) : Hid L H := fun a m => by
  obtain ⟨xs, q⟩ := h a m
  rw [q]
  simp
/-- data come back, told without the cells of L; only tables and new cells besides -/
def EndQ (K : PySem.W.Frag) (L : List Addr) (T : List (Addr × Str)) (tl : TE) (σ : L2.St) (H : Hp) (d : PyData) : Prop := ∀ Q : VK, (∀ v H1, LamX.ExtN H H1 → LamX.Tabs T H1 → Dq K (W L H1) v d → Q v H1) → tl σ H Q
theorem ExtN_of (e : Ex H H') : LamX.ExtN H H' := LamX.ExtN.of e
theorem dq_extN (h : Dq K (W L H) v d) (e : LamX.ExtN H H') : Dq K (W L H') v d := dq_to (sqto_of fun b o h z => by
  obtain ⟨h1, n⟩ := w_in h
  exact w_of n (e b o h1 z)) _ _ h
theorem endE_p {Q : VK} (M : ExM K CP CM CU) {dd : Addr} (hx : H dd = some (.xd [("places", v)])) (k : ∀ t, H t = none → Q (.ref t) (upd H t (.tup [.str "places", v]))) : endE K Q (clsE CP CM CU) (.ref CP) (some dd) H := ⟨true, M.pp, fun _ => ⟨rfl, dd, _, v, rfl, hx, by simp, k⟩, fun z => nomatch z⟩
theorem endE_m {Q : VK} (M : ExM K CP CM CU) {dd : Addr} (hx : H dd = some (.xd [("most", v)])) (k : ∀ t, H t = none → Q (.ref t) (upd H t (.tup [.str "most", v]))) : endE K Q (clsE CP CM CU) (.ref CM) (some dd) H := ⟨false, M.mp, (fun z => nomatch z), fun _ => ⟨true, M.mm, fun _ => ⟨rfl, dd, _, v, rfl, hx, by simp, k⟩, fun z => nomatch z⟩⟩
theorem endE_u {Q : VK} (M : ExM K CP CM CU) {od : Option Addr} (k : ∀ t, H t = none → Q (.ref t) (upd H t (.tup [.str "unlike", .non]))) : endE K Q (clsE CP CM CU) (.ref CU) od H := ⟨false, M.up, (fun z => nomatch z), fun _ => ⟨false, M.um, (fun z => nomatch z), fun _ => ⟨true, M.uu, fun _ => k, fun z => nomatch z⟩⟩⟩
/-- the call raises: places -/
theorem endq_p (M : ExM K CP CM CU) (ht : LamX.Tabs T H) (hL : LsS L H) (hv : Dq K (W L H) v d) (h : ∀ H1, LamX.ExtN H H1 → ∀ (E : XK) (k : VK), ErrE CP "places" v H1 E → X E σ H1 k) : EndQ K L T (LamX.tLam T (TEnd K (clsE CP CM CU)) X) σ H (.tuple [.str "places", d]) := fun Q q => ⟨ht, fun H1 e1 t1 k H2 e2 hk => h H2 (e1.trans (ExtN_of e2)) _ _ fun dd H3 hd e3 hx => endE_p M hx fun t htn => by
    have e4 := (e2.trans e3).trans (Ex.new (o := .tup [.str "places", v]) htn)
    exact q _ _ (e1.trans (ExtN_of e4)) (t1.ext e4) (.tup (SqT.of (w_new (hL.ext (e1.trans (ExtN_of (e2.trans e3)))).hid htn)) (.cons (.str _) (.cons (dq_extN hv (e1.trans (ExtN_of e4))) .nil)))⟩
/-- most -/
theorem endq_m (M : ExM K CP CM CU) (ht : LamX.Tabs T H) (hL : LsS L H) (hv : Dq K (W L H) v d) (h : ∀ H1, LamX.ExtN H H1 → ∀ (E : XK) (k : VK), ErrE CM "most" v H1 E → X E σ H1 k) : EndQ K L T (LamX.tLam T (TEnd K (clsE CP CM CU)) X) σ H (.tuple [.str "most", d]) := fun Q q => ⟨ht, fun H1 e1 t1 k H2 e2 hk => h H2 (e1.trans (ExtN_of e2)) _ _ fun dd H3 hd e3 hx => endE_m M hx fun t htn => by
    have e4 := (e2.trans e3).trans (Ex.new (o := .tup [.str "most", v]) htn)
    exact q _ _ (e1.trans (ExtN_of e4)) (t1.ext e4) (.tup (SqT.of (w_new (hL.ext (e1.trans (ExtN_of (e2.trans e3)))).hid htn)) (.cons (.str _) (.cons (dq_extN hv (e1.trans (ExtN_of e4))) .nil)))⟩
/-- unlike -/
theorem endq_u (M : ExM K CP CM CU) (ht : LamX.Tabs T H) (hL : LsS L H) (h : ∀ H1, LamX.ExtN H H1 → ∀ (E : XK) (k : VK), (∀ H2, Ex H1 H2 → E (.ref CU) none H2) → X E σ H1 k) : EndQ K L T (LamX.tLam T (TEnd K (clsE CP CM CU)) X) σ H (.tuple [.str "unlike", .none]) := fun Q q => ⟨ht, fun H1 e1 t1 k H2 e2 hk => h H2 (e1.trans (ExtN_of e2)) _ _ fun H3 e3 => endE_u M fun t htn => by
    have e4 := (e2.trans e3).trans (Ex.new (o := .tup [.str "unlike", .non]) htn)
    exact q _ _ (e1.trans (ExtN_of e4)) (t1.ext e4) (.tup (SqT.of (w_new (hL.ext (e1.trans (ExtN_of (e2.trans e3)))).hid htn)) (.cons (.str _) (.cons .non .nil)))⟩
/-- the call ends well: a number -/
theorem endq_n {i : Int} (ht : LamX.Tabs T H) (hL : LsS L H) (h : ∀ H1, LamX.ExtN H H1 → ∀ (E : XK) (k : VK), (∀ H2, Ex H1 H2 → k (.int i) H2) → X E σ H1 k) : EndQ K L T (LamX.tLam T (TEnd K (clsE CP CM CU)) X) σ H (.tuple [.str "told", .int i]) := fun Q q => ⟨ht, fun H1 e1 t1 k H2 e2 hk => h H2 (e1.trans (ExtN_of e2)) _ _ fun H3 e3 => hk _ _ fun t htn => by
    have e4 := (e2.trans e3).trans (Ex.new (o := .tup [.str "told", .int i]) htn)
    exact q _ _ (e1.trans (ExtN_of e4)) (t1.ext e4) (.tup (SqT.of (w_new (hL.ext (e1.trans (ExtN_of (e2.trans e3)))).hid htn)) (.cons (.str _) (.cons (.int i) .nil)))⟩
/-- nothing but a table stood there -/
def NTb (H : Hp) (l : Addr) : Prop := ∀ o, H l = some o → ∃ ps, o = .tbl ps
theorem ntb_of (x : LamX.ExtN H H') (h : H' a = none) : NTb H a := fun o e => by
  apply Classical.byContradiction
  intro hn
  have := x a o e fun ps z => hn ⟨ps, z⟩
  rw [h] at this
  cases this
theorem extN_upd {o : HO} (x : LamX.ExtN H H') (hn : NTb H a) : LamX.ExtN H (upd H' a o) := fun b u h z => by
  by_cases e : b = a
  · rw [e] at h
    obtain ⟨ps, q⟩ := hn u h
    exact absurd q (z ps)
  · rw [upd_ne e]
    exact x b u h z
theorem tabs_upd {o : HO} {xs : List V} (h : LamX.Tabs T H) (hl : H a = some (.lst xs)) : LamX.Tabs T (upd H a o) := fun q hq => by
  obtain ⟨ps, h1, h2, h3⟩ := h q hq
  refine ⟨ps, by rw [upd_ne (fun z => by rw [z, hl] at h1; cases h1)]; exact h1, h2, fun pos cv hc => ?_⟩
  obtain ⟨c, e1, e2⟩ := h3 pos cv hc
  exact ⟨c, e1, by rw [upd_ne (fun z => by rw [z, hl] at e2; unfold LamX.CodeO at e2; cases e2)]; exact e2⟩
/-- xs.append(a call's end) -/
theorem qq_end {j : Nat} {t : Addr} {xs : List V} (h : EndQ K [t] T tl σ H d) (hj : σ[j]? = some (some (.ref t))) (ht : H t = some (.lst xs)) (hz : xs.length < 100000) (ha : DqAll K (W [t] H) xs ds)
    (k : ∀ v H1, LamX.ExtN H H1 → LamX.Tabs T H1 → H1 t = some (.lst xs) → DqAll K (W [t] H1) (xs ++ [v]) (ds ++ [d]) → tz D σ (upd H1 t (.lst (xs ++ [v])))) : tSeq (tDrop (tBM K "list" rAppend (tVar j) (tCons tl tNil))) tz D σ H := by
  refine ⟨_, hj, Or.inl ⟨rfl, xs, SqL.of ht⟩, h _ fun v H1 x1 t1 hv => ?_⟩
  have ht1 := x1 _ _ ht (fun _ z => by cases z)
  exact ⟨t, xs, v, rfl, rfl, ht1, Evl.sz_lt hz, k v H1 x1 t1 ht1 (dqa_app (dqa_to (sqto_of fun b o h z => by
    obtain ⟨h1, n⟩ := w_in h
    exact w_of n (x1 b o h1 z)) _ _ ha) (.cons hv .nil))⟩
end
end U

set_option Elab.async false
set_option linter.all false
set_option maxRecDepth 100000
set_option maxHeartbeats 4000000
/-! how the plain kinds are refused -/
namespace U
open PySem PySem.Spec PyProof.Rows L2
open Evl (Ex)
open C8 (Met Mak pe_mt pe_mt0 pe_mk)
abbrev s_refused : Stmt := top 35
abbrev sc_refused_N : List Str := ["_law_odd", "_law_found"]
theorem sc_refused : FnScope sc_refused_N ["_law_odd"] (defScope s_refused) := ⟨rfl, rfl, rfl, by decide +kernel, rfl, by decide +kernel, by decide +kernel⟩
/-- a def that ends well by one promise, and may raise by another -/
theorem fn_or {P : Program} {w : World} {K : PySem.W.Frag} {mg : Str → Option Value} {base : Heap} {k : Nat} {f : Addr} {fd : FuncData} {ps : List Str} {sp1 sp2 : Sp} (F : FnOk P w K mg base CX0 k f fd ps sp1) (F2 : FnOk P w K mg base (L2.CX P w) k f fd ps sp2) : FnOk P w K mg base (L2.CX P w) k f fd ps (fun vs H Q E => sp1 vs H Q E ∨ sp2 vs H Q E) :=
  ⟨fun vs H Q E h => h.elim (F.len vs H Q E) (F2.len vs H Q E), fun A outer s H args us vs Q E hr e0 hb r h => h.elim (fun h => codeAny_mono (F.run A outer s H args us vs Q E hr e0 hb r h) fun r s' q => by
    cases r with
    | error e => exact q.elim
    | ok f => cases f <;> exact q) fun h => F2.run A outer s H args us vs Q E hr e0 hb r h⟩
def spI1X (K : PySem.W.Frag) (CP C : Addr) : Sp := fun vs H Q E => spI1 C vs H Q E ∨ spIBad K CP vs H Q E
def spITX (K : PySem.W.Frag) (CM C : Addr) : Sp := fun vs H Q E => spIT C vs H Q E ∨ spTBad K CM vs H Q E
section
variable {K : PySem.W.Frag} {σ : L2.St} {H : Hp} {te : TE} {v : V} {d : PyData} {CP CM C : Addr}
theorem mk_eNN {x dx : Addr} (hx : H x = none) (hdx : H dx = none) (ne : dx ≠ x) : Ex H (upd (upd H dx (.own x)) x (.ins C dx [])) := (Ex.new hdx).trans (Ex.new (by rw [upd_ne (Ne.symm ne)]; exact hx))
theorem dqa_keep {L : List Addr} {t : Addr} {o : HO} {xs : List V} {ds : List PyData} (m : t ∈ L) (h : DqAll K (W L H) xs ds) : DqAll K (W L (upd H t o)) xs ds := by
  rw [w_upd_in m]
  exact h
/-- C(odd).places -/
theorem fld_bad {E : XK} {k : VK} {f : Str} (h : Evl.Ev te σ H v) (hd : Dq K H v d) (hN : isN d = false) (hE : ErrE CP "places" v H E) : tFld K (tMake C (spI1X K CP C) [] E (tCons te tNil)) f σ H k :=
  h H (Ex.refl _) _ fun H1 e1 => fun x dx hx hdx ne => .inr ⟨x, v, d, rfl, hd.up (e1.trans (mk_eNN (C := C) hx hdx ne)), hN, hE.ex (e1.trans (mk_eNN (C := C) hx hdx ne))⟩
end
section
variable {P : Program} {w : World} {K : PySem.W.Frag} {mg : Str → Option Value} {base : Heap} {c : KC} {CP CM CU cR PR : Addr} {T : List (Addr × Str)}
abbrev refQ : Str := (envOfC "_law_refused" (defScope s_refused) 0 0 .none).qual ++ "<lambda>"
def spRefused (K : PySem.W.Frag) (T : List (Addr × Str)) : Sp := fun vs H Q _ => ∃ v d, vs = [v] ∧ Dq K H v d ∧ isN d = false ∧ LamX.Tabs T H ∧ ∀ v' H', LamX.ExtN H H' → LamX.Tabs T H' → Dq K H' v' (.list [.tuple [.str "places", d], .tuple [.str "places", d], .tuple [.str "places", d], .tuple [.str "places", d]]) → Q v' H'
theorem refused_try {f : Addr} {A : Around} {outer : List Env} {s : Shared} {H : Hp} {E : XK} {vs : List V} {Q : VK} (DE : EndL P w K mg base CP CM CU) (M : ExM K CP CM CU) (TBr : LamX.TabB base mg cR PR) (hmT : (PR, refQ) ∈ T) (hu : ∀ p ∈ T, p.1 = PR → p.2 = refQ) (hr : Room 8 (A.deeper (envOfC "_law_refused" (defScope s_refused) s.heap.objs.size f (.ref cR))))
    (N_HalvesX : MakX P w K mg base 4 "Halves" (c .ha) (spI1X K CP (c .ha)) []) (N_BoxesX : MakX P w K mg base 4 "Boxes" (c .bo) (spI1X K CP (c .bo)) []) (N_RisingX : MakX P w K mg base 4 "Rising" (c .ri) (spI1X K CP (c .ri)) []) (N_FlatsX : MakX P w K mg base 4 "Flats" (c .fl) (spI1X K CP (c .fl)) [])
    (h : spRefused K T vs H Q E) : ∃ t, PSs (cxOf CX0 P w K mg base sc_refused_N "_law_refused" (defScope s_refused) f (.ref cR) A outer s H E).nox (defBody s_refused) t ∧ t { nx := fun _ H' => Q .non H', rt := Q } (L2.start sc_refused_N vs) H := by
  obtain ⟨v, d, rfl, hd, hN, ht, k⟩ := h
  refine ⟨_, (pss_cons (ps_set (i := 1) sc_refused.nd rfl (by first | exact Or.inl rfl | exact Or.inr rfl) (pe_lst (pa_cons (pe_end (k := 6) (t := fun E => tFld K (tMake (c .ha) (spI1X K CP (c .ha)) [] E (tCons (tVar 0) tNil)) "places") DE TBr (by rfl) rfl hmT hu (hr.mono (by omega)) (LamX.lamS_by (sc := defScope s_refused) (by decide +kernel)) (fun A outer s H E f c' hr2 => pe_fld (pe_mkX N_HalvesX hr2 (by decide) (Passes.of (takes_of rfl rfl rfl rfl)) (by rfl) (pa_cons (pv 0) pa_nil)) rfl)) pa_nil)))
    (pss_cons (ps_expr (pe_bm PySem.F.plainAttrs_list PySem.F.slot_list_append PySem.F.type_list_append mt_append (pv 1) (pa_cons (pe_end (k := 6) (t := fun E => tFld K (tMake (c .bo) (spI1X K CP (c .bo)) [] E (tCons (tVar 0) tNil)) "places") DE TBr (by rfl) rfl hmT hu (hr.mono (by omega)) (LamX.lamS_by (sc := defScope s_refused) (by decide +kernel)) (fun A outer s H E f c' hr2 => pe_fld (pe_mkX N_BoxesX hr2 (by decide) (Passes.of (takes_of rfl rfl rfl rfl)) (by rfl) (pa_cons (pv 0) pa_nil)) rfl)) pa_nil)))
    (pss_cons (ps_expr (pe_bm PySem.F.plainAttrs_list PySem.F.slot_list_append PySem.F.type_list_append mt_append (pv 1) (pa_cons (pe_end (k := 6) (t := fun E => tFld K (tMake (c .ri) (spI1X K CP (c .ri)) [] E (tCons (tVar 0) tNil)) "places") DE TBr (by rfl) rfl hmT hu (hr.mono (by omega)) (LamX.lamS_by (sc := defScope s_refused) (by decide +kernel)) (fun A outer s H E f c' hr2 => pe_fld (pe_mkX N_RisingX hr2 (by decide) (Passes.of (takes_of rfl rfl rfl rfl)) (by rfl) (pa_cons (pv 0) pa_nil)) rfl)) pa_nil)))
    (pss_one (ps_ret (pe_op op_cat (pv 1) (pe_lst (pa_cons (pe_end (k := 6) (t := fun E => tFld K (tMake (c .fl) (spI1X K CP (c .fl)) [] E (tCons (tVar 0) tNil)) "places") DE TBr (by rfl) rfl hmT hu (hr.mono (by omega)) (LamX.lamS_by (sc := defScope s_refused) (by decide +kernel)) (fun A outer s H E f c' hr2 => pe_fld (pe_mkX N_FlatsX hr2 (by decide) (Passes.of (takes_of rfl rfl rfl rfl)) (by rfl) (pa_cons (pv 0) pa_nil)) rfl)) pa_nil)))))))), ?_⟩
  have go : ∀ (C : Addr) (L : List Addr) (σ : L2.St) (H1 : Hp), σ[0]? = some (some v) → LsS L H1 → Dq K (W L H1) v d → LamX.Tabs T H1 → EndQ K L T (LamX.tLam T (TEnd K (clsE CP CM CU)) (fun E => tFld K (tMake C (spI1X K CP C) [] E (tCons (tVar 0) tNil)) "places")) σ H1 (.tuple [.str "places", d]) := fun C L σ H1 h0 hL hv t1 => endq_p M t1 hL hv fun H2 x2 E k hE => fld_bad (Evl.ev_var h0) ((dq_extN hv x2).up w_sub) hN hE
  have hd0 : Dq K (W [] H) v d := by rw [w_nil]; exact hd
  refine (go (c .ha) [] _ H rfl (fun _ m => nomatch m) hd0 ht) _ fun v1 H1 x1 t1 h1 => ?_
  refine ⟨by show 1 ≤ sizeLine; decide, fun t htn => ?_⟩
  have hnt : NTb H t := ntb_of x1 htn
  have e1 : Ex H1 (upd H1 t (.lst [v1])) := Ex.new htn
  have htx : (upd H1 t (.lst [v1])) t = some (.lst [v1]) := upd_same
  have pst : Ex (W [] H1) (W [t] (upd H1 t (.lst [v1]))) := w_past (L := []) htn e1
  have a1 : DqAll K (W [t] (upd H1 t (.lst [v1]))) [v1] [.tuple [.str "places", d]] := .cons (h1.up pst) .nil
  have d1 : Dq K (W [t] (upd H1 t (.lst [v1]))) v d := (dq_extN hd0 x1).up pst
  have x1' : LamX.ExtN H (upd H1 t (.lst [v1])) := x1.trans (ExtN_of e1)
  have t1' := t1.ext e1
  generalize upd H1 t (.lst [v1]) = H2 at htx a1 d1 x1' t1' ⊢
  have ls : ∀ {H : Hp} {xs : List V}, H t = some (.lst xs) → LsS [t] H := fun h a m => by rw [List.mem_singleton.mp m]; exact ⟨_, h⟩
  have mt : t ∈ [t] := List.mem_singleton.mpr rfl
  refine qq_end (K := K) (j := 1) (t := t) (go (c .bo) [t] _ H2 rfl (ls htx) d1 t1') rfl htx (by show 1 < 100000; omega) a1 fun v2 H3 x3 t3 ht3 a3 => ?_
  have d3 := dq_extN d1 x3
  have x3' := extN_upd (o := .lst ([v1] ++ [v2])) (x1'.trans x3) hnt
  have t3' := tabs_upd (o := .lst ([v1] ++ [v2])) t3 ht3
  have a3' := dqa_keep (o := .lst ([v1] ++ [v2])) mt a3
  have d3' : Dq K (W [t] (upd H3 t (.lst ([v1] ++ [v2])))) v d := by rw [w_upd_in mt]; exact d3
  have ht3' : (upd H3 t (.lst ([v1] ++ [v2]))) t = some (.lst ([v1] ++ [v2])) := upd_same
  generalize upd H3 t (.lst ([v1] ++ [v2])) = H4 at x3' t3' a3' d3' ht3' ⊢
  refine qq_end (K := K) (j := 1) (t := t) (go (c .ri) [t] _ H4 rfl (ls ht3') d3' t3') rfl ht3' (by show 2 < 100000; omega) a3' fun v3 H5 x5 t5 ht5 a5 => ?_
  have d5 := dq_extN d3' x5
  have x5' := extN_upd (o := .lst ([v1] ++ [v2] ++ [v3])) (x3'.trans x5) hnt
  have t5' := tabs_upd (o := .lst ([v1] ++ [v2] ++ [v3])) t5 ht5
  have a5' := dqa_keep (o := .lst ([v1] ++ [v2] ++ [v3])) mt a5
  have d5' : Dq K (W [t] (upd H5 t (.lst ([v1] ++ [v2] ++ [v3])))) v d := by rw [w_upd_in mt]; exact d5
  have ht5' : (upd H5 t (.lst ([v1] ++ [v2] ++ [v3]))) t = some (.lst ([v1] ++ [v2] ++ [v3])) := upd_same
  generalize upd H5 t (.lst ([v1] ++ [v2] ++ [v3])) = H6 at x5' t5' a5' d5' ht5' ⊢
  refine ⟨.ref t, rfl, go (c .fl) [t] _ H6 rfl (ls ht5') d5' t5' _ fun v4 H7 x7 t7 h7 => ⟨by show 1 ≤ sizeLine; decide, fun u hu => ⟨t, u, _, [v4], rfl, rfl, (Ex.new hu) _ _ (x7 _ _ ht5' (fun _ z => by cases z)), upd_same, by show 4 ≤ sizeLine; decide, fun r hr => ?_⟩⟩⟩
  have e8 := (Ex.new (o := .lst [v4]) hu).trans (Ex.new (o := .lst ([v1] ++ [v2] ++ [v3] ++ [v4])) hr)
  refine k _ _ ((x5'.trans x7).trans (ExtN_of e8)) (t7.ext e8) (.lst (SqL.of upd_same) ?_)
  have a7 := dqa_to (sqto_of fun b o h z => by
    obtain ⟨h1, n⟩ := w_in h
    exact w_of n (x7 b o h1 z)) _ _ a5'
  exact (dqa_app a7 (.cons h7 .nil)).up (w_sub.trans e8)
end
end U

set_option Elab.async false
set_option linter.all false
set_option maxRecDepth 100000
set_option maxHeartbeats 4000000
/-! pairs that are refused -/
namespace U
open PySem PySem.Spec PyProof.Rows L2
open Evl (Ex)
structure UnC (K : PySem.W.Frag) (mg : Str → Option Value) (U : Addr) : Prop where
  gU : mg "UnlikePlaces" = some (.ref U)
  xU : PySem.W.excIn K U [.type "ValueError", .type "Exception", .type "BaseException", .type "object"] "ValueError.__new__" = true
  kU : PySem.W.keepIn K (.ref U) = true
  bU : PySem.W.subIn K (.ref U) (.type "BaseException") = some true
  tU : PySem.W.typeIn K (.ref U) = some (.type "type")
  sU : PySem.W.subIn K (.ref U) (.ref U) = some true
  iU : (PySem.W.clsIn K U).isSome = true
section
variable {P : Program} {w : World} {K : PySem.W.Frag} {mg : Str → Option Value} {base : Heap} {c : KC} {U : Addr}
def spPBad (c : KC) (U : Addr) : Sp := fun vs H _ E => ∃ x z y1 i1 d1 f1 p y2 i2 d2 f2 q, vs = [.ref x, .str z, .ref y1, .ref y2] ∧ H y1 = some (.ins (c i1) d1 f1) ∧ f1.lookup ("places" : Str) = some (V.int p) ∧ H y2 = some (.ins (c i2) d2 f2) ∧ f2.lookup ("places" : Str) = some (V.int q) ∧ p ≠ q ∧ ∀ H', Ex H H' → E (.ref U) none H'
theorem ok_Pair_bad {f : Addr} {fd : FuncData} (F : Fun K "__init__" "Pair.__init__" s_Pair_init f fd) (S : KCl K c) (Y : UnC K mg U) : FnOk P w K mg base (L2.CX P w) 1 f fd ["self", "word", "one", "other"] (spPBad c U) := by
  refine F.okX sc_Pair_init (fun vs H Q E h => ?_) (fun cdv A outer s H vs Q E hr h => ?_)
  · obtain ⟨_, _, _, _, _, _, _, _, _, _, _, _, rfl, _⟩ := h
    rfl
  · obtain ⟨x, z, y1, i1, d1, f1, p, y2, i2, d2, f2, q, rfl, h1, hp1, h2, hp2, ne, k⟩ := h
    refine ⟨_, (pss_cons (ps_if (pt_cmpR op_ne (pe_fld (pv 2) rfl) (pe_fld (pv 3) rfl) (nomark _)) (pss_one (ps_raise rfl (takes_of rfl rfl rfl rfl) (pmk_own0 PySem.F.excBase_ValueError Y.xU Y.gU Y.kU (raises_own Y.bU Y.tU) (by rfl)))) pss_nil)
    (pss_cons (ps_fld (pv 0) (pe_fld (pv 2) rfl) rfl)
    (pss_cons (ps_fld (pv 0) (pv 1) rfl)
    (pss_cons (ps_fld (pv 0) (pv 2) rfl)
    (pss_one (ps_fld (pv 0) (pv 3) rfl)))))), ?_⟩
    have a1 : Evl.Ev (tFld K (tVar 2) "places") (start sc_Pair_init_N [.ref x, .str z, .ref y1, .ref y2]) H (.int p) := ev_fld (Evl.ev_var (v := .ref y1) rfl) h1 (S.cl _) (S.na _ _ (by decide)) hp1
    have a2 : Evl.Ev (tFld K (tVar 3) "places") (start sc_Pair_init_N [.ref x, .str z, .ref y1, .ref y2]) H (.int q) := ev_fld (Evl.ev_var (v := .ref y2) rfl) h2 (S.cl _) (S.na _ _ (by decide)) hp2
    exact Evl.q_when (b := true) (Evl.et_is (Evl.et_test (Evl.ev_op a1 a2 (Evl.rv_ne rfl))) (by simp [ne])) (fun _ H1 e1 => k H1 e1) (fun z => nomatch z)
end
end U

set_option Elab.async false
set_option linter.all false
set_option maxRecDepth 100000
set_option maxHeartbeats 4000000
/-! kinds that can't be put together -/
namespace U
open PySem PySem.Spec PyProof.Rows L2
open Evl (Ex)
theorem mk_eNP {H : Hp} {C x dx : Addr} (hx : H x = none) (hdx : H dx = none) (ne : dx ≠ x) : Ex H (upd (upd H dx (.own x)) x (.ins C dx [])) := (Ex.new hdx).trans (Ex.new (by rw [upd_ne (Ne.symm ne)]; exact hx))
section
variable {P : Program} {w : World} {K : PySem.W.Frag} {mg : Str → Option Value} {base : Heap} {c : KC} {U : Addr}
def spBinBad (c : KC) (U : Addr) : Sp := fun vs H _ E => ∃ y1 i1 d1 f1 p y2 i2 d2 f2 q, vs = [.ref y1, .ref y2] ∧ H y1 = some (.ins (c i1) d1 f1) ∧ f1.lookup ("places" : Str) = some (V.int p) ∧ H y2 = some (.ins (c i2) d2 f2) ∧ f2.lookup ("places" : Str) = some (V.int q) ∧ p ≠ q ∧ ∀ H', Ex H H' → E (.ref U) none H'
def spIPX (c : KC) (U : Addr) : Sp := fun vs H Q E => spIP c vs H Q E ∨ spPBad c U vs H Q E
theorem ok_Halves_and_bad {f : Addr} {fd : FuncData} (F : Fun K "__and__" "Halves.__and__" s_Halves_and f fd) (N_PairX : MakX P w K mg base 1 "Pair" (c .pa) (spIPX c U) []) : FnOk P w K mg base (L2.CX P w) 3 f fd ["self", "other"] (spBinBad c U) := by
  refine F.okX sc_Halves_and (fun vs H Q E h => ?_) (fun cdv A outer s H vs Q E hr h => ?_)
  · obtain ⟨_, _, _, _, _, _, _, _, _, _, rfl, _⟩ := h
    rfl
  · obtain ⟨y1, i1, d1, f1, p, y2, i2, d2, f2, q, rfl, h1, hp1, h2, hp2, ne, k⟩ := h
    refine ⟨_, (pss_one (ps_ret (pe_mkX N_PairX hr (by decide) (Passes.of (takes_of rfl rfl rfl rfl)) (by rfl) (pa_cons pe_str (pa_cons (pv 0) (pa_cons (pv 1) pa_nil)))))), ?_⟩
    exact ⟨_, rfl, _, rfl, fun x dx hx hdx nx => .inr ⟨x, _, y1, i1, d1, f1, p, y2, i2, d2, f2, q, rfl, mk_eNP hx hdx nx _ _ h1, hp1, mk_eNP hx hdx nx _ _ h2, hp2, ne, fun H' e => k H' ((mk_eNP hx hdx nx).trans e)⟩⟩
theorem ok_Halves_or_bad {f : Addr} {fd : FuncData} (F : Fun K "__or__" "Halves.__or__" s_Halves_or f fd) (N_PairX : MakX P w K mg base 1 "Pair" (c .pa) (spIPX c U) []) : FnOk P w K mg base (L2.CX P w) 3 f fd ["self", "other"] (spBinBad c U) := by
  refine F.okX sc_Halves_or (fun vs H Q E h => ?_) (fun cdv A outer s H vs Q E hr h => ?_)
  · obtain ⟨_, _, _, _, _, _, _, _, _, _, rfl, _⟩ := h
    rfl
  · obtain ⟨y1, i1, d1, f1, p, y2, i2, d2, f2, q, rfl, h1, hp1, h2, hp2, ne, k⟩ := h
    refine ⟨_, (pss_one (ps_ret (pe_mkX N_PairX hr (by decide) (Passes.of (takes_of rfl rfl rfl rfl)) (by rfl) (pa_cons pe_str (pa_cons (pv 0) (pa_cons (pv 1) pa_nil)))))), ?_⟩
    exact ⟨_, rfl, _, rfl, fun x dx hx hdx nx => .inr ⟨x, _, y1, i1, d1, f1, p, y2, i2, d2, f2, q, rfl, mk_eNP hx hdx nx _ _ h1, hp1, mk_eNP hx hdx nx _ _ h2, hp2, ne, fun H' e => k H' ((mk_eNP hx hdx nx).trans e)⟩⟩
theorem ok_Halves_add_bad {f : Addr} {fd : FuncData} (F : Fun K "__add__" "Halves.__add__" s_Halves_add f fd) (N_PairX : MakX P w K mg base 1 "Pair" (c .pa) (spIPX c U) []) : FnOk P w K mg base (L2.CX P w) 3 f fd ["self", "other"] (spBinBad c U) := by
  refine F.okX sc_Halves_add (fun vs H Q E h => ?_) (fun cdv A outer s H vs Q E hr h => ?_)
  · obtain ⟨_, _, _, _, _, _, _, _, _, _, rfl, _⟩ := h
    rfl
  · obtain ⟨y1, i1, d1, f1, p, y2, i2, d2, f2, q, rfl, h1, hp1, h2, hp2, ne, k⟩ := h
    refine ⟨_, (pss_one (ps_ret (pe_mkX N_PairX hr (by decide) (Passes.of (takes_of rfl rfl rfl rfl)) (by rfl) (pa_cons pe_str (pa_cons (pv 0) (pa_cons (pv 1) pa_nil)))))), ?_⟩
    exact ⟨_, rfl, _, rfl, fun x dx hx hdx nx => .inr ⟨x, _, y1, i1, d1, f1, p, y2, i2, d2, f2, q, rfl, mk_eNP hx hdx nx _ _ h1, hp1, mk_eNP hx hdx nx _ _ h2, hp2, ne, fun H' e => k H' ((mk_eNP hx hdx nx).trans e)⟩⟩
theorem ok_Boxes_and_bad {f : Addr} {fd : FuncData} (F : Fun K "__and__" "Boxes.__and__" s_Boxes_and f fd) (N_PairX : MakX P w K mg base 1 "Pair" (c .pa) (spIPX c U) []) : FnOk P w K mg base (L2.CX P w) 3 f fd ["self", "other"] (spBinBad c U) := by
  refine F.okX sc_Boxes_and (fun vs H Q E h => ?_) (fun cdv A outer s H vs Q E hr h => ?_)
  · obtain ⟨_, _, _, _, _, _, _, _, _, _, rfl, _⟩ := h
    rfl
  · obtain ⟨y1, i1, d1, f1, p, y2, i2, d2, f2, q, rfl, h1, hp1, h2, hp2, ne, k⟩ := h
    refine ⟨_, (pss_one (ps_ret (pe_mkX N_PairX hr (by decide) (Passes.of (takes_of rfl rfl rfl rfl)) (by rfl) (pa_cons pe_str (pa_cons (pv 0) (pa_cons (pv 1) pa_nil)))))), ?_⟩
    exact ⟨_, rfl, _, rfl, fun x dx hx hdx nx => .inr ⟨x, _, y1, i1, d1, f1, p, y2, i2, d2, f2, q, rfl, mk_eNP hx hdx nx _ _ h1, hp1, mk_eNP hx hdx nx _ _ h2, hp2, ne, fun H' e => k H' ((mk_eNP hx hdx nx).trans e)⟩⟩
theorem ok_Boxes_or_bad {f : Addr} {fd : FuncData} (F : Fun K "__or__" "Boxes.__or__" s_Boxes_or f fd) (N_PairX : MakX P w K mg base 1 "Pair" (c .pa) (spIPX c U) []) : FnOk P w K mg base (L2.CX P w) 3 f fd ["self", "other"] (spBinBad c U) := by
  refine F.okX sc_Boxes_or (fun vs H Q E h => ?_) (fun cdv A outer s H vs Q E hr h => ?_)
  · obtain ⟨_, _, _, _, _, _, _, _, _, _, rfl, _⟩ := h
    rfl
  · obtain ⟨y1, i1, d1, f1, p, y2, i2, d2, f2, q, rfl, h1, hp1, h2, hp2, ne, k⟩ := h
    refine ⟨_, (pss_one (ps_ret (pe_mkX N_PairX hr (by decide) (Passes.of (takes_of rfl rfl rfl rfl)) (by rfl) (pa_cons pe_str (pa_cons (pv 0) (pa_cons (pv 1) pa_nil)))))), ?_⟩
    exact ⟨_, rfl, _, rfl, fun x dx hx hdx nx => .inr ⟨x, _, y1, i1, d1, f1, p, y2, i2, d2, f2, q, rfl, mk_eNP hx hdx nx _ _ h1, hp1, mk_eNP hx hdx nx _ _ h2, hp2, ne, fun H' e => k H' ((mk_eNP hx hdx nx).trans e)⟩⟩
theorem ok_Boxes_add_bad {f : Addr} {fd : FuncData} (F : Fun K "__add__" "Boxes.__add__" s_Boxes_add f fd) (N_PairX : MakX P w K mg base 1 "Pair" (c .pa) (spIPX c U) []) : FnOk P w K mg base (L2.CX P w) 3 f fd ["self", "other"] (spBinBad c U) := by
  refine F.okX sc_Boxes_add (fun vs H Q E h => ?_) (fun cdv A outer s H vs Q E hr h => ?_)
  · obtain ⟨_, _, _, _, _, _, _, _, _, _, rfl, _⟩ := h
    rfl
  · obtain ⟨y1, i1, d1, f1, p, y2, i2, d2, f2, q, rfl, h1, hp1, h2, hp2, ne, k⟩ := h
    refine ⟨_, (pss_one (ps_ret (pe_mkX N_PairX hr (by decide) (Passes.of (takes_of rfl rfl rfl rfl)) (by rfl) (pa_cons pe_str (pa_cons (pv 0) (pa_cons (pv 1) pa_nil)))))), ?_⟩
    exact ⟨_, rfl, _, rfl, fun x dx hx hdx nx => .inr ⟨x, _, y1, i1, d1, f1, p, y2, i2, d2, f2, q, rfl, mk_eNP hx hdx nx _ _ h1, hp1, mk_eNP hx hdx nx _ _ h2, hp2, ne, fun H' e => k H' ((mk_eNP hx hdx nx).trans e)⟩⟩
theorem ok_Rising_and_bad {f : Addr} {fd : FuncData} (F : Fun K "__and__" "Rising.__and__" s_Rising_and f fd) (N_PairX : MakX P w K mg base 1 "Pair" (c .pa) (spIPX c U) []) : FnOk P w K mg base (L2.CX P w) 3 f fd ["self", "other"] (spBinBad c U) := by
  refine F.okX sc_Rising_and (fun vs H Q E h => ?_) (fun cdv A outer s H vs Q E hr h => ?_)
  · obtain ⟨_, _, _, _, _, _, _, _, _, _, rfl, _⟩ := h
    rfl
  · obtain ⟨y1, i1, d1, f1, p, y2, i2, d2, f2, q, rfl, h1, hp1, h2, hp2, ne, k⟩ := h
    refine ⟨_, (pss_one (ps_ret (pe_mkX N_PairX hr (by decide) (Passes.of (takes_of rfl rfl rfl rfl)) (by rfl) (pa_cons pe_str (pa_cons (pv 0) (pa_cons (pv 1) pa_nil)))))), ?_⟩
    exact ⟨_, rfl, _, rfl, fun x dx hx hdx nx => .inr ⟨x, _, y1, i1, d1, f1, p, y2, i2, d2, f2, q, rfl, mk_eNP hx hdx nx _ _ h1, hp1, mk_eNP hx hdx nx _ _ h2, hp2, ne, fun H' e => k H' ((mk_eNP hx hdx nx).trans e)⟩⟩
theorem ok_Rising_or_bad {f : Addr} {fd : FuncData} (F : Fun K "__or__" "Rising.__or__" s_Rising_or f fd) (N_PairX : MakX P w K mg base 1 "Pair" (c .pa) (spIPX c U) []) : FnOk P w K mg base (L2.CX P w) 3 f fd ["self", "other"] (spBinBad c U) := by
  refine F.okX sc_Rising_or (fun vs H Q E h => ?_) (fun cdv A outer s H vs Q E hr h => ?_)
  · obtain ⟨_, _, _, _, _, _, _, _, _, _, rfl, _⟩ := h
    rfl
  · obtain ⟨y1, i1, d1, f1, p, y2, i2, d2, f2, q, rfl, h1, hp1, h2, hp2, ne, k⟩ := h
    refine ⟨_, (pss_one (ps_ret (pe_mkX N_PairX hr (by decide) (Passes.of (takes_of rfl rfl rfl rfl)) (by rfl) (pa_cons pe_str (pa_cons (pv 0) (pa_cons (pv 1) pa_nil)))))), ?_⟩
    exact ⟨_, rfl, _, rfl, fun x dx hx hdx nx => .inr ⟨x, _, y1, i1, d1, f1, p, y2, i2, d2, f2, q, rfl, mk_eNP hx hdx nx _ _ h1, hp1, mk_eNP hx hdx nx _ _ h2, hp2, ne, fun H' e => k H' ((mk_eNP hx hdx nx).trans e)⟩⟩
theorem ok_Rising_add_bad {f : Addr} {fd : FuncData} (F : Fun K "__add__" "Rising.__add__" s_Rising_add f fd) (N_PairX : MakX P w K mg base 1 "Pair" (c .pa) (spIPX c U) []) : FnOk P w K mg base (L2.CX P w) 3 f fd ["self", "other"] (spBinBad c U) := by
  refine F.okX sc_Rising_add (fun vs H Q E h => ?_) (fun cdv A outer s H vs Q E hr h => ?_)
  · obtain ⟨_, _, _, _, _, _, _, _, _, _, rfl, _⟩ := h
    rfl
  · obtain ⟨y1, i1, d1, f1, p, y2, i2, d2, f2, q, rfl, h1, hp1, h2, hp2, ne, k⟩ := h
    refine ⟨_, (pss_one (ps_ret (pe_mkX N_PairX hr (by decide) (Passes.of (takes_of rfl rfl rfl rfl)) (by rfl) (pa_cons pe_str (pa_cons (pv 0) (pa_cons (pv 1) pa_nil)))))), ?_⟩
    exact ⟨_, rfl, _, rfl, fun x dx hx hdx nx => .inr ⟨x, _, y1, i1, d1, f1, p, y2, i2, d2, f2, q, rfl, mk_eNP hx hdx nx _ _ h1, hp1, mk_eNP hx hdx nx _ _ h2, hp2, ne, fun H' e => k H' ((mk_eNP hx hdx nx).trans e)⟩⟩
theorem ok_Flats_and_bad {f : Addr} {fd : FuncData} (F : Fun K "__and__" "Flats.__and__" s_Flats_and f fd) (N_PairX : MakX P w K mg base 1 "Pair" (c .pa) (spIPX c U) []) : FnOk P w K mg base (L2.CX P w) 3 f fd ["self", "other"] (spBinBad c U) := by
  refine F.okX sc_Flats_and (fun vs H Q E h => ?_) (fun cdv A outer s H vs Q E hr h => ?_)
  · obtain ⟨_, _, _, _, _, _, _, _, _, _, rfl, _⟩ := h
    rfl
  · obtain ⟨y1, i1, d1, f1, p, y2, i2, d2, f2, q, rfl, h1, hp1, h2, hp2, ne, k⟩ := h
    refine ⟨_, (pss_one (ps_ret (pe_mkX N_PairX hr (by decide) (Passes.of (takes_of rfl rfl rfl rfl)) (by rfl) (pa_cons pe_str (pa_cons (pv 0) (pa_cons (pv 1) pa_nil)))))), ?_⟩
    exact ⟨_, rfl, _, rfl, fun x dx hx hdx nx => .inr ⟨x, _, y1, i1, d1, f1, p, y2, i2, d2, f2, q, rfl, mk_eNP hx hdx nx _ _ h1, hp1, mk_eNP hx hdx nx _ _ h2, hp2, ne, fun H' e => k H' ((mk_eNP hx hdx nx).trans e)⟩⟩
theorem ok_Flats_or_bad {f : Addr} {fd : FuncData} (F : Fun K "__or__" "Flats.__or__" s_Flats_or f fd) (N_PairX : MakX P w K mg base 1 "Pair" (c .pa) (spIPX c U) []) : FnOk P w K mg base (L2.CX P w) 3 f fd ["self", "other"] (spBinBad c U) := by
  refine F.okX sc_Flats_or (fun vs H Q E h => ?_) (fun cdv A outer s H vs Q E hr h => ?_)
  · obtain ⟨_, _, _, _, _, _, _, _, _, _, rfl, _⟩ := h
    rfl
  · obtain ⟨y1, i1, d1, f1, p, y2, i2, d2, f2, q, rfl, h1, hp1, h2, hp2, ne, k⟩ := h
    refine ⟨_, (pss_one (ps_ret (pe_mkX N_PairX hr (by decide) (Passes.of (takes_of rfl rfl rfl rfl)) (by rfl) (pa_cons pe_str (pa_cons (pv 0) (pa_cons (pv 1) pa_nil)))))), ?_⟩
    exact ⟨_, rfl, _, rfl, fun x dx hx hdx nx => .inr ⟨x, _, y1, i1, d1, f1, p, y2, i2, d2, f2, q, rfl, mk_eNP hx hdx nx _ _ h1, hp1, mk_eNP hx hdx nx _ _ h2, hp2, ne, fun H' e => k H' ((mk_eNP hx hdx nx).trans e)⟩⟩
theorem ok_Flats_add_bad {f : Addr} {fd : FuncData} (F : Fun K "__add__" "Flats.__add__" s_Flats_add f fd) (N_PairX : MakX P w K mg base 1 "Pair" (c .pa) (spIPX c U) []) : FnOk P w K mg base (L2.CX P w) 3 f fd ["self", "other"] (spBinBad c U) := by
  refine F.okX sc_Flats_add (fun vs H Q E h => ?_) (fun cdv A outer s H vs Q E hr h => ?_)
  · obtain ⟨_, _, _, _, _, _, _, _, _, _, rfl, _⟩ := h
    rfl
  · obtain ⟨y1, i1, d1, f1, p, y2, i2, d2, f2, q, rfl, h1, hp1, h2, hp2, ne, k⟩ := h
    refine ⟨_, (pss_one (ps_ret (pe_mkX N_PairX hr (by decide) (Passes.of (takes_of rfl rfl rfl rfl)) (by rfl) (pa_cons pe_str (pa_cons (pv 0) (pa_cons (pv 1) pa_nil)))))), ?_⟩
    exact ⟨_, rfl, _, rfl, fun x dx hx hdx nx => .inr ⟨x, _, y1, i1, d1, f1, p, y2, i2, d2, f2, q, rfl, mk_eNP hx hdx nx _ _ h1, hp1, mk_eNP hx hdx nx _ _ h2, hp2, ne, fun H' e => k H' ((mk_eNP hx hdx nx).trans e)⟩⟩
theorem ok_Turns_and_bad {f : Addr} {fd : FuncData} (F : Fun K "__and__" "Turns.__and__" s_Turns_and f fd) (N_PairX : MakX P w K mg base 1 "Pair" (c .pa) (spIPX c U) []) : FnOk P w K mg base (L2.CX P w) 3 f fd ["self", "other"] (spBinBad c U) := by
  refine F.okX sc_Turns_and (fun vs H Q E h => ?_) (fun cdv A outer s H vs Q E hr h => ?_)
  · obtain ⟨_, _, _, _, _, _, _, _, _, _, rfl, _⟩ := h
    rfl
  · obtain ⟨y1, i1, d1, f1, p, y2, i2, d2, f2, q, rfl, h1, hp1, h2, hp2, ne, k⟩ := h
    refine ⟨_, (pss_one (ps_ret (pe_mkX N_PairX hr (by decide) (Passes.of (takes_of rfl rfl rfl rfl)) (by rfl) (pa_cons pe_str (pa_cons (pv 0) (pa_cons (pv 1) pa_nil)))))), ?_⟩
    exact ⟨_, rfl, _, rfl, fun x dx hx hdx nx => .inr ⟨x, _, y1, i1, d1, f1, p, y2, i2, d2, f2, q, rfl, mk_eNP hx hdx nx _ _ h1, hp1, mk_eNP hx hdx nx _ _ h2, hp2, ne, fun H' e => k H' ((mk_eNP hx hdx nx).trans e)⟩⟩
theorem ok_Turns_or_bad {f : Addr} {fd : FuncData} (F : Fun K "__or__" "Turns.__or__" s_Turns_or f fd) (N_PairX : MakX P w K mg base 1 "Pair" (c .pa) (spIPX c U) []) : FnOk P w K mg base (L2.CX P w) 3 f fd ["self", "other"] (spBinBad c U) := by
  refine F.okX sc_Turns_or (fun vs H Q E h => ?_) (fun cdv A outer s H vs Q E hr h => ?_)
  · obtain ⟨_, _, _, _, _, _, _, _, _, _, rfl, _⟩ := h
    rfl
  · obtain ⟨y1, i1, d1, f1, p, y2, i2, d2, f2, q, rfl, h1, hp1, h2, hp2, ne, k⟩ := h
    refine ⟨_, (pss_one (ps_ret (pe_mkX N_PairX hr (by decide) (Passes.of (takes_of rfl rfl rfl rfl)) (by rfl) (pa_cons pe_str (pa_cons (pv 0) (pa_cons (pv 1) pa_nil)))))), ?_⟩
    exact ⟨_, rfl, _, rfl, fun x dx hx hdx nx => .inr ⟨x, _, y1, i1, d1, f1, p, y2, i2, d2, f2, q, rfl, mk_eNP hx hdx nx _ _ h1, hp1, mk_eNP hx hdx nx _ _ h2, hp2, ne, fun H' e => k H' ((mk_eNP hx hdx nx).trans e)⟩⟩
theorem ok_Turns_add_bad {f : Addr} {fd : FuncData} (F : Fun K "__add__" "Turns.__add__" s_Turns_add f fd) (N_PairX : MakX P w K mg base 1 "Pair" (c .pa) (spIPX c U) []) : FnOk P w K mg base (L2.CX P w) 3 f fd ["self", "other"] (spBinBad c U) := by
  refine F.okX sc_Turns_add (fun vs H Q E h => ?_) (fun cdv A outer s H vs Q E hr h => ?_)
  · obtain ⟨_, _, _, _, _, _, _, _, _, _, rfl, _⟩ := h
    rfl
  · obtain ⟨y1, i1, d1, f1, p, y2, i2, d2, f2, q, rfl, h1, hp1, h2, hp2, ne, k⟩ := h
    refine ⟨_, (pss_one (ps_ret (pe_mkX N_PairX hr (by decide) (Passes.of (takes_of rfl rfl rfl rfl)) (by rfl) (pa_cons pe_str (pa_cons (pv 0) (pa_cons (pv 1) pa_nil)))))), ?_⟩
    exact ⟨_, rfl, _, rfl, fun x dx hx hdx nx => .inr ⟨x, _, y1, i1, d1, f1, p, y2, i2, d2, f2, q, rfl, mk_eNP hx hdx nx _ _ h1, hp1, mk_eNP hx hdx nx _ _ h2, hp2, ne, fun H' e => k H' ((mk_eNP hx hdx nx).trans e)⟩⟩
theorem ok_Contrary_and_bad {f : Addr} {fd : FuncData} (F : Fun K "__and__" "Contrary.__and__" s_Contrary_and f fd) (N_PairX : MakX P w K mg base 1 "Pair" (c .pa) (spIPX c U) []) : FnOk P w K mg base (L2.CX P w) 3 f fd ["self", "other"] (spBinBad c U) := by
  refine F.okX sc_Contrary_and (fun vs H Q E h => ?_) (fun cdv A outer s H vs Q E hr h => ?_)
  · obtain ⟨_, _, _, _, _, _, _, _, _, _, rfl, _⟩ := h
    rfl
  · obtain ⟨y1, i1, d1, f1, p, y2, i2, d2, f2, q, rfl, h1, hp1, h2, hp2, ne, k⟩ := h
    refine ⟨_, (pss_one (ps_ret (pe_mkX N_PairX hr (by decide) (Passes.of (takes_of rfl rfl rfl rfl)) (by rfl) (pa_cons pe_str (pa_cons (pv 0) (pa_cons (pv 1) pa_nil)))))), ?_⟩
    exact ⟨_, rfl, _, rfl, fun x dx hx hdx nx => .inr ⟨x, _, y1, i1, d1, f1, p, y2, i2, d2, f2, q, rfl, mk_eNP hx hdx nx _ _ h1, hp1, mk_eNP hx hdx nx _ _ h2, hp2, ne, fun H' e => k H' ((mk_eNP hx hdx nx).trans e)⟩⟩
theorem ok_Contrary_or_bad {f : Addr} {fd : FuncData} (F : Fun K "__or__" "Contrary.__or__" s_Contrary_or f fd) (N_PairX : MakX P w K mg base 1 "Pair" (c .pa) (spIPX c U) []) : FnOk P w K mg base (L2.CX P w) 3 f fd ["self", "other"] (spBinBad c U) := by
  refine F.okX sc_Contrary_or (fun vs H Q E h => ?_) (fun cdv A outer s H vs Q E hr h => ?_)
  · obtain ⟨_, _, _, _, _, _, _, _, _, _, rfl, _⟩ := h
    rfl
  · obtain ⟨y1, i1, d1, f1, p, y2, i2, d2, f2, q, rfl, h1, hp1, h2, hp2, ne, k⟩ := h
    refine ⟨_, (pss_one (ps_ret (pe_mkX N_PairX hr (by decide) (Passes.of (takes_of rfl rfl rfl rfl)) (by rfl) (pa_cons pe_str (pa_cons (pv 0) (pa_cons (pv 1) pa_nil)))))), ?_⟩
    exact ⟨_, rfl, _, rfl, fun x dx hx hdx nx => .inr ⟨x, _, y1, i1, d1, f1, p, y2, i2, d2, f2, q, rfl, mk_eNP hx hdx nx _ _ h1, hp1, mk_eNP hx hdx nx _ _ h2, hp2, ne, fun H' e => k H' ((mk_eNP hx hdx nx).trans e)⟩⟩
theorem ok_Contrary_add_bad {f : Addr} {fd : FuncData} (F : Fun K "__add__" "Contrary.__add__" s_Contrary_add f fd) (N_PairX : MakX P w K mg base 1 "Pair" (c .pa) (spIPX c U) []) : FnOk P w K mg base (L2.CX P w) 3 f fd ["self", "other"] (spBinBad c U) := by
  refine F.okX sc_Contrary_add (fun vs H Q E h => ?_) (fun cdv A outer s H vs Q E hr h => ?_)
  · obtain ⟨_, _, _, _, _, _, _, _, _, _, rfl, _⟩ := h
    rfl
  · obtain ⟨y1, i1, d1, f1, p, y2, i2, d2, f2, q, rfl, h1, hp1, h2, hp2, ne, k⟩ := h
    refine ⟨_, (pss_one (ps_ret (pe_mkX N_PairX hr (by decide) (Passes.of (takes_of rfl rfl rfl rfl)) (by rfl) (pa_cons pe_str (pa_cons (pv 0) (pa_cons (pv 1) pa_nil)))))), ?_⟩
    exact ⟨_, rfl, _, rfl, fun x dx hx hdx nx => .inr ⟨x, _, y1, i1, d1, f1, p, y2, i2, d2, f2, q, rfl, mk_eNP hx hdx nx _ _ h1, hp1, mk_eNP hx hdx nx _ _ h2, hp2, ne, fun H' e => k H' ((mk_eNP hx hdx nx).trans e)⟩⟩
theorem ok_Pair_and_bad {f : Addr} {fd : FuncData} (F : Fun K "__and__" "Pair.__and__" s_Pair_and f fd) (N_PairX : MakX P w K mg base 1 "Pair" (c .pa) (spIPX c U) []) : FnOk P w K mg base (L2.CX P w) 3 f fd ["self", "other"] (spBinBad c U) := by
  refine F.okX sc_Pair_and (fun vs H Q E h => ?_) (fun cdv A outer s H vs Q E hr h => ?_)
  · obtain ⟨_, _, _, _, _, _, _, _, _, _, rfl, _⟩ := h
    rfl
  · obtain ⟨y1, i1, d1, f1, p, y2, i2, d2, f2, q, rfl, h1, hp1, h2, hp2, ne, k⟩ := h
    refine ⟨_, (pss_one (ps_ret (pe_mkX N_PairX hr (by decide) (Passes.of (takes_of rfl rfl rfl rfl)) (by rfl) (pa_cons pe_str (pa_cons (pv 0) (pa_cons (pv 1) pa_nil)))))), ?_⟩
    exact ⟨_, rfl, _, rfl, fun x dx hx hdx nx => .inr ⟨x, _, y1, i1, d1, f1, p, y2, i2, d2, f2, q, rfl, mk_eNP hx hdx nx _ _ h1, hp1, mk_eNP hx hdx nx _ _ h2, hp2, ne, fun H' e => k H' ((mk_eNP hx hdx nx).trans e)⟩⟩
theorem ok_Pair_or_bad {f : Addr} {fd : FuncData} (F : Fun K "__or__" "Pair.__or__" s_Pair_or f fd) (N_PairX : MakX P w K mg base 1 "Pair" (c .pa) (spIPX c U) []) : FnOk P w K mg base (L2.CX P w) 3 f fd ["self", "other"] (spBinBad c U) := by
  refine F.okX sc_Pair_or (fun vs H Q E h => ?_) (fun cdv A outer s H vs Q E hr h => ?_)
  · obtain ⟨_, _, _, _, _, _, _, _, _, _, rfl, _⟩ := h
    rfl
  · obtain ⟨y1, i1, d1, f1, p, y2, i2, d2, f2, q, rfl, h1, hp1, h2, hp2, ne, k⟩ := h
    refine ⟨_, (pss_one (ps_ret (pe_mkX N_PairX hr (by decide) (Passes.of (takes_of rfl rfl rfl rfl)) (by rfl) (pa_cons pe_str (pa_cons (pv 0) (pa_cons (pv 1) pa_nil)))))), ?_⟩
    exact ⟨_, rfl, _, rfl, fun x dx hx hdx nx => .inr ⟨x, _, y1, i1, d1, f1, p, y2, i2, d2, f2, q, rfl, mk_eNP hx hdx nx _ _ h1, hp1, mk_eNP hx hdx nx _ _ h2, hp2, ne, fun H' e => k H' ((mk_eNP hx hdx nx).trans e)⟩⟩
theorem ok_Pair_add_bad {f : Addr} {fd : FuncData} (F : Fun K "__add__" "Pair.__add__" s_Pair_add f fd) (N_PairX : MakX P w K mg base 1 "Pair" (c .pa) (spIPX c U) []) : FnOk P w K mg base (L2.CX P w) 3 f fd ["self", "other"] (spBinBad c U) := by
  refine F.okX sc_Pair_add (fun vs H Q E h => ?_) (fun cdv A outer s H vs Q E hr h => ?_)
  · obtain ⟨_, _, _, _, _, _, _, _, _, _, rfl, _⟩ := h
    rfl
  · obtain ⟨y1, i1, d1, f1, p, y2, i2, d2, f2, q, rfl, h1, hp1, h2, hp2, ne, k⟩ := h
    refine ⟨_, (pss_one (ps_ret (pe_mkX N_PairX hr (by decide) (Passes.of (takes_of rfl rfl rfl rfl)) (by rfl) (pa_cons pe_str (pa_cons (pv 0) (pa_cons (pv 1) pa_nil)))))), ?_⟩
    exact ⟨_, rfl, _, rfl, fun x dx hx hdx nx => .inr ⟨x, _, y1, i1, d1, f1, p, y2, i2, d2, f2, q, rfl, mk_eNP hx hdx nx _ _ h1, hp1, mk_eNP hx hdx nx _ _ h2, hp2, ne, fun H' e => k H' ((mk_eNP hx hdx nx).trans e)⟩⟩
end
end U

set_option Elab.async false
set_option linter.all false
set_option maxRecDepth 100000
set_option maxHeartbeats 4000000
/-! kinds built from what is said of them -/
namespace U
open PySem PySem.Spec PyProof.Rows L2
open Evl (Ex)
open C8 (Met Mak pe_mt pe_mt0 pe_mk)
abbrev s_built : Stmt := top 28
abbrev sc_built_N : List Str := ["_law_spec_here", "_law_word", "_law_one", "_law_other"]
theorem sc_built : FnScope sc_built_N ["_law_spec_here"] (defScope s_built) := ⟨rfl, rfl, rfl, by decide +kernel, rfl, by decide +kernel, by decide +kernel⟩
structure OpI (P : Program) (w : World) (K : PySem.W.Frag) (mg : Str → Option Value) (base : Heap) (C : Addr) (op : Operator) (sp : Sp) : Prop where
  ex : ∃ (f : Addr) (fd : FuncData), FnOk P w K mg base CX0 3 f fd ["self", "other"] sp ∧ OpC K C (PySem.dunder op.info.2) (PySem.dunderR op.info.2) f ∧ Binds K fd ["self", "other"] []
structure InvI (P : Program) (w : World) (K : PySem.W.Frag) (mg : Str → Option Value) (base : Heap) (C : Addr) (sp : Sp) : Prop where
  ex : ∃ (f : Addr) (fd : FuncData), FnOk P w K mg base CX0 3 f fd ["self"] sp ∧ PySem.W.findIn K (.ref C) "__invert__" = some (some (.ref f)) ∧ PySem.W.isFn K (.ref f) = true ∧ Binds K fd ["self"] []
/-- the operators of kinds -/
structure KOp (P : Program) (w : World) (K : PySem.W.Frag) (mg : Str → Option Value) (base : Heap) (c : KC) : Prop where
  inv : ∀ i, InvI P w K mg base (c i) (spInv K c)
  and : ∀ i, OpI P w K mg base (c i) .BitAnd (spPr c .both)
  or : ∀ i, OpI P w K mg base (c i) .BitOr (spPr c .either)
  add : ∀ i, OpI P w K mg base (c i) .Add (spPr c .any)
  sub : ∀ i j, c i = c j ∨ PySem.W.subIn K (.ref (c j)) (.ref (c i)) = some false
def tK2 (c : KC) (sp : Sp) (ta tb : TE) : TE := tAny (fun _ => True) fun ij : KI × KI => tOwn2 (c ij.1) (c ij.2) sp ta tb
def tK1 (c : KC) (sp : Sp) (ta : TE) : TE := tAny (fun _ => True) fun i : KI => tInv (c i) sp ta
section
variable {X : Cx} {c : KC} {a b : Expr} {ta tb : TE} {pos : Pos} {op : Operator} {sp : Sp} {n : Nat}
theorem pe_k2 (O : ∀ i, OpI X.prog X.w X.K X.mg X.base (c i) op sp) (S : ∀ i j, c i = c j ∨ PySem.W.subIn X.K (.ref (c j)) (.ref (c i)) = some false) (hr : Room n X.A) (hn : 3 ≤ n) (ha : PE X a ta) (hb : PE X b tb) : PE X (.BinOp a op b pos) (tK2 c sp ta tb) := pe_any fun ij _ => by
  obtain ⟨f, fd, F, o1, hB⟩ := (O ij.1).ex
  obtain ⟨g, gd, G, o2, _⟩ := (O ij.2).ex
  exact pe_own2 F (hr.mono hn) o1 o2 (S ij.1 ij.2) hB ha hb
theorem pe_k1 (O : ∀ i, InvI X.prog X.w X.K X.mg X.base (c i) sp) (hr : Room n X.A) (hn : 3 ≤ n) (ha : PE X a ta) : PE X (.UnaryOp .Invert a pos) (tK1 c sp ta) := pe_any fun i _ => by
  obtain ⟨f, fd, F, hs, hf, hB⟩ := (O i).ex
  exact pe_inv F (hr.mono hn) hs hf hB ha
end
section
variable {K : PySem.W.Frag} {c : KC} {σ : L2.St} {H : Hp} {L : List Addr} {ta tb : TE} {x y : Addr} {k m : Kd}
theorem evk_2 {f : Kd → Kd → Kd} (h1 : Evl.Ev ta σ H (.ref x)) (h2 : Evl.Ev tb σ H (.ref y)) (hL : Hid L H) (hk : Kin c (W L H) k x) (hm : Kin c (W L H) m y) (hp : placesK k = placesK m) : EvK c L (tK2 c (spPr c f) ta tb) σ H (f k m) := fun H1 e Q q => by
  refine ⟨(kiOf k, kiOf m), trivial, h1 H1 e _ fun H2 e2 => h2 H2 (e.trans e2) _ fun H3 e3 => ?_⟩
  have eA := (e.trans e2).trans e3
  have a1 := hk.up (w_ex eA)
  have a2 := hm.up (w_ex eA)
  obtain ⟨d1, f1, y1, _⟩ := a1.ins
  obtain ⟨d2, f2, y2, _⟩ := a2.ins
  exact ⟨x, y, d1, d2, f1, f2, rfl, rfl, (w_in y1).1, (w_in y2).1, x, y, k, m, L, rfl, hid_ex eA hL, a1, a2, hp, fun z H' hz e' hz2 => ⟨z, rfl, q z H' (Evl.fresh_back (e2.trans e3) hz) ((e2.trans e3).trans e') hz2⟩⟩
theorem evk_1 (h1 : Evl.Ev ta σ H (.ref x)) (hL : Hid L H) (hk : Kin c (W L H) k x) : EvK c L (tK1 c (spInv K c) ta) σ H (.no k) := fun H1 e Q q => by
  refine ⟨kiOf k, trivial, h1 H1 e _ fun H2 e2 => ?_⟩
  have eA := e.trans e2
  have a1 := hk.up (w_ex eA)
  obtain ⟨d1, f1, y1, _⟩ := a1.ins
  exact ⟨x, d1, f1, rfl, (w_in y1).1, x, k, L, rfl, hid_ex eA hL, a1, fun z H' hz e' hz2 => q z H' (Evl.fresh_back e2 hz) (e2.trans e') hz2⟩
end
/-- makers of kinds -/
structure KMk (P : Program) (w : World) (K : PySem.W.Frag) (mg : Str → Option Value) (base : Heap) (c : KC) : Prop where
  ha : Mak P w K mg base 4 "Halves" (c .ha) (spI1 (c .ha)) []
  bo : Mak P w K mg base 4 "Boxes" (c .bo) (spI1 (c .bo)) []
  ri : Mak P w K mg base 4 "Rising" (c .ri) (spI1 (c .ri)) []
  fl : Mak P w K mg base 4 "Flats" (c .fl) (spI1 (c .fl)) []
  tu : Mak P w K mg base 2 "Turns" (c .tu) (spIT (c .tu)) []
def spBuilt (K : PySem.W.Frag) (c : KC) (n : Nat) : Sp := fun vs H Q _ => ∃ v k p L, vs = [v] ∧ Hid L H ∧ Dp K (W L H) v (kdD k) ∧ okK p k ∧ 1 ≤ p ∧ p ≤ 3 ∧ depK k ≤ n ∧ ∀ x H', H x = none → Ex H H' → Kin c (W L H') k x → Q (.ref x) H'
def spBuiltP (K : PySem.W.Frag) (c : KC) : Nat → Sp
  | 0 => fun _ _ _ _ => False
  | n + 1 => spBuilt K c n
theorem okK_places : ∀ {k : Kd} {p : Int}, okK p k → placesK k = p
  | .halves _, _, h => h
  | .boxes _, _, h => h
  | .rising _, _, h => h
  | .flats _, _, h => h
  | .turns _, _, h => h.1.symm
  | .no k, _, h => okK_places (k := k) h
  | .both k _, _, h => okK_places (k := k) h.1
  | .either k _, _, h => okK_places (k := k) h.1
  | .any k _, _, h => okK_places (k := k) h.1
section
variable {P : Program} {w : World} {K : PySem.W.Frag} {mg : Str → Option Value} {base : Heap} {c : KC}
theorem k_ret {te : TE} {σ : L2.St} {H : Hp} {L : List Addr} {k : Kd} {D : Ends} (h : EvK c L te σ H k) (q : ∀ x H', H x = none → Ex H H' → Kin c (W L H') k x → D.rt (.ref x) H') : tRet te D σ H := h H (Ex.refl H) _ q
theorem q_asgK {te : TE} {σ : L2.St} {H : Hp} {L : List Addr} {k : Kd} {D : Ends} {tz : TS} {i : Nat} (h : EvK c L te σ H k) (q : ∀ x H', H x = none → Ex H H' → Kin c (W L H') k x → tz D (σ.set i (some (.ref x))) H') : tSeq (tAsg te (gName i)) tz D σ H := h H (Ex.refl H) _ q
theorem ev_built {te : TE} {σ : L2.St} {H : Hp} {L : List Addr} {k : Kd} {p : Int} {n : Nat} {v : V} (h : Evl.Ev te σ H v) (hL : Hid L H) (hv : Dp K (W L H) v (kdD k)) (hok : okK p k) (p1 : 1 ≤ p) (p3 : p ≤ 3) (hdep : depK k ≤ n) : EvK c L (tCallD (spBuiltP K c (n + 1)) (tCons te tNil)) σ H k := fun H1 e Q q =>
  h H1 e _ fun H2 e2 => ⟨v, k, p, L, rfl, hid_ex (e.trans e2) hL, hv.up (w_ex (e.trans e2)), hok, p1, p3, hdep, fun x H' hx e' hk => q x H' (Evl.fresh_back e2 hx) (e2.trans e') hk⟩
theorem evk_ift {tc : TT} {ta tb : TE} {σ : L2.St} {H : Hp} {L : List Addr} {k : Kd} (ht : Evl.EvT tc σ H true) (h : ∀ H1, Ex H H1 → EvK c L ta σ H1 k) : EvK c L (tIf tc ta tb) σ H k := fun H1 e Q q => ht H1 e _ fun H2 e2 => by
  show (if true = true then _ else _)
  simp only [if_true]
  exact h H2 (e.trans e2) H2 (Ex.refl _) Q fun x H3 hx e3 hk => q x H3 (Evl.fresh_back e2 hx) (e2.trans e3) hk
theorem evk_iff {tc : TT} {ta tb : TE} {σ : L2.St} {H : Hp} {L : List Addr} {k : Kd} (ht : Evl.EvT tc σ H false) (h : ∀ H1, Ex H H1 → EvK c L tb σ H1 k) : EvK c L (tIf tc ta tb) σ H k := fun H1 e Q q => ht H1 e _ fun H2 e2 => by
  show (if false = true then _ else _)
  simp only [Bool.false_eq_true, if_false]
  exact h H2 (e.trans e2) H2 (Ex.refl _) Q fun x H3 hx e3 hk => q x H3 (Evl.fresh_back e2 hx) (e2.trans e3) hk
theorem built_body {f : Addr} {fd : FuncData} (F : Fun K "_law_built" "_law_built" s_built f fd) (N : KMk P w K mg base c) (O : KOp P w K mg base c) (n : Nat) (D_built : DefAt P w K mg base "_law_built" (n + 6) ["_law_spec_here"] (spBuiltP K c n)) : FnOk P w K mg base CX0 (n + 7) f fd ["_law_spec_here"] (spBuilt K c n) := by
  refine F.ok sc_built (fun vs H Q E h => ?_) (fun cdv A outer s H vs Q E hr h => ?_)
  · obtain ⟨_, _, _, _, rfl, _⟩ := h
    rfl
  · obtain ⟨v, k, p, L, rfl, hL, hv, hok, p1, p3, hdep, kk⟩ := h
    refine ⟨_, (pss_cons (ps_set (i := 1) sc_built.nd rfl (by first | exact Or.inl rfl | exact Or.inr rfl) (pe_ix ix_tup (pv 0) pe_int (fun _ _ => rfl)))
    (pss_cons (ps_if (pt_cmpR op_eq (pv 1) pe_str (nomark _)) (pss_one (ps_ret (pe_mk N.ha hr (by omega) (by rfl) (pa_cons (pe_ix ix_tup (pv 0) pe_int (fun _ _ => rfl)) pa_nil)))) pss_nil)
    (pss_cons (ps_if (pt_cmpR op_eq (pv 1) pe_str (nomark _)) (pss_one (ps_ret (pe_mk N.bo hr (by omega) (by rfl) (pa_cons (pe_ix ix_tup (pv 0) pe_int (fun _ _ => rfl)) pa_nil)))) pss_nil)
    (pss_cons (ps_if (pt_cmpR op_eq (pv 1) pe_str (nomark _)) (pss_one (ps_ret (pe_mk N.ri hr (by omega) (by rfl) (pa_cons (pe_ix ix_tup (pv 0) pe_int (fun _ _ => rfl)) pa_nil)))) pss_nil)
    (pss_cons (ps_if (pt_cmpR op_eq (pv 1) pe_str (nomark _)) (pss_one (ps_ret (pe_mk N.fl hr (by omega) (by rfl) (pa_cons (pe_ix ix_tup (pv 0) pe_int (fun _ _ => rfl)) pa_nil)))) pss_nil)
    (pss_cons (ps_if (pt_cmpR op_eq (pv 1) pe_str (nomark _)) (pss_one (ps_ret (pe_mk N.tu hr (by omega) (by rfl) (pa_cons (pe_ix ix_tup (pv 0) pe_int (fun _ _ => rfl)) pa_nil)))) pss_nil)
    (pss_cons (ps_set (i := 2) sc_built.nd rfl (by first | exact Or.inl rfl | exact Or.inr rfl) (pe_callD D_built (by first | exact hr | exact hr.mono (by decide) | exact hr.mono (by omega)) (by rfl) (pa_cons (pe_ix ix_tup (pv 0) pe_int (fun _ _ => rfl)) pa_nil)))
    (pss_cons (ps_if (pt_cmpR op_eq (pv 1) pe_str (nomark _)) (pss_one (ps_ret (pe_k1 O.inv hr (by omega) (pv 2)))) pss_nil)
    (pss_cons (ps_set (i := 3) sc_built.nd rfl (by first | exact Or.inl rfl | exact Or.inr rfl) (pe_callD D_built (by first | exact hr | exact hr.mono (by decide) | exact hr.mono (by omega)) (by rfl) (pa_cons (pe_ix ix_tup (pv 0) pe_int (fun _ _ => rfl)) pa_nil)))
    (pss_cons (ps_if (pt_cmpR op_eq (pv 1) pe_str (nomark _)) (pss_one (ps_ret (pe_k2 O.and O.sub hr (by omega) (pv 2) (pv 3)))) pss_nil)
    (pss_one (ps_ret (pe_ifExp (pt_cmpR op_eq (pv 1) pe_str (nomark _)) (pe_k2 O.or O.sub hr (by omega) (pv 2) (pv 3)) (pe_k2 O.add O.sub hr (by omega) (pv 2) (pv 3))))))))))))))), ?_⟩
    cases k with
    | halves q =>
      cases hv with
      | @tup a xs _ hs ha =>
        cases ha with
        | @cons c0 _ _ _ r0 q0 =>
          cases r0
          cases q0 with
          | @cons c1 _ _ _ r1 q0 =>
            cases q0
            cases r1
            refine Evl.q_asg (v := .str "halves") (Evl.ev_op (Evl.ev_var (v := .ref a) rfl) Evl.ev_c (Evl.rv_ixT (Evl.ex_t (w_sub (L := L)) hs) rfl)) fun H1 e1 => ?_
            refine Evl.q_when (b := true) (Evl.et_is (Evl.et_test (Evl.ev_op (Evl.ev_var (v := .str "halves") rfl) Evl.ev_c (Evl.rv_eq rfl))) (by decide)) (fun _ H2 e2 => ?_) (fun z => nomatch z)
            have eA := (e1.trans e2)
            have eqp : q = p := hok
            subst eqp
            exact k_ret (L := L) (k := .halves q) (mk_1 (i := .ha) (Evl.ev_op (Evl.ev_var (v := .ref a) rfl) Evl.ev_c (Evl.rv_ixT (Evl.ex_t (w_sub (L := L)) (Evl.ex_t (w_ex (L := L) eA) hs)) rfl)) (hid_ex eA hL) p1 p3 (fun _ _ dx h => ⟨dx, h⟩)) (fun x H' hx e q => kk x H' (Evl.fresh_back eA hx) (eA.trans e) q)
    | boxes q =>
      cases hv with
      | @tup a xs _ hs ha =>
        cases ha with
        | @cons c0 _ _ _ r0 q0 =>
          cases r0
          cases q0 with
          | @cons c1 _ _ _ r1 q0 =>
            cases q0
            cases r1
            refine Evl.q_asg (v := .str "boxes") (Evl.ev_op (Evl.ev_var (v := .ref a) rfl) Evl.ev_c (Evl.rv_ixT (Evl.ex_t (w_sub (L := L)) hs) rfl)) fun H1 e1 => ?_
            refine Evl.q_when (b := false) (Evl.et_is (Evl.et_test (Evl.ev_op (Evl.ev_var (v := .str "boxes") rfl) Evl.ev_c (Evl.rv_eq rfl))) (by decide)) (fun z => nomatch z) (fun _ H2 e2 => ?_)
            refine Evl.q_when (b := true) (Evl.et_is (Evl.et_test (Evl.ev_op (Evl.ev_var (v := .str "boxes") rfl) Evl.ev_c (Evl.rv_eq rfl))) (by decide)) (fun _ H3 e3 => ?_) (fun z => nomatch z)
            have eA := ((e1.trans e2).trans e3)
            have eqp : q = p := hok
            subst eqp
            exact k_ret (L := L) (k := .boxes q) (mk_1 (i := .bo) (Evl.ev_op (Evl.ev_var (v := .ref a) rfl) Evl.ev_c (Evl.rv_ixT (Evl.ex_t (w_sub (L := L)) (Evl.ex_t (w_ex (L := L) eA) hs)) rfl)) (hid_ex eA hL) p1 p3 (fun _ _ dx h => ⟨dx, h⟩)) (fun x H' hx e q => kk x H' (Evl.fresh_back eA hx) (eA.trans e) q)
    | rising q =>
      cases hv with
      | @tup a xs _ hs ha =>
        cases ha with
        | @cons c0 _ _ _ r0 q0 =>
          cases r0
          cases q0 with
          | @cons c1 _ _ _ r1 q0 =>
            cases q0
            cases r1
            refine Evl.q_asg (v := .str "rising") (Evl.ev_op (Evl.ev_var (v := .ref a) rfl) Evl.ev_c (Evl.rv_ixT (Evl.ex_t (w_sub (L := L)) hs) rfl)) fun H1 e1 => ?_
            refine Evl.q_when (b := false) (Evl.et_is (Evl.et_test (Evl.ev_op (Evl.ev_var (v := .str "rising") rfl) Evl.ev_c (Evl.rv_eq rfl))) (by decide)) (fun z => nomatch z) (fun _ H2 e2 => ?_)
            refine Evl.q_when (b := false) (Evl.et_is (Evl.et_test (Evl.ev_op (Evl.ev_var (v := .str "rising") rfl) Evl.ev_c (Evl.rv_eq rfl))) (by decide)) (fun z => nomatch z) (fun _ H3 e3 => ?_)
            refine Evl.q_when (b := true) (Evl.et_is (Evl.et_test (Evl.ev_op (Evl.ev_var (v := .str "rising") rfl) Evl.ev_c (Evl.rv_eq rfl))) (by decide)) (fun _ H4 e4 => ?_) (fun z => nomatch z)
            have eA := (((e1.trans e2).trans e3).trans e4)
            have eqp : q = p := hok
            subst eqp
            exact k_ret (L := L) (k := .rising q) (mk_1 (i := .ri) (Evl.ev_op (Evl.ev_var (v := .ref a) rfl) Evl.ev_c (Evl.rv_ixT (Evl.ex_t (w_sub (L := L)) (Evl.ex_t (w_ex (L := L) eA) hs)) rfl)) (hid_ex eA hL) p1 p3 (fun _ _ dx h => ⟨dx, h⟩)) (fun x H' hx e q => kk x H' (Evl.fresh_back eA hx) (eA.trans e) q)
    | flats q =>
      cases hv with
      | @tup a xs _ hs ha =>
        cases ha with
        | @cons c0 _ _ _ r0 q0 =>
          cases r0
          cases q0 with
          | @cons c1 _ _ _ r1 q0 =>
            cases q0
            cases r1
            refine Evl.q_asg (v := .str "flats") (Evl.ev_op (Evl.ev_var (v := .ref a) rfl) Evl.ev_c (Evl.rv_ixT (Evl.ex_t (w_sub (L := L)) hs) rfl)) fun H1 e1 => ?_
            refine Evl.q_when (b := false) (Evl.et_is (Evl.et_test (Evl.ev_op (Evl.ev_var (v := .str "flats") rfl) Evl.ev_c (Evl.rv_eq rfl))) (by decide)) (fun z => nomatch z) (fun _ H2 e2 => ?_)
            refine Evl.q_when (b := false) (Evl.et_is (Evl.et_test (Evl.ev_op (Evl.ev_var (v := .str "flats") rfl) Evl.ev_c (Evl.rv_eq rfl))) (by decide)) (fun z => nomatch z) (fun _ H3 e3 => ?_)
            refine Evl.q_when (b := false) (Evl.et_is (Evl.et_test (Evl.ev_op (Evl.ev_var (v := .str "flats") rfl) Evl.ev_c (Evl.rv_eq rfl))) (by decide)) (fun z => nomatch z) (fun _ H4 e4 => ?_)
            refine Evl.q_when (b := true) (Evl.et_is (Evl.et_test (Evl.ev_op (Evl.ev_var (v := .str "flats") rfl) Evl.ev_c (Evl.rv_eq rfl))) (by decide)) (fun _ H5 e5 => ?_) (fun z => nomatch z)
            have eA := ((((e1.trans e2).trans e3).trans e4).trans e5)
            have eqp : q = p := hok
            subst eqp
            exact k_ret (L := L) (k := .flats q) (mk_1 (i := .fl) (Evl.ev_op (Evl.ev_var (v := .ref a) rfl) Evl.ev_c (Evl.rv_ixT (Evl.ex_t (w_sub (L := L)) (Evl.ex_t (w_ex (L := L) eA) hs)) rfl)) (hid_ex eA hL) p1 p3 (fun _ _ dx h => ⟨dx, h⟩)) (fun x H' hx e q => kk x H' (Evl.fresh_back eA hx) (eA.trans e) q)
    | turns q =>
      cases hv with
      | @tup a xs _ hs ha =>
        cases ha with
        | @cons c0 _ _ _ r0 q0 =>
          cases r0
          cases q0 with
          | @cons c1 _ _ _ r1 q0 =>
            cases q0
            cases r1
            refine Evl.q_asg (v := .str "turns") (Evl.ev_op (Evl.ev_var (v := .ref a) rfl) Evl.ev_c (Evl.rv_ixT (Evl.ex_t (w_sub (L := L)) hs) rfl)) fun H1 e1 => ?_
            refine Evl.q_when (b := false) (Evl.et_is (Evl.et_test (Evl.ev_op (Evl.ev_var (v := .str "turns") rfl) Evl.ev_c (Evl.rv_eq rfl))) (by decide)) (fun z => nomatch z) (fun _ H2 e2 => ?_)
            refine Evl.q_when (b := false) (Evl.et_is (Evl.et_test (Evl.ev_op (Evl.ev_var (v := .str "turns") rfl) Evl.ev_c (Evl.rv_eq rfl))) (by decide)) (fun z => nomatch z) (fun _ H3 e3 => ?_)
            refine Evl.q_when (b := false) (Evl.et_is (Evl.et_test (Evl.ev_op (Evl.ev_var (v := .str "turns") rfl) Evl.ev_c (Evl.rv_eq rfl))) (by decide)) (fun z => nomatch z) (fun _ H4 e4 => ?_)
            refine Evl.q_when (b := false) (Evl.et_is (Evl.et_test (Evl.ev_op (Evl.ev_var (v := .str "turns") rfl) Evl.ev_c (Evl.rv_eq rfl))) (by decide)) (fun z => nomatch z) (fun _ H5 e5 => ?_)
            refine Evl.q_when (b := true) (Evl.et_is (Evl.et_test (Evl.ev_op (Evl.ev_var (v := .str "turns") rfl) Evl.ev_c (Evl.rv_eq rfl))) (by decide)) (fun _ H6 e6 => ?_) (fun z => nomatch z)
            have eA := (((((e1.trans e2).trans e3).trans e4).trans e5).trans e6)
            exact k_ret (L := L) (k := .turns q) (mk_T (Evl.ev_op (Evl.ev_var (v := .ref a) rfl) Evl.ev_c (Evl.rv_ixT (Evl.ex_t (w_sub (L := L)) (Evl.ex_t (w_ex (L := L) eA) hs)) rfl)) (hid_ex eA hL) hok.2.1 (by have := hok.2.2; omega)) (fun x H' hx e q => kk x H' (Evl.fresh_back eA hx) (eA.trans e) q)
    | no k1 =>
      cases hv with
      | @tup a xs _ hs ha =>
        cases ha with
        | @cons c0 _ _ _ r0 q0 =>
          cases r0
          cases q0 with
          | @cons c1 _ _ _ r1 q0 =>
            cases q0
            have dp := hdep
            simp only [depK] at dp
            obtain ⟨m, rfl⟩ : ∃ m, n = m + 1 := ⟨n - 1, by omega⟩
            refine Evl.q_asg (v := .str "not") (Evl.ev_op (Evl.ev_var (v := .ref a) rfl) Evl.ev_c (Evl.rv_ixT (Evl.ex_t (w_sub (L := L)) hs) rfl)) fun H1 e1 => ?_
            refine Evl.q_when (b := false) (Evl.et_is (Evl.et_test (Evl.ev_op (Evl.ev_var (v := .str "not") rfl) Evl.ev_c (Evl.rv_eq rfl))) (by decide)) (fun z => nomatch z) (fun _ H2 e2 => ?_)
            refine Evl.q_when (b := false) (Evl.et_is (Evl.et_test (Evl.ev_op (Evl.ev_var (v := .str "not") rfl) Evl.ev_c (Evl.rv_eq rfl))) (by decide)) (fun z => nomatch z) (fun _ H3 e3 => ?_)
            refine Evl.q_when (b := false) (Evl.et_is (Evl.et_test (Evl.ev_op (Evl.ev_var (v := .str "not") rfl) Evl.ev_c (Evl.rv_eq rfl))) (by decide)) (fun z => nomatch z) (fun _ H4 e4 => ?_)
            refine Evl.q_when (b := false) (Evl.et_is (Evl.et_test (Evl.ev_op (Evl.ev_var (v := .str "not") rfl) Evl.ev_c (Evl.rv_eq rfl))) (by decide)) (fun z => nomatch z) (fun _ H5 e5 => ?_)
            refine Evl.q_when (b := false) (Evl.et_is (Evl.et_test (Evl.ev_op (Evl.ev_var (v := .str "not") rfl) Evl.ev_c (Evl.rv_eq rfl))) (by decide)) (fun z => nomatch z) (fun _ H6 e6 => ?_)
            have eA := (((((e1.trans e2).trans e3).trans e4).trans e5).trans e6)
            refine q_asgK (L := L) (k := k1) (ev_built (Evl.ev_op (Evl.ev_var (v := .ref a) rfl) Evl.ev_c (Evl.rv_ixT (Evl.ex_t (w_sub (L := L)) (Evl.ex_t (w_ex (L := L) eA) hs)) rfl)) (hid_ex eA hL) (r1.up (w_ex eA)) hok p1 p3 (by omega)) fun x1 H7 n1 e7 k1' => ?_
            refine Evl.q_when (b := true) (Evl.et_is (Evl.et_test (Evl.ev_op (Evl.ev_var (v := .str "not") rfl) Evl.ev_c (Evl.rv_eq rfl))) (by decide)) (fun _ H8 e8 => ?_) (fun z => nomatch z)
            have eB := (eA.trans e7).trans e8
            exact k_ret (L := L) (k := .no k1) (evk_1 (Evl.ev_var rfl) (hid_ex eB hL) (k1'.up (w_ex e8))) (fun x H' hx e q => kk x H' (Evl.fresh_back eB hx) (eB.trans e) q)
    | both k1 k2 =>
      cases hv with
      | @tup a xs _ hs ha =>
        cases ha with
        | @cons c0 _ _ _ r0 q0 =>
          cases r0
          cases q0 with
          | @cons c1 _ _ _ r1 q0 =>
            cases q0 with
            | @cons c2 _ _ _ r2 q0 =>
              cases q0
              have dp := hdep
              simp only [depK] at dp
              obtain ⟨m, rfl⟩ : ∃ m, n = m + 1 := ⟨n - 1, by omega⟩
              refine Evl.q_asg (v := .str "both") (Evl.ev_op (Evl.ev_var (v := .ref a) rfl) Evl.ev_c (Evl.rv_ixT (Evl.ex_t (w_sub (L := L)) hs) rfl)) fun H1 e1 => ?_
              refine Evl.q_when (b := false) (Evl.et_is (Evl.et_test (Evl.ev_op (Evl.ev_var (v := .str "both") rfl) Evl.ev_c (Evl.rv_eq rfl))) (by decide)) (fun z => nomatch z) (fun _ H2 e2 => ?_)
              refine Evl.q_when (b := false) (Evl.et_is (Evl.et_test (Evl.ev_op (Evl.ev_var (v := .str "both") rfl) Evl.ev_c (Evl.rv_eq rfl))) (by decide)) (fun z => nomatch z) (fun _ H3 e3 => ?_)
              refine Evl.q_when (b := false) (Evl.et_is (Evl.et_test (Evl.ev_op (Evl.ev_var (v := .str "both") rfl) Evl.ev_c (Evl.rv_eq rfl))) (by decide)) (fun z => nomatch z) (fun _ H4 e4 => ?_)
              refine Evl.q_when (b := false) (Evl.et_is (Evl.et_test (Evl.ev_op (Evl.ev_var (v := .str "both") rfl) Evl.ev_c (Evl.rv_eq rfl))) (by decide)) (fun z => nomatch z) (fun _ H5 e5 => ?_)
              refine Evl.q_when (b := false) (Evl.et_is (Evl.et_test (Evl.ev_op (Evl.ev_var (v := .str "both") rfl) Evl.ev_c (Evl.rv_eq rfl))) (by decide)) (fun z => nomatch z) (fun _ H6 e6 => ?_)
              have eA := (((((e1.trans e2).trans e3).trans e4).trans e5).trans e6)
              refine q_asgK (L := L) (k := k1) (ev_built (Evl.ev_op (Evl.ev_var (v := .ref a) rfl) Evl.ev_c (Evl.rv_ixT (Evl.ex_t (w_sub (L := L)) (Evl.ex_t (w_ex (L := L) eA) hs)) rfl)) (hid_ex eA hL) (r1.up (w_ex eA)) hok.1 p1 p3 (by omega)) fun x1 H7 n1 e7 k1' => ?_
              refine Evl.q_when (b := false) (Evl.et_is (Evl.et_test (Evl.ev_op (Evl.ev_var (v := .str "both") rfl) Evl.ev_c (Evl.rv_eq rfl))) (by decide)) (fun z => nomatch z) (fun _ H8 e8 => ?_)
              have eB := (eA.trans e7).trans e8
              refine q_asgK (L := L) (k := k2) (ev_built (Evl.ev_op (Evl.ev_var (v := .ref a) rfl) Evl.ev_c (Evl.rv_ixT (Evl.ex_t (w_sub (L := L)) (Evl.ex_t (w_ex (L := L) eB) hs)) rfl)) (hid_ex eB hL) (r2.up (w_ex eB)) hok.2 p1 p3 (by omega)) fun x2 H9 n2 e9 k2' => ?_
              have ep : placesK k1 = placesK k2 := (okK_places hok.1).trans (okK_places hok.2).symm
              refine Evl.q_when (b := true) (Evl.et_is (Evl.et_test (Evl.ev_op (Evl.ev_var (v := .str "both") rfl) Evl.ev_c (Evl.rv_eq rfl))) (by decide)) (fun _ H10 e10 => ?_) (fun z => nomatch z)
              have eC := (eB.trans e9).trans e10
              exact k_ret (L := L) (k := .both k1 k2) (evk_2 (Evl.ev_var rfl) (Evl.ev_var rfl) (hid_ex eC hL) (k1'.up (w_ex ((e8.trans e9).trans e10))) (k2'.up (w_ex e10)) ep) (fun x H' hx e q => kk x H' (Evl.fresh_back eC hx) (eC.trans e) q)
    | either k1 k2 =>
      cases hv with
      | @tup a xs _ hs ha =>
        cases ha with
        | @cons c0 _ _ _ r0 q0 =>
          cases r0
          cases q0 with
          | @cons c1 _ _ _ r1 q0 =>
            cases q0 with
            | @cons c2 _ _ _ r2 q0 =>
              cases q0
              have dp := hdep
              simp only [depK] at dp
              obtain ⟨m, rfl⟩ : ∃ m, n = m + 1 := ⟨n - 1, by omega⟩
              refine Evl.q_asg (v := .str "either") (Evl.ev_op (Evl.ev_var (v := .ref a) rfl) Evl.ev_c (Evl.rv_ixT (Evl.ex_t (w_sub (L := L)) hs) rfl)) fun H1 e1 => ?_
              refine Evl.q_when (b := false) (Evl.et_is (Evl.et_test (Evl.ev_op (Evl.ev_var (v := .str "either") rfl) Evl.ev_c (Evl.rv_eq rfl))) (by decide)) (fun z => nomatch z) (fun _ H2 e2 => ?_)
              refine Evl.q_when (b := false) (Evl.et_is (Evl.et_test (Evl.ev_op (Evl.ev_var (v := .str "either") rfl) Evl.ev_c (Evl.rv_eq rfl))) (by decide)) (fun z => nomatch z) (fun _ H3 e3 => ?_)
              refine Evl.q_when (b := false) (Evl.et_is (Evl.et_test (Evl.ev_op (Evl.ev_var (v := .str "either") rfl) Evl.ev_c (Evl.rv_eq rfl))) (by decide)) (fun z => nomatch z) (fun _ H4 e4 => ?_)
              refine Evl.q_when (b := false) (Evl.et_is (Evl.et_test (Evl.ev_op (Evl.ev_var (v := .str "either") rfl) Evl.ev_c (Evl.rv_eq rfl))) (by decide)) (fun z => nomatch z) (fun _ H5 e5 => ?_)
              refine Evl.q_when (b := false) (Evl.et_is (Evl.et_test (Evl.ev_op (Evl.ev_var (v := .str "either") rfl) Evl.ev_c (Evl.rv_eq rfl))) (by decide)) (fun z => nomatch z) (fun _ H6 e6 => ?_)
              have eA := (((((e1.trans e2).trans e3).trans e4).trans e5).trans e6)
              refine q_asgK (L := L) (k := k1) (ev_built (Evl.ev_op (Evl.ev_var (v := .ref a) rfl) Evl.ev_c (Evl.rv_ixT (Evl.ex_t (w_sub (L := L)) (Evl.ex_t (w_ex (L := L) eA) hs)) rfl)) (hid_ex eA hL) (r1.up (w_ex eA)) hok.1 p1 p3 (by omega)) fun x1 H7 n1 e7 k1' => ?_
              refine Evl.q_when (b := false) (Evl.et_is (Evl.et_test (Evl.ev_op (Evl.ev_var (v := .str "either") rfl) Evl.ev_c (Evl.rv_eq rfl))) (by decide)) (fun z => nomatch z) (fun _ H8 e8 => ?_)
              have eB := (eA.trans e7).trans e8
              refine q_asgK (L := L) (k := k2) (ev_built (Evl.ev_op (Evl.ev_var (v := .ref a) rfl) Evl.ev_c (Evl.rv_ixT (Evl.ex_t (w_sub (L := L)) (Evl.ex_t (w_ex (L := L) eB) hs)) rfl)) (hid_ex eB hL) (r2.up (w_ex eB)) hok.2 p1 p3 (by omega)) fun x2 H9 n2 e9 k2' => ?_
              have ep : placesK k1 = placesK k2 := (okK_places hok.1).trans (okK_places hok.2).symm
              refine Evl.q_when (b := false) (Evl.et_is (Evl.et_test (Evl.ev_op (Evl.ev_var (v := .str "either") rfl) Evl.ev_c (Evl.rv_eq rfl))) (by decide)) (fun z => nomatch z) (fun _ H10 e10 => ?_)
              have eC := (eB.trans e9).trans e10
              exact k_ret (L := L) (k := .either k1 k2) (evk_ift (Evl.et_is (Evl.et_test (Evl.ev_op (Evl.ev_var (v := .str "either") rfl) Evl.ev_c (Evl.rv_eq rfl))) (by decide)) (fun H11 e11 => evk_2 (Evl.ev_var rfl) (Evl.ev_var rfl) (hid_ex (eC.trans e11) hL) (k1'.up (w_ex (((e8.trans e9).trans e10).trans e11))) (k2'.up (w_ex (e10.trans e11))) ep)) (fun x H' hx e q => kk x H' (Evl.fresh_back eC hx) (eC.trans e) q)
    | any k1 k2 =>
      cases hv with
      | @tup a xs _ hs ha =>
        cases ha with
        | @cons c0 _ _ _ r0 q0 =>
          cases r0
          cases q0 with
          | @cons c1 _ _ _ r1 q0 =>
            cases q0 with
            | @cons c2 _ _ _ r2 q0 =>
              cases q0
              have dp := hdep
              simp only [depK] at dp
              obtain ⟨m, rfl⟩ : ∃ m, n = m + 1 := ⟨n - 1, by omega⟩
              refine Evl.q_asg (v := .str "any") (Evl.ev_op (Evl.ev_var (v := .ref a) rfl) Evl.ev_c (Evl.rv_ixT (Evl.ex_t (w_sub (L := L)) hs) rfl)) fun H1 e1 => ?_
              refine Evl.q_when (b := false) (Evl.et_is (Evl.et_test (Evl.ev_op (Evl.ev_var (v := .str "any") rfl) Evl.ev_c (Evl.rv_eq rfl))) (by decide)) (fun z => nomatch z) (fun _ H2 e2 => ?_)
              refine Evl.q_when (b := false) (Evl.et_is (Evl.et_test (Evl.ev_op (Evl.ev_var (v := .str "any") rfl) Evl.ev_c (Evl.rv_eq rfl))) (by decide)) (fun z => nomatch z) (fun _ H3 e3 => ?_)
              refine Evl.q_when (b := false) (Evl.et_is (Evl.et_test (Evl.ev_op (Evl.ev_var (v := .str "any") rfl) Evl.ev_c (Evl.rv_eq rfl))) (by decide)) (fun z => nomatch z) (fun _ H4 e4 => ?_)
              refine Evl.q_when (b := false) (Evl.et_is (Evl.et_test (Evl.ev_op (Evl.ev_var (v := .str "any") rfl) Evl.ev_c (Evl.rv_eq rfl))) (by decide)) (fun z => nomatch z) (fun _ H5 e5 => ?_)
              refine Evl.q_when (b := false) (Evl.et_is (Evl.et_test (Evl.ev_op (Evl.ev_var (v := .str "any") rfl) Evl.ev_c (Evl.rv_eq rfl))) (by decide)) (fun z => nomatch z) (fun _ H6 e6 => ?_)
              have eA := (((((e1.trans e2).trans e3).trans e4).trans e5).trans e6)
              refine q_asgK (L := L) (k := k1) (ev_built (Evl.ev_op (Evl.ev_var (v := .ref a) rfl) Evl.ev_c (Evl.rv_ixT (Evl.ex_t (w_sub (L := L)) (Evl.ex_t (w_ex (L := L) eA) hs)) rfl)) (hid_ex eA hL) (r1.up (w_ex eA)) hok.1 p1 p3 (by omega)) fun x1 H7 n1 e7 k1' => ?_
              refine Evl.q_when (b := false) (Evl.et_is (Evl.et_test (Evl.ev_op (Evl.ev_var (v := .str "any") rfl) Evl.ev_c (Evl.rv_eq rfl))) (by decide)) (fun z => nomatch z) (fun _ H8 e8 => ?_)
              have eB := (eA.trans e7).trans e8
              refine q_asgK (L := L) (k := k2) (ev_built (Evl.ev_op (Evl.ev_var (v := .ref a) rfl) Evl.ev_c (Evl.rv_ixT (Evl.ex_t (w_sub (L := L)) (Evl.ex_t (w_ex (L := L) eB) hs)) rfl)) (hid_ex eB hL) (r2.up (w_ex eB)) hok.2 p1 p3 (by omega)) fun x2 H9 n2 e9 k2' => ?_
              have ep : placesK k1 = placesK k2 := (okK_places hok.1).trans (okK_places hok.2).symm
              refine Evl.q_when (b := false) (Evl.et_is (Evl.et_test (Evl.ev_op (Evl.ev_var (v := .str "any") rfl) Evl.ev_c (Evl.rv_eq rfl))) (by decide)) (fun z => nomatch z) (fun _ H10 e10 => ?_)
              have eC := (eB.trans e9).trans e10
              exact k_ret (L := L) (k := .any k1 k2) (evk_iff (Evl.et_is (Evl.et_test (Evl.ev_op (Evl.ev_var (v := .str "any") rfl) Evl.ev_c (Evl.rv_eq rfl))) (by decide)) (fun H11 e11 => evk_2 (Evl.ev_var rfl) (Evl.ev_var rfl) (hid_ex (eC.trans e11) hL) (k1'.up (w_ex (((e8.trans e9).trans e10).trans e11))) (k2'.up (w_ex (e10.trans e11))) ep)) (fun x H' hx e q => kk x H' (Evl.fresh_back eC hx) (eC.trans e) q)
end
end U

set_option Elab.async false
set_option linter.all false
set_option maxRecDepth 100000
set_option maxHeartbeats 4000000
/-! operators of kinds that may raise -/
namespace U
open PySem PySem.Spec PyProof.Rows L2
open Evl (Ex)
section
variable {X : Cx} {a b : Expr} {ta tb : TE} {n : Nat} {pos : Pos} {op : Operator} {sp : Sp} {C1 C2 f g : Addr} {fd : FuncData} {ps : List Str} {E : XK} {c : KC}
def tOwn2X (C1 C2 : Addr) (sp : Sp) (E : XK) (ta tb : TE) : TE := fun σ H Q => ta σ H fun x H1 => tb σ H1 fun y H2 => ∃ a b dx dy fs gs, x = .ref a ∧ y = .ref b ∧ H2 a = some (.ins C1 dx fs) ∧ H2 b = some (.ins C2 dy gs) ∧
  sp [.ref a, .ref b] H2 (fun v H' => ∃ r, v = .ref r ∧ Q (.ref r) H') E
theorem pe_own2X (F : FnOk X.prog X.w X.K X.mg X.base (L2.CX X.prog X.w) n f fd ps sp) (hr : Room n X.A) (hx : Passes (L2.CX X.prog X.w) X E) (o1 : OpC X.K C1 (PySem.dunder op.info.2) (dunderR op.info.2) f) (o2 : OpC X.K C2 (PySem.dunder op.info.2) (dunderR op.info.2) g) (hsub : C1 = C2 ∨ PySem.W.subIn X.K (.ref C2) (.ref C1) = some false)
    (hb : Binds X.K fd ps []) (ha : PE X a ta) (hb2 : PE X b tb) : PE X (.BinOp a op b pos) (tOwn2X C1 C2 sp E ta tb) := by
  refine ⟨fun pins s σ H Q I h => wpAny_BinOp (binT (R := fun x y H2 => ∃ a b dx dy fs gs, x = .ref a ∧ y = .ref b ∧ H2 a = some (.ins C1 dx fs) ∧ H2 b = some (.ins C2 dy gs) ∧ sp [.ref a, .ref b] H2 (fun v H' => ∃ r, v = .ref r ∧ Q (.ref r) H') E) ha hb2 I h fun v u s2 x y H2 I2 rx ry q => ?_)⟩
  obtain ⟨p, r, dx, dy, fs, gs, rfl, rfl, hp, hr2, hsp⟩ := q
  cases rx
  cases ry
  obtain ⟨mA, J, _⟩ := ins_get I2.hok hp
  obtain ⟨mB, J', _⟩ := ins_get I2.hok hr2
  obtain ⟨od, J, _⟩ := J.look
  obtain ⟨od', J', _⟩ := J'.look
  obtain ⟨m, hF⟩ := I2.fr
  have r2 : Vals [V.ref p, V.ref r] [Value.ref p, Value.ref r] := .cons rfl (.cons rfl .nil)
  have run : wpAny (model X.prog X.w) X.A (call (.ref f) [Value.ref p, .ref r]) (PySem.W.CmpBack (EP X pins σ Q)) X.xe s2 := by
    refine wpAny_mono (run_fn F hr hb .nil hx I2 r2 hsp) (fun r s' z => ?_) fun _ _ x => x
    obtain ⟨v, H', I', rv, t, rfl, q⟩ := z
    cases rv
    exact ⟨V.ref t, H', I', rfl, q⟩
  by_cases e : C1 = C2
  · subst e
    exact PySem.W.binop_K (C := C1) hF I2.ok.mod.kin J J'.type o1.sf o1.hs o1.hf run
  · exact UO.binop2 hF I2.ok.mod.kin J J'.type e o1.sf o2.sf o1.hs o1.hf o2.hs o1.hr o2.hr (hsub.resolve_left e) run
structure OpIX (P : Program) (w : World) (K : PySem.W.Frag) (mg : Str → Option Value) (base : Heap) (C : Addr) (op : Operator) (sp : Sp) : Prop where
  ex : ∃ (f : Addr) (fd : FuncData), FnOk P w K mg base (L2.CX P w) 3 f fd ["self", "other"] sp ∧ OpC K C (PySem.dunder op.info.2) (PySem.dunderR op.info.2) f ∧ Binds K fd ["self", "other"] []
def spPrX (c : KC) (U : Addr) (f : Kd → Kd → Kd) : Sp := fun vs H Q E => spPr c f vs H Q E ∨ spBinBad c U vs H Q E
/-- the operators of kinds, where they may raise -/
structure KOpX (P : Program) (w : World) (K : PySem.W.Frag) (mg : Str → Option Value) (base : Heap) (c : KC) (U : Addr) : Prop where
  and : ∀ i, OpIX P w K mg base (c i) .BitAnd (spPrX c U .both)
  or : ∀ i, OpIX P w K mg base (c i) .BitOr (spPrX c U .either)
  add : ∀ i, OpIX P w K mg base (c i) .Add (spPrX c U .any)
  sub : ∀ i j, c i = c j ∨ PySem.W.subIn K (.ref (c j)) (.ref (c i)) = some false
def tK2X (c : KC) (sp : Sp) (E : XK) (ta tb : TE) : TE := tAny (fun _ => True) fun ij : KI × KI => tOwn2X (c ij.1) (c ij.2) sp E ta tb
theorem pe_k2X (O : ∀ i, OpIX X.prog X.w X.K X.mg X.base (c i) op sp) (S : ∀ i j, c i = c j ∨ PySem.W.subIn X.K (.ref (c j)) (.ref (c i)) = some false) (hr : Room n X.A) (hn : 3 ≤ n) (hx : Passes (L2.CX X.prog X.w) X E) (ha : PE X a ta) (hb : PE X b tb) : PE X (.BinOp a op b pos) (tK2X c sp E ta tb) := pe_any fun ij _ => by
  obtain ⟨f, fd, F, o1, hB⟩ := (O ij.1).ex
  obtain ⟨g, gd, G, o2, _⟩ := (O ij.2).ex
  exact pe_own2X F (hr.mono hn) hx o1 o2 (S ij.1 ij.2) hB ha hb
end
section
variable {K : PySem.W.Frag} {c : KC} {σ : L2.St} {H : Hp} {ta tb : TE} {x y U : Addr} {k m : Kd} {f : Kd → Kd → Kd} {E : XK} {kk : VK}
theorem bin_run (h1 : Evl.Ev ta σ H (.ref x)) (h2 : Evl.Ev tb σ H (.ref y)) (hk : Kin c H k x) (hm : Kin c H m y) (S : KCl K c) (hf : placesK (f k m) = placesK k) (h3 : placesK k = placesK m → ∀ H2, Ex H H2 → kk (.int (placesK k)) H2) (h4 : placesK k ≠ placesK m → ∀ H2, Ex H H2 → E (.ref U) none H2) :
    tFld K (tK2X c (spPrX c U f) E ta tb) "places" σ H kk := by
  refine ⟨(kiOf k, kiOf m), trivial, h1 H (Ex.refl _) _ fun H2 e2 => h2 H2 e2 _ fun H3 e3 => ?_⟩
  have eA := e2.trans e3
  have a1 := hk.up eA
  have a2 := hm.up eA
  obtain ⟨d1, f1, y1, l1⟩ := a1.ins
  obtain ⟨d2, f2, y2, l2⟩ := a2.ins
  refine ⟨x, y, d1, d2, f1, f2, rfl, rfl, y1, y2, ?_⟩
  by_cases e : placesK k = placesK m
  · refine .inl ⟨x, y, k, m, [], rfl, (fun _ m => nomatch m), by rw [w_nil]; exact a1, by rw [w_nil]; exact a2, e, fun z H' hz e' hz2 => ⟨z, rfl, ?_⟩⟩
    rw [w_nil] at hz2
    obtain ⟨dz, fz, q1, q2⟩ := hz2.ins
    rw [hf] at q2
    exact ⟨z, _, dz, fz, _, rfl, q1, S.cl _, S.na _ _ (by decide), q2, h3 e _ (eA.trans e')⟩
  · exact .inr ⟨x, kiOf k, d1, f1, placesK k, y, kiOf m, d2, f2, placesK m, rfl, y1, l1, y2, l2, e, fun H' e' => h4 e _ (eA.trans e')⟩
end
section
variable {c : KC} {H H' : Hp} {L : List Addr}
/-- kinds stand where only tables change -/
theorem Kin.to (e : ∀ b o, H b = some o → (∀ ps, o ≠ .tbl ps) → H' b = some o) : ∀ {k : Kd} {x : Addr}, Kin c H k x → Kin c H' k x
  | .halves _, _, ⟨dx, h⟩ => ⟨dx, e _ _ h fun _ z => by cases z⟩
  | .boxes _, _, ⟨dx, h⟩ => ⟨dx, e _ _ h fun _ z => by cases z⟩
  | .rising _, _, ⟨dx, h⟩ => ⟨dx, e _ _ h fun _ z => by cases z⟩
  | .flats _, _, ⟨dx, h⟩ => ⟨dx, e _ _ h fun _ z => by cases z⟩
  | .turns _, _, ⟨dx, h⟩ => ⟨dx, e _ _ h fun _ z => by cases z⟩
  | .no _, _, ⟨dx, y, h, q⟩ => ⟨dx, y, e _ _ h (fun _ z => by cases z), Kin.to e q⟩
  | .both _ _, _, ⟨dx, y, z, h, q, r⟩ => ⟨dx, y, z, e _ _ h (fun _ z => by cases z), Kin.to e q, Kin.to e r⟩
  | .either _ _, _, ⟨dx, y, z, h, q, r⟩ => ⟨dx, y, z, e _ _ h (fun _ z => by cases z), Kin.to e q, Kin.to e r⟩
  | .any _ _, _, ⟨dx, y, z, h, q, r⟩ => ⟨dx, y, z, e _ _ h (fun _ z => by cases z), Kin.to e q, Kin.to e r⟩
theorem Kin.n {k : Kd} {x : Addr} (h : Kin c H k x) (e : LamX.ExtN H H') : Kin c H' k x := h.to e
end
end U

set_option Elab.async false
set_option linter.all false
set_option maxRecDepth 100000
set_option maxHeartbeats 4000000
/-! how two kinds are put together -/
namespace U
open PySem PySem.Spec PyProof.Rows L2
open Evl (Ex)
open C8 (Met Mak pe_mt pe_mt0 pe_mk)
abbrev s_ends : Stmt := top 34
abbrev sc_ends_N : List Str := ["_law_one", "_law_other", "_law_found"]
theorem sc_ends : FnScope sc_ends_N ["_law_one", "_law_other"] (defScope s_ends) := ⟨rfl, rfl, rfl, by decide +kernel, rfl, by decide +kernel, by decide +kernel⟩
/-- what is told of two kinds -/
def dueK (k m : Kd) : PyData := if placesK k = placesK m then .tuple [.str "told", .int (placesK k)] else .tuple [.str "unlike", .none]
section
variable {P : Program} {w : World} {K : PySem.W.Frag} {mg : Str → Option Value} {base : Heap} {c : KC} {CP CM CU cR PR : Addr} {T : List (Addr × Str)}
abbrev endsQ : Str := (envOfC "_law_ends" (defScope s_ends) 0 0 .none).qual ++ "<lambda>"
def spEnds (K : PySem.W.Frag) (c : KC) (T : List (Addr × Str)) : Sp := fun vs H Q _ => ∃ x y k m, vs = [.ref x, .ref y] ∧ Kin c H k x ∧ Kin c H m y ∧ LamX.Tabs T H ∧ ∀ v' H', LamX.ExtN H H' → LamX.Tabs T H' → Dq K H' v' (.list [dueK k m, dueK k m, dueK k m]) → Q v' H'
theorem ends_try {f : Addr} {A : Around} {outer : List Env} {s : Shared} {H : Hp} {E : XK} {vs : List V} {Q : VK} (DE : EndL P w K mg base CP CM CU) (M : ExM K CP CM CU) (S : KCl K c) (TBe : LamX.TabB base mg cR PR) (hmT : (PR, endsQ) ∈ T) (hu : ∀ p ∈ T, p.1 = PR → p.2 = endsQ) (hr : Room 8 (A.deeper (envOfC "_law_ends" (defScope s_ends) s.heap.objs.size f (.ref cR))))
    (O : KOpX P w K mg base c CU) (h : spEnds K c T vs H Q E) : ∃ t, PSs (cxOf CX0 P w K mg base sc_ends_N "_law_ends" (defScope s_ends) f (.ref cR) A outer s H E).nox (defBody s_ends) t ∧ t { nx := fun _ H' => Q .non H', rt := Q } (L2.start sc_ends_N vs) H := by
  obtain ⟨x, y, k, m, rfl, hk, hm, ht, q⟩ := h
  refine ⟨_, (pss_cons (ps_set (i := 2) sc_ends.nd rfl (by first | exact Or.inl rfl | exact Or.inr rfl) (pe_lst (pa_cons (pe_end (k := 6) (t := fun E => tFld K (tK2X c (spPrX c CU .both) E (tVar 0) (tVar 1)) "places") DE TBe (by rfl) rfl hmT hu (hr.mono (by omega)) (LamX.lamS_by (sc := defScope s_ends) (by decide +kernel)) (fun A outer s H E f c' hr2 => pe_fld (pe_k2X O.and O.sub hr2 (by omega) (Passes.of (takes_of rfl rfl rfl rfl)) (pv 0) (pv 1)) rfl)) pa_nil)))
    (pss_cons (ps_expr (pe_bm PySem.F.plainAttrs_list PySem.F.slot_list_append PySem.F.type_list_append mt_append (pv 2) (pa_cons (pe_end (k := 6) (t := fun E => tFld K (tK2X c (spPrX c CU .either) E (tVar 0) (tVar 1)) "places") DE TBe (by rfl) rfl hmT hu (hr.mono (by omega)) (LamX.lamS_by (sc := defScope s_ends) (by decide +kernel)) (fun A outer s H E f c' hr2 => pe_fld (pe_k2X O.or O.sub hr2 (by omega) (Passes.of (takes_of rfl rfl rfl rfl)) (pv 0) (pv 1)) rfl)) pa_nil)))
    (pss_one (ps_ret (pe_op op_cat (pv 2) (pe_lst (pa_cons (pe_end (k := 6) (t := fun E => tFld K (tK2X c (spPrX c CU .any) E (tVar 0) (tVar 1)) "places") DE TBe (by rfl) rfl hmT hu (hr.mono (by omega)) (LamX.lamS_by (sc := defScope s_ends) (by decide +kernel)) (fun A outer s H E f c' hr2 => pe_fld (pe_k2X O.add O.sub hr2 (by omega) (Passes.of (takes_of rfl rfl rfl rfl)) (pv 0) (pv 1)) rfl)) pa_nil))))))), ?_⟩
  have go : ∀ (fk : Kd → Kd → Kd) (L : List Addr) (σ : L2.St) (H1 : Hp), placesK (fk k m) = placesK k → σ[0]? = some (some (.ref x)) → σ[1]? = some (some (.ref y)) → LsS L H1 → Kin c H1 k x → Kin c H1 m y → LamX.Tabs T H1 → EndQ K L T (LamX.tLam T (TEnd K (clsE CP CM CU)) (fun E => tFld K (tK2X c (spPrX c CU fk) E (tVar 0) (tVar 1)) "places")) σ H1 (dueK k m) := by
    intro fk L σ H1 hf h0 h1 hL hk1 hm1 t1
    unfold dueK
    by_cases e : placesK k = placesK m
    · rw [if_pos e]
      exact endq_n t1 hL fun H2 x2 E kk hq => bin_run (Evl.ev_var h0) (Evl.ev_var h1) (hk1.n x2) (hm1.n x2) S hf (fun _ => hq) fun n => absurd e n
    · rw [if_neg e]
      exact endq_u M t1 hL fun H2 x2 E kk hq => bin_run (Evl.ev_var h0) (Evl.ev_var h1) (hk1.n x2) (hm1.n x2) S hf (fun n => absurd n e) fun _ => hq
  refine (go .both [] _ H rfl rfl rfl (fun _ m => nomatch m) hk hm ht) _ fun v1 H1 x1 t1 h1 => ?_
  refine ⟨by show 1 ≤ sizeLine; decide, fun t htn => ?_⟩
  have hnt : NTb H t := ntb_of x1 htn
  have e1 : Ex H1 (upd H1 t (.lst [v1])) := Ex.new htn
  have htx : (upd H1 t (.lst [v1])) t = some (.lst [v1]) := upd_same
  have pst : Ex (W [] H1) (W [t] (upd H1 t (.lst [v1]))) := w_past (L := []) htn e1
  have a1 : DqAll K (W [t] (upd H1 t (.lst [v1]))) [v1] [dueK k m] := .cons (h1.up pst) .nil
  have x1' : LamX.ExtN H (upd H1 t (.lst [v1])) := x1.trans (ExtN_of e1)
  have t1' := t1.ext e1
  generalize upd H1 t (.lst [v1]) = H2 at htx a1 x1' t1' ⊢
  have ls : ∀ {H : Hp} {xs : List V}, H t = some (.lst xs) → LsS [t] H := fun h a m => by rw [List.mem_singleton.mp m]; exact ⟨_, h⟩
  have mt : t ∈ [t] := List.mem_singleton.mpr rfl
  refine qq_end (K := K) (j := 2) (t := t) (go .either [t] _ H2 rfl rfl rfl (ls htx) (hk.n x1') (hm.n x1') t1') rfl htx (by show 1 < 100000; omega) a1 fun v2 H3 x3 t3 ht3 a3 => ?_
  have x3' := extN_upd (o := .lst ([v1] ++ [v2])) (x1'.trans x3) hnt
  have t3' := tabs_upd (o := .lst ([v1] ++ [v2])) t3 ht3
  have a3' := dqa_keep (o := .lst ([v1] ++ [v2])) mt a3
  have ht3' : (upd H3 t (.lst ([v1] ++ [v2]))) t = some (.lst ([v1] ++ [v2])) := upd_same
  generalize upd H3 t (.lst ([v1] ++ [v2])) = H4 at x3' t3' a3' ht3' ⊢
  refine ⟨.ref t, rfl, go .any [t] _ H4 rfl rfl rfl (ls ht3') (hk.n x3') (hm.n x3') t3' _ fun v4 H7 x7 t7 h7 => ⟨by show 1 ≤ sizeLine; decide, fun u hu => ⟨t, u, _, [v4], rfl, rfl, (Ex.new hu) _ _ (x7 _ _ ht3' (fun _ z => by cases z)), upd_same, by show 3 ≤ sizeLine; decide, fun r hr => ?_⟩⟩⟩
  have e8 := (Ex.new (o := .lst [v4]) hu).trans (Ex.new (o := .lst ([v1] ++ [v2] ++ [v4])) hr)
  refine q _ _ ((x3'.trans x7).trans (ExtN_of e8)) (t7.ext e8) (.lst (SqL.of upd_same) ?_)
  have a7 := dqa_to (sqto_of fun b o h z => by
    obtain ⟨h1, n⟩ := w_in h
    exact w_of n (x7 b o h1 z)) _ _ a3'
  exact (dqa_app a7 (.cons h7 .nil)).up (w_sub.trans e8)
end
end U

set_option Elab.async false
set_option linter.all false
set_option maxRecDepth 100000
set_option maxHeartbeats 4000000
/-! equal and of the same kinds, empty dicts among them -/
namespace U
open PySem L2
open Evl (Ex)
/-- ==, of scalars or of two empty dicts -/
def rEqQ : R2 := fun x y H Q => rEq x y H Q ∨ ∃ a b, x = .ref a ∧ y = .ref b ∧ H a = some (.dK []) ∧ H b = some (.dK []) ∧ Q (.bl true) H
theorem op_eqQ {X : Cx} (hu : X.A.units + 64 < cLine) : OpR X (compareOp .Eq) rEqQ := by
  intro pins s σ H x y v u Q I rx ry h
  rcases h with h | ⟨a, b, rfl, rfl, ha, hb, q⟩
  · exact op_eq pins s σ H x y v u Q I rx ry h
  · exact op_eq_dict (show X.A.units < cLine by omega) pins s σ H _ _ v u Q I rx ry ⟨a, b, [], rfl, rfl, ha, hb, List.nodup_nil, (fun _ h => nomatch h), q⟩
section
variable {K : PySem.W.Frag} {σ : L2.St} {H : Hp} {te : TE} {x y v : V} {d : PyData} {b : Bool}
theorem rv_eqQ (h : scal x y = true) : Evl.RV rEqQ x y H (.bl (decide (x = y))) := fun H1 e1 Q q => .inl (Evl.rv_eq h H1 e1 Q q)
theorem evq_isi4 {m n k l : String} (h : Evl.Ev te σ H v) (hd : Dq K H v d) (hb : kitsB (tyOf d) [m, n, k, l] = some b) :
    Evl.Ev (tCB (rIsiT K) (tCons te (tCons (tTup (tCons (tC (.ty m)) (tCons (tC (.ty n)) (tCons (tC (.ty k)) (tCons (tC (.ty l)) tNil))))) tNil))) σ H (.bl b) := fun H1 e1 Q q =>
  h H1 e1 _ fun H2 e2 => ⟨by show 4 ≤ sizeLine; decide, fun p hp => ⟨v, p, _, _, _, b, rfl, upd_same, tys_cls (ns := [m, n, k, l]), dq_ty (hd.up ((e1.trans e2).trans (Ex.new hp))), kitsB_ok hb, q _ (e2.trans (Ex.new hp))⟩⟩
end
section
variable {P : Program} {w : World} {K : PySem.W.Frag} {mg : Str → Option Value} {base : Heap}
def spSameQ (K : PySem.W.Frag) (n : Nat) : Sp := fun vs H Q _ => ∃ (x y : V) (d : PyData), vs = [x, y] ∧ Dq K H x d ∧ Dq K H y d ∧ fits n d ∧ ∀ H', Ex H H' → Q (.bl true) H'
def spPrevQ (K : PySem.W.Frag) : Nat → Sp
  | 0 => fun _ _ _ _ => False
  | n + 1 => spSameQ K n
theorem same_bodyQ {f : Addr} {fd : FuncData} (F : Fun K "_law_same" "_law_same" s_same f fd) (T : TxB mg) (n : Nat) (D_same : DefAt P w K mg base "_law_same" n ["_law_found", "_law_due"] (spPrevQ K n)) : FnOk P w K mg base CX0 (n + 1) f fd ["_law_found", "_law_due"] (spSameQ K n) := by
  refine F.ok sc_same (fun vs H Q E h => ?_) (fun cdv A outer s H vs Q E hr h => ?_)
  · obtain ⟨_, _, _, rfl, _⟩ := h
    rfl
  · obtain ⟨x, y, d, rfl, hx, hy, hf, k⟩ := h
    refine ⟨_, (pss_cons (ps_if (pt_val (pe_callB call_isiT (by rfl) T.m_isinstance (by decide +kernel) (pa_cons (pv 1) (pa_cons (pe_tup (pa_cons (pe_bltn (v := .ty "list") (by rfl) T.m_list (by decide +kernel) rfl) (pa_cons (pe_bltn (v := .ty "tuple") (by rfl) T.m_tuple (by decide +kernel) rfl) pa_nil))) pa_nil)))) (pss_cons (ps_if (PW.pt (pw_or (pt_cmpR op_ne (pe_callB call_isi (by rfl) T.m_isinstance (by decide +kernel) (pa_cons (pv 0) (pa_cons (pe_bltn (v := .ty "list") (by rfl) T.m_list (by decide +kernel) rfl) pa_nil))) (pe_callB call_isi (by rfl) T.m_isinstance (by decide +kernel) (pa_cons (pv 1) (pa_cons (pe_bltn (v := .ty "list") (by rfl) T.m_list (by decide +kernel) rfl) pa_nil))) (nomark _)) (pw_or1 (pt_cmpR op_ne (pe_callB call_isi (by rfl) T.m_isinstance (by decide +kernel) (pa_cons (pv 0) (pa_cons (pe_bltn (v := .ty "tuple") (by rfl) T.m_tuple (by decide +kernel) rfl) pa_nil))) (pe_callB call_isi (by rfl) T.m_isinstance (by decide +kernel) (pa_cons (pv 1) (pa_cons (pe_bltn (v := .ty "tuple") (by rfl) T.m_tuple (by decide +kernel) rfl) pa_nil))) (nomark _))))) (pss_one (ps_ret pe_bl)) pss_nil)
      (pss_one (ps_ret (pe_and (pe_cmpR op_eq (pe_callB call_len_seq (by rfl) T.m_len (by decide +kernel) (pa_cons (pv 0) pa_nil)) (pe_callB call_len_seq (by rfl) T.m_len (by decide +kernel) (pa_cons (pv 1) pa_nil)) (nomark _)) (pe_one (pe_callB (cr_all rfl) (by rfl) T.m_all (by decide +kernel) (pa_cons (pe_lc (own := [("_law_left", 2), ("_law_right", 3)]) (g := gTup K 2 (gCons (gName 2) (gCons (gName 3) (gNil)))) (tt := tYes) (by rfl) sc_same.nd (RZ.pi_zipA (by rfl) T.m_zip (pa_cons (pv 0) (pa_cons (pv 1) pa_nil))) (blkOk_by (N := sc_same_N) (sc := defScope s_same) (by decide +kernel)) (fun _ _ _ _ _ => (pg_tup (by rfl) (pgs_cons (pg_name (i := 2) sc_same.nd rfl (by first | exact Or.inl rfl | exact Or.inr rfl)) (pgs_cons (pg_name (i := 3) sc_same.nd rfl (by first | exact Or.inl rfl | exact Or.inr rfl)) pgs_nil)))) (fun _ _ _ _ _ => pts_nil) (fun _ _ _ _ _ => (pe_callD D_same (by first | exact hr | exact hr.mono (by decide) | exact hr.mono (by omega)) (by rfl) (pa_cons (pv 2) (pa_cons (pv 3) pa_nil))))) pa_nil))))))) pss_nil)
    (pss_cons (ps_if (pt_val (pe_callB call_isiT (by rfl) T.m_isinstance (by decide +kernel) (pa_cons (pv 1) (pa_cons (pe_tup (pa_cons (pe_bltn (v := .ty "bool") (by rfl) T.m_bool (by decide +kernel) rfl) (pa_cons (pe_bltn (v := .ty "int") (by rfl) T.m_int (by decide +kernel) rfl) pa_nil))) pa_nil)))) (pss_one (ps_ret (pe_and (pe_callB call_isi (by rfl) T.m_isinstance (by decide +kernel) (pa_cons (pv 0) (pa_cons (pe_bltn (v := .ty "int") (by rfl) T.m_int (by decide +kernel) rfl) pa_nil))) (pe_and (pe_cmpR op_eq (pe_callB call_isi (by rfl) T.m_isinstance (by decide +kernel) (pa_cons (pv 0) (pa_cons (pe_bltn (v := .ty "bool") (by rfl) T.m_bool (by decide +kernel) rfl) pa_nil))) (pe_callB call_isi (by rfl) T.m_isinstance (by decide +kernel) (pa_cons (pv 1) (pa_cons (pe_bltn (v := .ty "bool") (by rfl) T.m_bool (by decide +kernel) rfl) pa_nil))) (nomark _)) (pe_one (pe_cmpR (op_eqQ hr.units) (pv 0) (pv 1) (nomark _))))))) pss_nil)
    (pss_one (ps_ret (pe_and (pe_not (pe_callB call_isiT (by rfl) T.m_isinstance (by decide +kernel) (pa_cons (pv 0) (pa_cons (pe_tup (pa_cons (pe_bltn (v := .ty "bool") (by rfl) T.m_bool (by decide +kernel) rfl) (pa_cons (pe_bltn (v := .ty "int") (by rfl) T.m_int (by decide +kernel) rfl) (pa_cons (pe_bltn (v := .ty "list") (by rfl) T.m_list (by decide +kernel) rfl) (pa_cons (pe_bltn (v := .ty "tuple") (by rfl) T.m_tuple (by decide +kernel) rfl) pa_nil))))) pa_nil)))) (pe_one (pe_cmpR (op_eqQ hr.units) (pv 0) (pv 1) (nomark _)))))))), ?_⟩
    have v0 : Evl.Ev (tVar 0) (start sc_same_N [x, y]) H x := Evl.ev_var rfl
    have v1 : Evl.Ev (tVar 1) (start sc_same_N [x, y]) H y := Evl.ev_var rfl
    -- two lists, two tuples
    have seqs : ∀ (a b : Addr) (xs ys : List V) (ds : List PyData) (m : Nat), n = m + 1 → x = .ref a → y = .ref b → (SqL K H a xs ∧ SqL K H b ys) ∨ (SqT K H a xs ∧ SqT K H b ys) → DqAll K H xs ds → DqAll K H ys ds → (∀ d ∈ ds, fits m d) → xs.length ≤ 40000 →
        ∀ H1, Ex H H1 → Evl.Ev (tAndV (tOp rEq (tCB (fun xs H Q => ∃ p ys, xs = [V.ref p] ∧ (SqL K H p ys ∨ SqT K H p ys) ∧ Q (.int ys.length) H) (tCons (tVar 0) tNil)) (tCB (fun xs H Q => ∃ p ys, xs = [V.ref p] ∧ (SqL K H p ys ∨ SqT K H p ys) ∧ Q (.int ys.length) H) (tCons (tVar 1) tNil)))
          (tCB (rAll K) (tCons (tLc (RZ.iZipA K (tCons (tVar 0) (tCons (tVar 1) tNil))) (gTup K 2 (gCons (gName 2) (gCons (gName 3) gNil))) tYes (tCallD (spPrevQ K n) (tCons (tVar 2) (tCons (tVar 3) tNil))) [2, 3]) tNil))) (start sc_same_N [x, y]) H1 (.bl true) := by
      rintro a b xs ys ds m rfl rfl rfl hs h1 h2 hd hz H1 e1
      have hl : xs.length = ys.length := (dqa_len h1).trans (dqa_len h2).symm
      have hs1 : SqL K H1 a xs ∨ SqT K H1 a xs := hs.imp (fun q => Evl.ex_l e1 q.1) (fun q => Evl.ex_t e1 q.1)
      have hs2 : SqL K H1 b ys ∨ SqT K H1 b ys := hs.imp (fun q => Evl.ex_l e1 q.2) (fun q => Evl.ex_t e1 q.2)
      refine Evl.ev_is (Evl.ev_andV (a := true) (b := true) (Evl.ev_is (Evl.ev_op (ev_lenS (v0.mono e1) hs1) (ev_lenS (v1.mono e1) hs2) (Evl.rv_eq rfl)) ?_) fun _ => ?_) rfl
      · rw [hl]
        exact congrArg V.bl (decide_eq_true rfl)
      · have z := el_zip (K := K) (v := fun _ => V.bl true) (te := tCallD (spPrevQ K (m + 1)) (tCons (tVar 2) (tCons (tVar 3) tNil))) (i1 := 2) (i2 := 3) (vs := [2, 3]) (σ := start sc_same_N [V.ref a, V.ref b]) (H := H1) (ta := tCons (tVar 0) (tCons (tVar 1) tNil)) (a := a) (b := b) (xs := xs) (ys := ys)
          (Evl.ea_cons (v0.mono e1) (Evl.ea_cons (v1.mono e1) Evl.ea_nil)) (hs.imp (fun q => ⟨Evl.ex_l e1 q.1, Evl.ex_l e1 q.2⟩) (fun q => ⟨Evl.ex_t e1 q.1, Evl.ex_t e1 q.2⟩)) hl hz (fun _ _ => rfl) (fun i u v H2 e2 hu hv => ?_)
        · have em : (List.range xs.length).map (fun _ => V.bl true) = ((List.range xs.length).map fun _ => true).map V.bl := by
            rw [List.map_map]
            rfl
          rw [em] at z
          exact Evl.ev_is (ev_all z) (congrArg V.bl (by simp))
        · obtain ⟨d, hd1, hd2⟩ := dqa_get h1 hu
          obtain ⟨d', hd3, hd4⟩ := dqa_get h2 hv
          rw [hd1] at hd3
          cases hd3
          exact ev_callD (Evl.ea_cons (Evl.ev_var rfl) (Evl.ea_cons (Evl.ev_var rfl) Evl.ea_nil)) fun H3 e3 Q q => ⟨u, v, d, rfl, hd2.up ((e1.trans e2).trans e3), hd4.up ((e1.trans e2).trans e3), hd d (List.mem_of_getElem? hd1), q⟩
    cases d with
    | none =>
      have exy : x = y := by
        cases hx
        cases hy
        rfl
      refine Evl.q_when (b := false) (Evl.et_B (evq_isi2 v1 hy isi_NoneType_list_tuple)) (fun z => by cases z) (fun _ H1 e1 => ?_)
      refine Evl.q_when (b := false) (Evl.et_B (evq_isi2 (v1.mono e1) (hy.up e1) isi_NoneType_bool_int)) (fun z => by cases z) (fun _ H2 e2 => ?_)
      refine Evl.s_ret (v := .bl true) (Evl.ev_is (Evl.ev_andV (Evl.ev_notV (evq_isi4 (v0.mono (e1.trans e2)) (hx.up (e1.trans e2)) (b := false) isi_NoneType_bool_int_list_tuple)) (fun _ => Evl.ev_is (Evl.ev_op (v0.mono (e1.trans e2)) (v1.mono (e1.trans e2)) (rv_eqQ (by cases hx; cases hy; rfl))) (w := .bl true) (by rw [exy]; exact congrArg V.bl (decide_eq_true rfl)))) rfl) (fun H3 e3 => k H3 ((e1.trans e2).trans e3))
    | str z =>
      have exy : x = y := by
        cases hx
        cases hy
        rfl
      refine Evl.q_when (b := false) (Evl.et_B (evq_isi2 v1 hy isi_str_list_tuple)) (fun z => by cases z) (fun _ H1 e1 => ?_)
      refine Evl.q_when (b := false) (Evl.et_B (evq_isi2 (v1.mono e1) (hy.up e1) isi_str_bool_int)) (fun z => by cases z) (fun _ H2 e2 => ?_)
      refine Evl.s_ret (v := .bl true) (Evl.ev_is (Evl.ev_andV (Evl.ev_notV (evq_isi4 (v0.mono (e1.trans e2)) (hx.up (e1.trans e2)) (b := false) isi_str_bool_int_list_tuple)) (fun _ => Evl.ev_is (Evl.ev_op (v0.mono (e1.trans e2)) (v1.mono (e1.trans e2)) (rv_eqQ (by cases hx; cases hy; rfl))) (w := .bl true) (by rw [exy]; exact congrArg V.bl (decide_eq_true rfl)))) rfl) (fun H3 e3 => k H3 ((e1.trans e2).trans e3))
    | bool z =>
      have exy : x = y := by
        cases hx
        cases hy
        rfl
      refine Evl.q_when (b := false) (Evl.et_B (evq_isi2 v1 hy isi_bool_list_tuple)) (fun z => by cases z) (fun _ H1 e1 => ?_)
      refine Evl.q_when (b := true) (Evl.et_B (evq_isi2 (v1.mono e1) (hy.up e1) isi_bool_bool_int)) (fun _ H2 e2 => ?_) (fun z => by cases z)
      refine Evl.s_ret (v := .bl true) (Evl.ev_is (Evl.ev_andV (evq_isi (v0.mono (e1.trans e2)) (hx.up (e1.trans e2)) (b := true) isi_bool_int) (fun _ => Evl.ev_andV (a := true) (Evl.ev_is (ev_eqB (evq_isi (v0.mono (e1.trans e2)) (hx.up (e1.trans e2)) (b := true) isi_bool_bool) (evq_isi (v1.mono (e1.trans e2)) (hy.up (e1.trans e2)) (b := true) isi_bool_bool)) (by decide))
        fun _ => Evl.ev_is (Evl.ev_op (v0.mono (e1.trans e2)) (v1.mono (e1.trans e2)) (rv_eqQ (by cases hx; cases hy; rfl))) (w := .bl true) (by rw [exy]; exact congrArg V.bl (decide_eq_true rfl)))) rfl) (fun H3 e3 => k H3 ((e1.trans e2).trans e3))
    | int z =>
      have exy : x = y := by
        cases hx
        cases hy
        rfl
      refine Evl.q_when (b := false) (Evl.et_B (evq_isi2 v1 hy isi_int_list_tuple)) (fun z => by cases z) (fun _ H1 e1 => ?_)
      refine Evl.q_when (b := true) (Evl.et_B (evq_isi2 (v1.mono e1) (hy.up e1) isi_int_bool_int)) (fun _ H2 e2 => ?_) (fun z => by cases z)
      refine Evl.s_ret (v := .bl true) (Evl.ev_is (Evl.ev_andV (evq_isi (v0.mono (e1.trans e2)) (hx.up (e1.trans e2)) (b := true) isi_int_int) (fun _ => Evl.ev_andV (a := true) (Evl.ev_is (ev_eqB (evq_isi (v0.mono (e1.trans e2)) (hx.up (e1.trans e2)) (b := false) isi_int_bool) (evq_isi (v1.mono (e1.trans e2)) (hy.up (e1.trans e2)) (b := false) isi_int_bool)) (by decide))
        fun _ => Evl.ev_is (Evl.ev_op (v0.mono (e1.trans e2)) (v1.mono (e1.trans e2)) (rv_eqQ (by cases hx; cases hy; rfl))) (w := .bl true) (by rw [exy]; exact congrArg V.bl (decide_eq_true rfl)))) rfl) (fun H3 e3 => k H3 ((e1.trans e2).trans e3))
    | list ds =>
      cases n with
      | zero => exact hf.elim
      | succ m =>
        have hx' := hx
        have hy' := hy
        cases hx with
        | @lst a xs _ hs ha =>
          cases hy with
          | @lst b ys _ hs2 ha2 =>
            refine Evl.q_when (b := true) (Evl.et_B (evq_isi2 v1 hy' isi_list_list_tuple)) (fun _ H1 e1 => ?_) (fun z => by cases z)
            refine Evl.q_when (b := false) (Evl.et_is (Evl.et_or (Evl.et_test (ev_neB (evq_isi (v0.mono e1) (hx'.up e1) (b := true) isi_list_list) (evq_isi (v1.mono e1) (hy'.up e1) (b := true) isi_list_list))) fun _ => Evl.et_test (ev_neB (evq_isi (v0.mono e1) (hx'.up e1) (b := false) isi_list_tuple) (evq_isi (v1.mono e1) (hy'.up e1) (b := false) isi_list_tuple))) (by decide)) (fun z => by cases z) (fun _ H2 e2 => ?_)
            exact Evl.s_ret (v := .bl true) (seqs a b xs ys ds m rfl rfl rfl (.inl ⟨hs, hs2⟩) ha ha2 hf.2 (by rw [dqa_len ha]; exact hf.1) _ (e1.trans e2)) (fun H3 e3 => k H3 ((e1.trans e2).trans e3))
    | tuple ds =>
      cases n with
      | zero => exact hf.elim
      | succ m =>
        have hx' := hx
        have hy' := hy
        cases hx with
        | @tup a xs _ hs ha =>
          cases hy with
          | @tup b ys _ hs2 ha2 =>
            refine Evl.q_when (b := true) (Evl.et_B (evq_isi2 v1 hy' isi_tuple_list_tuple)) (fun _ H1 e1 => ?_) (fun z => by cases z)
            refine Evl.q_when (b := false) (Evl.et_is (Evl.et_or (Evl.et_test (ev_neB (evq_isi (v0.mono e1) (hx'.up e1) (b := false) isi_tuple_list) (evq_isi (v1.mono e1) (hy'.up e1) (b := false) isi_tuple_list))) fun _ => Evl.et_test (ev_neB (evq_isi (v0.mono e1) (hx'.up e1) (b := true) isi_tuple_tuple) (evq_isi (v1.mono e1) (hy'.up e1) (b := true) isi_tuple_tuple))) (by decide)) (fun z => by cases z) (fun _ H2 e2 => ?_)
            exact Evl.s_ret (v := .bl true) (seqs a b xs ys ds m rfl rfl rfl (.inr ⟨hs, hs2⟩) ha ha2 hf.2 (by rw [dqa_len ha]; exact hf.1) _ (e1.trans e2)) (fun H3 e3 => k H3 ((e1.trans e2).trans e3))
    | dict z =>
      cases hx with
      | @dct ax hax =>
        cases hy with
        | @dct ay hay =>
          refine Evl.q_when (b := false) (Evl.et_B (evq_isi2 v1 (.dct hay) isi_dict_list_tuple)) (fun z => by cases z) (fun _ H1 e1 => ?_)
          refine Evl.q_when (b := false) (Evl.et_B (evq_isi2 (v1.mono e1) (.dct (e1 _ _ hay)) isi_dict_bool_int)) (fun z => by cases z) (fun _ H2 e2 => ?_)
          refine Evl.s_ret (v := .bl true) (Evl.ev_is (Evl.ev_andV (Evl.ev_notV (evq_isi4 (v0.mono (e1.trans e2)) (.dct ((e1.trans e2) _ _ hax)) (b := false) isi_dict_bool_int_list_tuple)) (fun _ => fun H4 e4 Q q => (v0.mono (e1.trans e2)) H4 e4 _ fun H5 e5 => (v1.mono (e1.trans e2)) H5 (e4.trans e5) _ fun H6 e6 => .inr ⟨ax, ay, rfl, rfl, ((((e1.trans e2).trans e4).trans e5).trans e6) _ _ hax, ((((e1.trans e2).trans e4).trans e5).trans e6) _ _ hay, q H6 (e5.trans e6)⟩)) rfl) (fun H3 e3 => k H3 ((e1.trans e2).trans e3))
end
end U

set_option Elab.async false
set_option linter.all false
set_option maxRecDepth 100000
set_option maxHeartbeats 2000000
namespace U
open PySem L2
open Evl (Ex)
/-! ### what evaluates to data -/
section
variable {K : PySem.W.Frag} {L : List Addr} {σ : L2.St} {H H' : Hp} {te tb : TE} {ta tr : TA} {v : V} {d : PyData} {ds : List PyData} {l p : Addr} {o : HO}
def EvQ (K : PySem.W.Frag) (L : List Addr) (te : TE) (σ : L2.St) (H : Hp) (d : PyData) : Prop := ∀ H1, Ex H H1 → ∀ Q : VK, (∀ v H2, Ex H1 H2 → Dq K (W L H2) v d → Q v H2) → te σ H1 Q
def EvQs (K : PySem.W.Frag) (L : List Addr) (ta : TA) (σ : L2.St) (H : Hp) (ds : List PyData) : Prop := ∀ H1, Ex H H1 → ∀ Q : List V → Hp → Prop, (∀ vs H2, Ex H1 H2 → DqAll K (W L H2) vs ds → Q vs H2) → ta σ H1 Q
theorem EvQ.mono (e : Ex H H') (h : EvQ K L te σ H d) : EvQ K L te σ H' d := fun H1 a Q q => h H1 (e.trans a) Q q
theorem EvQs.mono (e : Ex H H') (h : EvQs K L ta σ H ds) : EvQs K L ta σ H' ds := fun H1 a Q q => h H1 (e.trans a) Q q
theorem evq_of (h : Evl.Ev te σ H v) (hd : Dq K (W L H) v d) : EvQ K L te σ H d := fun H1 e Q q => h H1 e _ fun H2 e2 => q v H2 e2 (hd.up (w_ex (e.trans e2)))
theorem evq_var {i : Nat} (h : σ[i]? = some (some v)) (hd : Dq K (W L H) v d) : EvQ K L (tVar i) σ H d := evq_of (Evl.ev_var h) hd
theorem evq_int {i : Int} : EvQ K L (tC (.int i)) σ H (.int i) := evq_of Evl.ev_c (.int i)
theorem evq_bl {b : Bool} : EvQ K L (tC (.bl b)) σ H (.bool b) := evq_of Evl.ev_c (.bl b)
theorem evq_non : EvQ K L (tC .non) σ H .none := evq_of Evl.ev_c .non
theorem evq_str {x : Str} : EvQ K L (tC (.str x)) σ H (.str x) := evq_of Evl.ev_c (.str x)
theorem evq_evI {i : Int} (h : Evl.Ev te σ H (.int i)) : EvQ K L te σ H (.int i) := evq_of h (.int i)
theorem evq_evB {b : Bool} (h : Evl.Ev te σ H (.bl b)) : EvQ K L te σ H (.bool b) := evq_of h (.bl b)
theorem evqs_nil : EvQs K L tNil σ H [] := fun H1 _ _ q => q [] H1 (Ex.refl H1) .nil
theorem evqs_cons (h : EvQ K L te σ H d) (hr : EvQs K L tr σ H ds) : EvQs K L (tCons te tr) σ H (d :: ds) := fun H1 e Q q =>
  h H1 e _ fun v H2 e2 hv => hr H2 (e.trans e2) _ fun vs H3 e3 hvs => q (v :: vs) H3 (e2.trans e3) (.cons (hv.up (w_ex e3)) hvs)
theorem evq_tup (hL : Hid L H) (h : EvQs K L ta σ H ds) (hz : ds.length ≤ 100000) : EvQ K L (tTup ta) σ H (.tuple ds) := fun H1 e Q q =>
  h H1 e _ fun vs H2 e2 hv => ⟨Evl.sz_of (by rw [dqa_len hv]; exact hz), fun p hp => q (.ref p) _ (e2.trans (Ex.new hp)) (.tup (SqT.of (w_new (hid_ex (e.trans e2) hL) hp)) (hv.up (w_ex (Ex.new hp))))⟩
theorem evq_lst (hL : Hid L H) (h : EvQs K L ta σ H ds) (hz : ds.length ≤ 100000) : EvQ K L (tLst ta) σ H (.list ds) := fun H1 e Q q =>
  h H1 e _ fun vs H2 e2 hv => ⟨Evl.sz_of (by rw [dqa_len hv]; exact hz), fun p hp => q (.ref p) _ (e2.trans (Ex.new hp)) (.lst (SqL.of (w_new (hid_ex (e.trans e2) hL) hp)) (hv.up (w_ex (Ex.new hp))))⟩
/-! ### a list that grows -/
/-- at l a list of the data ds, which do not hang on l -/
def Gq (K : PySem.W.Frag) (L : List Addr) (H : Hp) (l : Addr) (ds : List PyData) : Prop := l ∉ L ∧ ∃ xs, H l = some (.lst xs) ∧ DqAll K (W (l :: L) H) xs ds
theorem Gq.dp (h : Gq K L H l ds) : Dq K (W L H) (.ref l) (.list ds) := by
  obtain ⟨n, xs, h1, h2⟩ := h
  exact .lst (SqL.of (w_of n h1)) (h2.up w_cons)
theorem Gq.up (h : Gq K L H l ds) (e : Ex H H') : Gq K L H' l ds := by
  obtain ⟨n, xs, h1, h2⟩ := h
  exact ⟨n, xs, e _ _ h1, h2.up (w_ex e)⟩
theorem Gq.ne (h : Gq K L H l ds) : H l ≠ none := by
  obtain ⟨n, xs, h1, h2⟩ := h
  rw [h1]
  simp
theorem gq_new {xs : List V} (hL : Hid L H) (hp : H p = none) (h : DqAll K (W L H) xs ds) : Gq K L (upd H p (.lst xs)) p ds := ⟨hid_not hL hp, xs, upd_same, h.up (w_fresh hp)⟩
/-- a heap that differs at l alone, where the list has one more -/
theorem gq_app {xs : List V} (n : l ∉ L) (h1 : H l = some (.lst xs)) (h2 : DqAll K (W (l :: L) H) xs ds) (hv : Dq K (W (l :: L) H) v d) : Gq K L (upd H l (.lst (xs ++ [v]))) l (ds ++ [d]) := by
  refine ⟨n, xs ++ [v], upd_same, ?_⟩
  rw [w_upd_in (List.mem_cons_self ..)]
  exact dqa_app h2 (.cons hv .nil)
/-! ### statements -/
variable {D : Ends} {tz tu : TS} {i : Nat}
theorem dq_asg (h : EvQ K L te σ H d) (k : ∀ v H1, Ex H H1 → Dq K (W L H1) v d → D.nx (σ.set i (some v)) H1) : tAsg te (gName i) D σ H := h H (Ex.refl H) _ fun v H1 e hv => k v H1 e hv
theorem qq_asg (h : EvQ K L te σ H d) (k : ∀ v H1, Ex H H1 → Dq K (W L H1) v d → tz D (σ.set i (some v)) H1) : tSeq (tAsg te (gName i)) tz D σ H := dq_asg (D := { D with nx := tz D }) h k
theorem dq_ret (h : EvQ K L te σ H d) (k : ∀ v H1, Ex H H1 → Dq K (W L H1) v d → D.rt v H1) : tRet te D σ H := h H (Ex.refl H) _ fun v H1 e hv => k v H1 e hv
theorem qq_lst (hL : Hid L H) (h : EvQs K L ta σ H ds) (hz : ds.length ≤ 100000) (k : ∀ p H1, H p = none → Ex H H1 → Gq K L H1 p ds → tz D (σ.set i (some (.ref p))) H1) : tSeq (tAsg (tLst ta) (gName i)) tz D σ H :=
  h H (Ex.refl H) _ fun vs H1 e hv => ⟨Evl.sz_of (by rw [dqa_len hv]; exact hz), fun p hp => k p _ (Evl.fresh_back e hp) (e.trans (Ex.new hp)) (gq_new (hid_ex e hL) hp hv)⟩
theorem dq_app (hg : Gq K L H l ds) (ho : Evl.Ev tb σ H (.ref l)) (h : EvQ K (l :: L) te σ H d) (hz : ds.length < 100000) (k : ∀ o H1, Ex H H1 → Gq K L (upd H1 l o) l (ds ++ [d]) → D.nx σ (upd H1 l o)) :
    tDrop (tBM K "list" rAppend tb (tCons te tNil)) D σ H := ho H (Ex.refl H) _ fun H1 e1 => by
  obtain ⟨n, xs, h1, h2⟩ := hg
  refine ⟨Or.inl ⟨rfl, xs, SqL.of (e1 l _ h1)⟩, h H1 e1 _ fun v H2 e2 hv => ⟨l, xs, v, rfl, rfl, e2 l _ (e1 l _ h1), Evl.sz_lt (by rw [dqa_len h2]; exact hz), k _ H2 (e1.trans e2) ?_⟩⟩
  exact gq_app n (e2 l _ (e1 l _ h1)) (h2.up (w_ex (e1.trans e2))) hv
theorem qq_app (hg : Gq K L H l ds) (ho : Evl.Ev tb σ H (.ref l)) (h : EvQ K (l :: L) te σ H d) (hz : ds.length < 100000) (k : ∀ o H1, Ex H H1 → Gq K L (upd H1 l o) l (ds ++ [d]) → tz D σ (upd H1 l o)) :
    tSeq (tDrop (tBM K "list" rAppend tb (tCons te tNil))) tz D σ H := dq_app (D := { D with nx := tz D }) hg ho h hz k
/-- xs + ys, the left a list that stands, the right a new one -/
theorem evq_cat {es : List PyData} (hL : Hid L H) (hg : Gq K L H l ds) (ho : Evl.Ev te σ H (.ref l)) (h : EvQs K L ta σ H es) (hz : ds.length + es.length ≤ 100000) : EvQ K L (tOp rCat te (tLst ta)) σ H (.list (ds ++ es)) := fun H1 e1 Q q =>
  ho H1 e1 _ fun H2 e2 => h H2 (e1.trans e2) _ fun vs H3 e3 hv => by
    have eA := (e1.trans e2).trans e3
    obtain ⟨n, xs, h1, h2⟩ := hg
    have l1 := dqa_len h2
    have l2 := dqa_len hv
    refine ⟨Evl.sz_of (by omega), fun p hp => ⟨l, p, xs, vs, rfl, rfl, ?_, upd_same, Evl.sz_of (by omega), fun r hr => ?_⟩⟩
    · exact (eA.trans (Ex.new hp)) l _ h1
    · refine q (.ref r) _ ((e2.trans e3).trans ((Ex.new hp).trans (Ex.new hr))) (.lst (SqL.of (w_new (hid_upd (hid_ex eA hL)) hr)) ?_)
      have z : Ex (W L H3) (W L (upd (upd H3 p (.lst vs)) r (.lst (xs ++ vs)))) := w_ex ((Ex.new hp).trans (Ex.new hr))
      exact dqa_app (((h2.up w_cons).up (w_ex eA)).up z) (hv.up z)
/-- xs.extend(ys), ys a new list -/
theorem dq_ext {es : List PyData} (hg : Gq K L H l ds) (hL : Hid L H) (ho : Evl.Ev tb σ H (.ref l)) (h : EvQs K (l :: L) ta σ H es) (hz : ds.length + es.length ≤ 100000) (k : ∀ o H1, Ex H H1 → Gq K L (upd H1 l o) l (ds ++ es) → D.nx σ (upd H1 l o)) :
    tDrop (tBM K "list" rExtend tb (tCons (tLst ta) tNil)) D σ H := ho H (Ex.refl H) _ fun H1 e1 => by
  obtain ⟨n, xs, h1, h2⟩ := hg
  refine ⟨Or.inl ⟨rfl, xs, SqL.of (e1 l _ h1)⟩, h H1 e1 _ fun vs H2 e2 hv => ?_⟩
  have l1 := dqa_len h2
  have l2 := dqa_len hv
  refine ⟨Evl.sz_of (by omega), fun p hp => ?_⟩
  have e3 : Ex H2 (upd H2 p (.lst vs)) := Ex.new hp
  have eA := (e1.trans e2).trans e3
  refine ⟨l, p, xs, vs, rfl, rfl, eA l _ h1, upd_same, Evl.sz_of (by omega), k _ _ eA ⟨n, xs ++ vs, upd_same, ?_⟩⟩
  rw [w_upd_in (List.mem_cons_self ..)]
  exact dqa_app (h2.up (w_ex eA)) (hv.up (w_ex e3))
theorem qq_ext {es : List PyData} (hg : Gq K L H l ds) (hL : Hid L H) (ho : Evl.Ev tb σ H (.ref l)) (h : EvQs K (l :: L) ta σ H es) (hz : ds.length + es.length ≤ 100000) (k : ∀ o H1, Ex H H1 → Gq K L (upd H1 l o) l (ds ++ es) → tz D σ (upd H1 l o)) :
    tSeq (tDrop (tBM K "list" rExtend tb (tCons (tLst ta) tNil))) tz D σ H := dq_ext (D := { D with nx := tz D }) hg hL ho h hz k
end
/-! ### a comprehension whose items are data -/
section
variable {K : PySem.W.Frag} {L : List Addr} {σ σ2 : L2.St} {H H' H1 H2 : Hp} {te tl : TE} {ta : TA} {tt : TT} {v : V} {d : PyData} {ds : List PyData} {l a Dl : Addr} {xs : List V} {f : Nat → List PyData} {i : Nat}
/-- evaluates to a new list of data -/
def EvGq (K : PySem.W.Frag) (L : List Addr) (te : TE) (σ : L2.St) (H : Hp) (ds : List PyData) : Prop := ∀ H1, Ex H H1 → ∀ Q : VK, (∀ p H2, H1 p = none → Ex H1 H2 → Gq K L H2 p ds → Q (.ref p) H2) → te σ H1 Q
theorem EvGq.mono (e : Ex H H') (h : EvGq K L te σ H ds) : EvGq K L te σ H' ds := fun H1 a Q q => h H1 (e.trans a) Q q
theorem EvGq.dat (h : EvGq K L te σ H ds) : EvQ K L te σ H (.list ds) := fun H1 e Q q => h H1 e _ fun p H2 hp e2 g => q (.ref p) H2 e2 g.dp
def Cmq (K : PySem.W.Frag) (L : List Addr) (H : Hp) (f : Nat → List PyData) (Dl : Addr) (i : Nat) (H' : Hp) : Prop := H Dl = none ∧ Ex H H' ∧ Gq K L H' Dl (f i)
theorem cmq_0 (hL : Hid L H) (hn : H Dl = none) (f0 : f 0 = []) : Cmq K L H f Dl 0 (upd H Dl (.lst [])) := ⟨hn, Ex.new hn, by
  rw [f0]
  exact gq_new hL hn .nil⟩
theorem cmq_yes (p : Cmq K L H f Dl i H') (hz : (f i).length < 100000) (e2 : Ex H' H2) (he : EvQ K (Dl :: L) te σ2 H2 d) (hf : f (i + 1) = f i ++ [d]) :
    te σ2 H2 fun y H4 => ∃ acc, H4 Dl = some (.lst acc) ∧ acc.length < sizeLine ∧ Cmq K L H f Dl (i + 1) (upd H4 Dl (.lst (acc ++ [y]))) := by
  obtain ⟨p1, p2, n, acc, p3, p4⟩ := p
  refine he H2 (Ex.refl H2) _ fun y H4 e4 hy => ⟨acc, e4 Dl _ (e2 Dl _ p3), Evl.sz_lt (by rw [dqa_len p4]; exact hz), p1, Evl.Ex.mut ((p2.trans e2).trans e4) p1, ?_⟩
  rw [hf]
  exact gq_app n (e4 Dl _ (e2 Dl _ p3)) (p4.up (w_ex (e2.trans e4))) hy
theorem cmq_no (p : Cmq K L H f Dl i H') (e2 : Ex H' H2) (hf : f (i + 1) = f i) : Cmq K L H f Dl (i + 1) H2 := by
  obtain ⟨p1, p2, p3⟩ := p
  rw [← hf] at p3
  exact ⟨p1, p2.trans e2, p3.up e2⟩
/-- [.. for x in a list or a tuple of data] -/
theorem egq_seq {j : Nat} {vs : List Nat} {g : PyData → PyData} (h : Evl.Ev tl σ H (.ref a)) (hx : SqL K H a xs ∨ SqT K H a xs) (hd : DqAll K (W L H) xs ds) (hL : Hid L H) (hz : ds.length ≤ 50000) (hw : ∀ x, wipe ((wipe σ vs).set j (some x)) vs = wipe σ vs)
    (he : ∀ L' (x : V) d H1, d ∈ ds → Hid L' H1 → Ex H H1 → Dq K (W L' H1) x d → EvQ K L' te ((wipe σ vs).set j (some x)) H1 (g d)) : EvGq K L (tLc (iSeq K tl) (gName j) tYes te vs) σ H (ds.map g) := fun H0 e0 Q q => h H0 e0 _ fun H1 e1 => by
  have hlen := dqa_len hd
  have turn : ∀ (Dl : Addr) (i : Nat) (x : V) (H2 H3 : Hp), i < xs.length → Cmq K L H1 (fun i => (ds.take i).map g) Dl i H2 → YAt xs i H2 x H3 → gName j x (wipe σ vs) H3 fun σ2 H2 => wipe σ2 vs = wipe σ vs ∧ tYes σ2 H2 fun b H3 =>
      if b = true then te σ2 H3 fun y H4 => ∃ acc, H4 Dl = some (.lst acc) ∧ acc.length < sizeLine ∧ Cmq K L H1 (fun i => (ds.take i).map g) Dl (i + 1) (upd H4 Dl (.lst (acc ++ [y]))) else Cmq K L H1 (fun i => (ds.take i).map g) Dl (i + 1) H3 := by
    intro Dl i x H2 H3 hi p yp
    obtain ⟨rfl, hu⟩ := yp
    obtain ⟨d, hd1, hd2⟩ := dqa_get hd hu
    obtain ⟨p1, p2, p3⟩ := id p
    refine ⟨hw x, ?_⟩
    refine yes_lc (A := fun H3 => te ((wipe σ vs).set j (some x)) H3 fun y H4 => ∃ acc, H4 Dl = some (.lst acc) ∧ acc.length < sizeLine ∧ Cmq K L H1 (fun i => (ds.take i).map g) Dl (i + 1) (upd H4 Dl (.lst (acc ++ [y])))) (B := fun H3 => Cmq K L H1 (fun i => (ds.take i).map g) Dl (i + 1) H3) ?_
    refine cmq_yes p (by simp; omega) (Ex.refl _) (he _ x d _ (List.mem_of_getElem? hd1) ?_ ((e0.trans e1).trans p2) (hd2.up (w_past (Evl.fresh_back (e0.trans e1) p1) ((e0.trans e1).trans p2)))) ?_
    · intro b hb
      rcases List.mem_cons.mp hb with z | z
      · rw [z]
        exact p3.ne
      · exact hid_ex ((e0.trans e1).trans p2) hL b z
    · have hi' : i < ds.length := by omega
      rw [List.take_add_one, hd1]
      simp
  have fin : ∀ Dl H2, Cmq K L H1 (fun i => (ds.take i).map g) Dl xs.length H2 → Q (.ref Dl) H2 := fun Dl H2 p => by
    obtain ⟨p1, p2, p3⟩ := p
    refine q Dl H2 (Evl.fresh_back e1 p1) (e1.trans p2) ?_
    have e : (ds.take xs.length).map g = ds.map g := by rw [hlen, List.take_length]
    rw [← e]
    exact p3
  have hL1 : Hid L H1 := hid_ex (e0.trans e1) hL
  refine ⟨a, rfl, ?_⟩
  rcases hx with x1 | x1
  · refine .inl ⟨⟨xs, Evl.ex_l (e0.trans e1) x1⟩, fun Dl hD => ?_⟩
    exact lc_it (walk_list (xs := xs)) (Cmq K L H1 (fun i => (ds.take i).map g) Dl) (cmq_0 hL1 hD rfl) (fun i H2 _ p => Evl.ex_l ((e0.trans e1).trans p.2.1) x1) (fun i x H2 H3 hi p y => turn Dl i x H2 H3 hi p y) (fun H2 p => fin Dl H2 p)
  · refine .inr ⟨⟨xs, Evl.ex_t (e0.trans e1) x1⟩, fun Dl hD => ?_⟩
    exact lc_it (walk_tup (xs := xs)) (Cmq K L H1 (fun i => (ds.take i).map g) Dl) (cmq_0 hL1 hD rfl) (fun i H2 _ p => Evl.ex_t ((e0.trans e1).trans p.2.1) x1) (fun i x H2 H3 hi p y => turn Dl i x H2 H3 hi p y) (fun H2 p => fin Dl H2 p)
/-- tuple(a new list of data) -/
theorem evq_tupG (h : EvGq K L te σ H ds) (hL : Hid L H) : EvQ K L (tCB (fun xs H Q => ∃ p ys, xs = [.ref p] ∧ ((SqL K H p ys ∧ ∀ l, H l = none → Q (.ref l) (upd H l (.tup ys))) ∨ (SqT K H p ys ∧ Q (.ref p) H))) (tCons te tNil)) σ H (.tuple ds) := fun H1 e Q q =>
  h H1 e _ fun p H2 hp e2 g => by
    obtain ⟨n, ys, g1, g2⟩ := g
    refine ⟨p, ys, rfl, .inl ⟨SqL.of g1, fun r hr => ?_⟩⟩
    exact q (.ref r) _ (e2.trans (Ex.new hr)) (.tup (SqT.of (w_new (hid_ex (e.trans e2) hL) hr)) ((g2.up w_cons).up (w_ex (Ex.new hr))))
/-- tuple(x) of data that are a list or a tuple -/
theorem evq_tupD {x : V} (h : Evl.Ev te σ H x) (hd : Dq K (W L H) x (.list ds) ∨ Dq K (W L H) x (.tuple ds)) (hL : Hid L H) : EvQ K L (tCB (fun xs H Q => ∃ p ys, xs = [.ref p] ∧ ((SqL K H p ys ∧ ∀ l, H l = none → Q (.ref l) (upd H l (.tup ys))) ∨ (SqT K H p ys ∧ Q (.ref p) H))) (tCons te tNil)) σ H (.tuple ds) := fun H1 e Q q =>
  h H1 e _ fun H2 e2 => by
    rcases hd with hd | hd
    · cases hd with
      | @lst p ys _ hs ha =>
        refine ⟨p, ys, rfl, .inl ⟨Evl.ex_l (w_sub.trans (e.trans e2)) hs, fun r hr => ?_⟩⟩
        exact q (.ref r) _ (e2.trans (Ex.new hr)) (.tup (SqT.of (w_new (hid_ex (e.trans e2) hL) hr)) (ha.up (w_ex ((e.trans e2).trans (Ex.new hr)))))
    · have hd' := hd
      cases hd with
      | @tup p ys _ hs ha =>
        exact ⟨p, ys, rfl, .inr ⟨Evl.ex_t (w_sub.trans (e.trans e2)) hs, q (.ref p) H2 e2 (hd'.up (w_ex (e.trans e2)))⟩⟩
/-- list(x) of data that are a list or a tuple -/
theorem egq_list {x : V} (h : Evl.Ev te σ H x) (hd : Dq K (W L H) x (.list ds) ∨ Dq K (W L H) x (.tuple ds)) (hL : Hid L H) : EvGq K L (tCB (fun xs H Q => ∃ p ys, xs = [.ref p] ∧ (SqL K H p ys ∨ SqT K H p ys) ∧ ∀ l, H l = none → Q (.ref l) (upd H l (.lst ys))) (tCons te tNil)) σ H ds := fun H1 e Q q =>
  h H1 e _ fun H2 e2 => by
    rcases hd with hd | hd
    · cases hd with
      | @lst p ys _ hs ha =>
        refine ⟨p, ys, rfl, .inl (Evl.ex_l (w_sub.trans (e.trans e2)) hs), fun r hr => ?_⟩
        exact q r _ (Evl.fresh_back e2 hr) (e2.trans (Ex.new hr)) (gq_new (hid_ex (e.trans e2) hL) hr (ha.up (w_ex (e.trans e2))))
    · cases hd with
      | @tup p ys _ hs ha =>
        refine ⟨p, ys, rfl, .inr (Evl.ex_t (w_sub.trans (e.trans e2)) hs), fun r hr => ?_⟩
        exact q r _ (Evl.fresh_back e2 hr) (e2.trans (Ex.new hr)) (gq_new (hid_ex (e.trans e2) hL) hr (ha.up (w_ex (e.trans e2))))
end
end U

set_option Elab.async false
set_option linter.all false
set_option maxRecDepth 100000
set_option maxHeartbeats 4000000
/-! rules as data -/
namespace U
open PySem PySem.Spec PyProof.Rows L2
open Evl (Ex)
section
def sq (t : Bool) (ds : List PyData) : PyData := if t then .tuple ds else .list ds
end
section
def oD : Option Int → PyData
  | none => .none
  | some i => .int i
end
section
def oV : Option Int → V
  | none => .non
  | some i => .int i
end
section
theorem oD_inv {K : PySem.W.Frag} {H : Hp} {v : V} {o : Option Int} (h : Dp K H v (oD o)) : v = oV o := by
  cases o <;> (cases h; rfl)
end
section
def smallE (x : List Int) : Prop := ∀ e ∈ x, -(2 ^ 64) < e ∧ e < 2 ^ 64
end
section
def rgD (t : Bool) (p : Option Int × Option Int) : PyData := sq t [oD p.1, oD p.2]
end
section
inductive Rl where
  | half (ws : List Int) (b : Int)
  | box (rs : List (Option Int × Option Int))
  | rise (cs : List (List (Option Int)))
  | flat (ps : List (List Int))
  | turns (f : Bool) (cs : List Int)
  | no (r : Rl)
  | both (r s : Rl)
  | either (r s : Rl)
  | first (r : Rl)
  | second (r : Rl)
end
section
def Bits (n : Nat) (r : List Int) : Prop := ∀ x ∈ r, x.natAbs < 2 ^ n
end
section
variable {P : Program} {w : World} {K : PySem.W.Frag} {mg : Str → Option Value} {base : Heap}
theorem dpi_inv {H : Hp} {vs : List V} {ns : List Int} (h : DpAll K H vs (ns.map PyData.int)) : vs = ns.map V.int := by
  induction ns generalizing vs with
  | nil =>
    cases h
    rfl
  | cons n ns ih =>
    cases h with
    | cons r rr =>
      cases r
      rw [ih rr]
      rfl
end
section
def rlD (t : Bool) : Rl → PyData
  | .half ws b => sq t [.str "half", sq t (ws.map .int), .int b]
  | .box rs => sq t [.str "box", sq t (rs.map (rgD t))]
  | .rise cs => sq t [.str "rise", sq t (cs.map fun c => sq t (c.map oD))]
  | .flat ps => sq t [.str "flat", sq t (ps.map fun y => sq t (y.map .int))]
  | .turns f cs => sq t [.str "turns", .bool f, sq t (cs.map .int)]
  | .no r => sq t [.str "not", rlD t r]
  | .both r s => sq t [.str "both", rlD t r, rlD t s]
  | .either r s => sq t [.str "either", rlD t r, rlD t s]
  | .first r => sq t [.str "first", rlD t r]
  | .second r => sq t [.str "second", rlD t r]
end
section
def okR (d : Nat) : Rl → Prop
  | .half ws b => ws.length = d ∧ smallE ws
  | .box rs => rs.length = d
  | .rise cs => (∀ c ∈ cs, c.length = d) ∧ cs.length ≤ 1000
  | .flat ps => (∀ y ∈ ps, y.length = d) ∧ ps.length ≤ 3 ∧ ∀ y ∈ ps, Bits 59 y
  | .turns f cs => d = 1 ∧ cs.length ≤ 1000
  | .no r => okR d r
  | .both r s => okR d r ∧ okR d s
  | .either r s => okR d r ∧ okR d s
  | .first r => okR d r
  | .second r => okR d r
end
section
def depR : Rl → Nat
  | .no r => depR r + 1
  | .both r s => max (depR r) (depR s) + 1
  | .either r s => max (depR r) (depR s) + 1
  | .first r => depR r + 1
  | .second r => depR r + 1
  | _ => 0
end
structure TxR (mg : Str → Option Value) : Prop extends TxF mg
section
variable {K : PySem.W.Frag} {σ : L2.St} {H : Hp} {ta tb te : TE} {xs ys : List V}
theorem el_cat (h1 : Evl.EvL ta σ H xs) (h2 : Evl.EvL tb σ H ys) (hz : xs.length + ys.length ≤ 10000) : Evl.EvL (tOp rCat ta tb) σ H (xs ++ ys) := fun H1 e Q q => h1 H1 e _ fun p1 H2 hp e2 hx => h2 H2 (e.trans e2) _ fun p2 H3 hp2 e3 hy =>
  ⟨p1, p2, xs, ys, rfl, rfl, e3 _ _ hx, hy, Evl.sz_of (by omega), fun r hr => q r _ (Evl.fresh_back (e2.trans e3) hr) ((e2.trans e3).trans (Ex.new hr)) upd_same⟩
end
section
variable {K : PySem.W.Frag} {σ : L2.St} {H : Hp} {ta tb te : TE} {xs ys : List V}
theorem el_listT {a : Addr} (h : Evl.Ev te σ H (.ref a)) (hx : SqL K H a xs ∨ SqT K H a xs) : Evl.EvL (tCB (fun xs H Q => ∃ p ys, xs = [.ref p] ∧ (SqL K H p ys ∨ SqT K H p ys) ∧ ∀ l, H l = none → Q (.ref l) (upd H l (.lst ys))) (tCons te tNil)) σ H xs := fun H1 e Q q => h H1 e _ fun H2 e2 =>
  ⟨a, xs, rfl, hx.imp (Evl.ex_l (e.trans e2)) (Evl.ex_t (e.trans e2)), fun r hr => q r _ (Evl.fresh_back e2 hr) (e2.trans (Ex.new hr)) upd_same⟩
end
section
variable {K : PySem.W.Frag} {σ : L2.St} {H : Hp} {ta tb te : TE} {xs ys : List V}
theorem ev_int1 {b : Bool} (h : Evl.Ev te σ H (.bl b)) : Evl.Ev (tCB (fun xs H Q => (∃ i, xs = [.int i] ∧ Q (.int i) H) ∨ ∃ k, xs = [.bl k] ∧ Q (.int (if k then 1 else 0)) H) (tCons te tNil)) σ H (.int (if b then 1 else 0)) := fun H1 e Q q => h H1 e _ fun H2 e2 => .inr ⟨b, rfl, q H2 e2⟩
end
section
variable {P : Program} {w : World} {K : PySem.W.Frag} {mg : Str → Option Value} {base : Heap}
theorem ne_of_none' {H : Hp} {a b : Addr} (h : H a = none) (h2 : H b ≠ none) : a ≠ b := fun e => h2 (by rw [← e]; exact h)
end
section
variable {P : Program} {w : World} {K : PySem.W.Frag} {mg : Str → Option Value} {base : Heap}
theorem gr_in {K : PySem.W.Frag} {L : List Addr} {H : Hp} {l t : Addr} {o : HO} {ds : List PyData} (h : Gr K L H t ds) (m : l ∈ L) : Gr K L (upd H l o) t ds := by
  obtain ⟨n, xs, h1, h2⟩ := h
  refine ⟨n, xs, by rw [upd_ne (fun z => n (by rw [z]; exact m))]; exact h1, ?_⟩
  rw [w_upd_in (List.mem_cons_of_mem _ m)]
  exact h2
end
section
variable {P : Program} {w : World} {K : PySem.W.Frag} {mg : Str → Option Value} {base : Heap}
theorem draw_run {σ : L2.St} {H : Hp} {tm : TE} {l : Addr} {n : Nat} {many : Int} {Q : VK} (h0 : σ[0]? = some (some (.ref l))) (hd : Dr n H l) (hn : n < 1000000) (hm : Evl.Ev tm σ H (.int many)) (m0 : 0 < many) (m1 : many < 1073741824)
    (k : ∀ r H', 0 ≤ r → r < many → Dr (n + 1) H' l → ExB l H H' → Q (.int r) H') : tCallD spDraw (tCons (tVar 0) (tCons tm tNil)) σ H Q :=
  ⟨_, h0, hm H (Ex.refl H) _ fun H1 e1 => ⟨l, many, n, rfl, hd.ex e1, hn, m0, m1, fun r o r0 r1 hd' => k r _ r0 r1 hd' ((ExB.of e1).trans ExB.upd)⟩⟩
end
end U

set_option Elab.async false
set_option linter.all false
set_option maxRecDepth 100000
set_option maxHeartbeats 4000000
namespace U
open PySem PySem.Spec PyProof.Rows L2
open Evl (Ex)
abbrev s_plain : Stmt := top 26
abbrev sc_plain_N : List Str := ["_law_draws", "_law_places_here", "_law_word"]
theorem sc_plain : FnScope sc_plain_N ["_law_draws", "_law_places_here"] (defScope s_plain) := ⟨rfl, rfl, rfl, by decide +kernel, rfl, by decide +kernel, by decide +kernel⟩
abbrev s_part : Stmt := top 29
abbrev sc_part_N : List Str := ["_law_draws", "_law_places_here", "_law_word"]
theorem sc_part : FnScope sc_part_N ["_law_draws", "_law_places_here"] (defScope s_part) := ⟨rfl, rfl, rfl, by decide +kernel, rfl, by decide +kernel, by decide +kernel⟩
def spPlain (K : PySem.W.Frag) : Sp := fun vs H Q _ => ∃ (l : Addr) (p : Int) (n : Nat) (L : List Addr), vs = [.ref l, .int p] ∧ Dr n H l ∧ n < 900000 ∧ l ∈ L ∧ Hid L H ∧ 1 ≤ p ∧ p ≤ 3 ∧
  ∀ v k H', ExB l H H' → Dr (n + 2) H' l → okK p k → depK k = 0 → Dp K (W L H') v (kdD k) → Q v H'
section
variable {K : PySem.W.Frag} {σ : L2.St} {H : Hp} {ta tb te : TE} {xs ys : List V}
theorem el_rep {b : Bool} (h1 : Evl.EvL ta σ H xs) (h2 : Evl.Ev tb σ H (.int (if b then 1 else 0))) (hz : xs.length ≤ 1000) : Evl.EvL (tOp rRep ta tb) σ H (if b then xs else []) := fun H1 e Q q => h1 H1 e _ fun p1 H2 hp e2 hx => h2 H2 (e.trans e2) _ fun H3 e3 => by
  refine ⟨p1, _, xs, rfl, rfl, e3 _ _ hx, ?_, ?_, ?_, fun r hr => ?_⟩
  · cases b <;> decide
  · cases b <;> decide
  · cases b
    · exact Evl.sz_of (by show xs.length * 0 ≤ 100000; omega)
    · exact Evl.sz_of (by show xs.length * 1 ≤ 100000; omega)
  · refine q r _ (Evl.fresh_back (e2.trans e3) hr) ((e2.trans e3).trans (Ex.new hr)) ?_
    rw [upd_same]
    cases b
    · rfl
    · show some (HO.lst ([xs].flatten)) = _
      simp
end
section
variable {P : Program} {w : World} {K : PySem.W.Frag} {mg : Str → Option Value} {base : Heap}
def wsX (xs ys : List Str) (b : Bool) : List Str := xs ++ if b then ys else []
theorem wsX_map {xs ys : List Str} {b : Bool} : (wsX xs ys b).map V.str = xs.map V.str ++ if b then ys.map V.str else [] := by
  cases b <;> simp [wsX]
theorem dpa_strs {H : Hp} : ∀ ws : List Str, DpAll K H (ws.map V.str) (ws.map PyData.str)
  | [] => .nil
  | z :: ws => .cons (.str z) (dpa_strs ws)
theorem words_run {σ : L2.St} {H : Hp} {te : TE} {l : Addr} {n : Nat} {L : List Addr} {ws : List Str} {Q : VK} (h0 : σ[0]? = some (some (.ref l))) (hd : Dr n H l) (hn : n < 1000000) (hl : l ∈ L) (hL : Hid L H) (z0 : 0 < ws.length) (z1 : ws.length < 100) (hw : Evl.EvL te σ H (ws.map V.str))
    (k : ∀ z H', z ∈ ws → ExB l H H' → Dr (n + 1) H' l → Q (.str z) H') : tCallD (spPick K) (tCons (tVar 0) (tCons te tNil)) σ H Q :=
  ⟨_, h0, hw H (Ex.refl H) _ fun t H1 hn1 e1 ht => ⟨l, t, ws.map .str, n, L, rfl, hd.ex e1, hn, hl, .lst (SqL.of (w_of (hid_not hL hn1) ht)) (dpa_strs ws), by rw [List.length_map]; exact z0, by rw [List.length_map]; omega, fun v d o hm hv hd' => by
    obtain ⟨z, hz, rfl⟩ := List.mem_map.mp hm
    cases hv
    exact k z _ hz ((ExB.of e1).trans ExB.upd) hd'⟩⟩
theorem kind_ret {H : Hp} {l : Addr} {p : Int} {n : Nat} {L : List Addr} {z : Str} {Q : VK} {qn : L2.St → Hp → Prop} (hd : Dr n H l) (hn : n < 1000000) (hl : l ∈ L) (hL : Hid L H) (p1 : 1 ≤ p) (p3 : p ≤ 3) (hz : z = "halves" ∨ z = "boxes" ∨ z = "rising" ∨ z = "flats" ∨ z = "turns" ∧ p = 1)
    (k : ∀ v k H', ExB l H H' → Dr (n + 1) H' l → okK p k → depK k = 0 → Dp K (W L H') v (kdD k) → Q v H') :
    tRet (tIf (tTest (tOp rNe (tVar 2) (tC (V.str "turns")))) (tTup (tCons (tVar 2) (tCons (tVar 1) tNil))) (tTup (tCons (tVar 2) (tCons (tCallD spDraw (tCons (tVar 0) (tCons (tC (V.int 4)) tNil))) tNil))))
      { nx := qn, rt := Q } [some (.ref l), some (.int p), some (.str z)] H := by
  have two : ∀ (kd : Kd) (i : Int) (H2 : Hp), ExB l H H2 → Dr (n + 1) H2 l → okK p kd → depK kd = 0 → kdD kd = .tuple [.str z, .int i] → [V.str z, V.int i].length ≤ sizeLine ∧ ∀ r, H2 r = none → Q (.ref r) (upd H2 r (.tup [.str z, .int i])) := fun kd i H2 e2 hd2 ok dk e => by
    refine ⟨by show 2 ≤ sizeLine; decide, fun r hr => ?_⟩
    have hLr : r ∉ L := fun m => (e2.hid hd2.ne hL) r m hr
    refine k _ kd _ (e2.trans (ExB.of (Ex.new hr))) (hd2.ex (Ex.new hr)) ok dk ?_
    rw [e]
    exact .tup (SqT.of (w_of hLr upd_same)) (.cons (.str z) (.cons (.int i) .nil))
  refine ⟨_, rfl, rfl, _, rfl, ?_⟩
  rcases hz with h | h | h | h | ⟨h, hp⟩
  · subst h
    exact ⟨_, rfl, _, rfl, two (.halves p) p H (ExB.refl l H) (hd.up (by omega)) rfl rfl rfl⟩
  · subst h
    exact ⟨_, rfl, _, rfl, two (.boxes p) p H (ExB.refl l H) (hd.up (by omega)) rfl rfl rfl⟩
  · subst h
    exact ⟨_, rfl, _, rfl, two (.rising p) p H (ExB.refl l H) (hd.up (by omega)) rfl rfl rfl⟩
  · subst h
    exact ⟨_, rfl, _, rfl, two (.flats p) p H (ExB.refl l H) (hd.up (by omega)) rfl rfl rfl⟩
  · subst h
    refine ⟨_, rfl, ?_⟩
    refine draw_run (n := n) (many := 4) (by rfl) hd (by omega) Evl.ev_c (by decide) (by decide) fun r H3 r0 r1 hd3 e3 => ?_
    exact two (.turns r) r H3 e3 hd3 ⟨hp, r0, by omega⟩ rfl rfl
theorem ok_plain {f : Addr} {fd : FuncData} (F : Fun K "_law_plain" "_law_plain" s_plain f fd) (T : TxR mg) (D_draw : DefAt P w K mg base "_law_draw" 1 ["_law_draws", "_law_many"] spDraw) (D_pick : DefAt P w K mg base "_law_pick" 2 ["_law_draws", "_law_things"] (spPick K)) : FnOk P w K mg base CX0 3 f fd ["_law_draws", "_law_places_here"] (spPlain K) := by
  refine F.ok sc_plain (fun vs H Q E h => ?_) (fun cdv A outer s H vs Q E hr h => ?_)
  · obtain ⟨_, _, _, _, rfl, _⟩ := h
    rfl
  · obtain ⟨l, p, n, L, rfl, hd, hn, hl, hL, p1, p3, k⟩ := h
    refine ⟨_, (pss_cons (ps_set (i := 2) sc_plain.nd rfl (by first | exact Or.inl rfl | exact Or.inr rfl) (pe_callD D_pick (by first | exact hr | exact hr.mono (by decide) | exact hr.mono (by omega)) (by rfl) (pa_cons (pv 0) (pa_cons (pe_op op_cat (pe_lst (pa_cons pe_str (pa_cons pe_str (pa_cons pe_str (pa_cons pe_str pa_nil))))) (pe_op op_rep (pe_lst (pa_cons pe_str (pa_cons pe_str pa_nil))) (pe_callTy call_int1 (by rfl) T.m_int (by decide +kernel) (pa_cons (pe_cmpR op_eq (pv 1) pe_int (nomark _)) pa_nil)))) pa_nil))))
    (pss_one (ps_ret (pe_ifExp (pt_cmpR op_ne (pv 2) pe_str (nomark _)) (pe_tup (pa_cons (pv 2) (pa_cons (pv 1) pa_nil))) (pe_tup (pa_cons (pv 2) (pa_cons (pe_callD D_draw (by first | exact hr | exact hr.mono (by decide) | exact hr.mono (by omega)) (by rfl) (pa_cons (pv 0) (pa_cons pe_int pa_nil))) pa_nil))))))), ?_⟩
    have v1 : Evl.Ev (tVar 1) (L2.start sc_plain_N [V.ref l, V.int p]) H (.int p) := Evl.ev_var rfl
    have base : Evl.EvL _ (L2.start sc_plain_N [V.ref l, V.int p]) H _ := el_cat (Evl.el_lst (Evl.ea_cons (Evl.ev_c (v := .str "halves")) (Evl.ea_cons (Evl.ev_c (v := .str "boxes")) (Evl.ea_cons (Evl.ev_c (v := .str "rising")) (Evl.ea_cons (Evl.ev_c (v := .str "flats")) Evl.ea_nil)))) (by decide))
      (el_rep (b := decide (V.int p = V.int 1)) (Evl.el_lst (Evl.ea_cons (Evl.ev_c (v := .str "turns")) (Evl.ea_cons (Evl.ev_c (v := .str "turns")) Evl.ea_nil)) (by decide)) (ev_int1 (Evl.ev_op v1 (Evl.ev_c (v := .int 1)) (Evl.rv_eq rfl))) (by decide)) (by split <;> decide)
    refine words_run (L := L) (n := n) (ws := wsX ["halves", "boxes", "rising", "flats"] ["turns", "turns"] (decide (V.int p = V.int 1))) (by rfl) hd (by omega) hl hL (by generalize decide (V.int p = V.int 1) = b; cases b <;> decide) (by generalize decide (V.int p = V.int 1) = b; cases b <;> decide) (by rw [wsX_map]; exact base) fun z H1 hz e1 hd1 => ?_
    refine kind_ret (L := L) (n := n + 1) hd1 (by omega) hl (e1.hid hd1.ne hL) p1 p3 ?_ (fun v kd H2 e2 hd2 => k v kd H2 (e1.trans e2) hd2)
    by_cases hp : p = 1
    · subst hp
      have hz' : z ∈ (["halves", "boxes", "rising", "flats", "turns", "turns"] : List Str) := hz
      simp only [List.mem_cons, List.not_mem_nil, or_false] at hz'
      rcases hz' with h | h | h | h | h | h
      · exact .inl h
      · exact .inr (.inl h)
      · exact .inr (.inr (.inl h))
      · exact .inr (.inr (.inr (.inl h)))
      · exact .inr (.inr (.inr (.inr ⟨h, rfl⟩)))
      · exact .inr (.inr (.inr (.inr ⟨h, rfl⟩)))
    · rw [decide_eq_false (fun e => hp (by injection e))] at hz
      have hz' : z ∈ (["halves", "boxes", "rising", "flats"] : List Str) := hz
      simp only [List.mem_cons, List.not_mem_nil, or_false] at hz'
      rcases hz' with h | h | h | h
      · exact .inl h
      · exact .inr (.inl h)
      · exact .inr (.inr (.inl h))
      · exact .inr (.inr (.inr (.inl h)))
theorem ok_part {f : Addr} {fd : FuncData} (F : Fun K "_law_part" "_law_part" s_part f fd) (T : TxR mg) (D_draw : DefAt P w K mg base "_law_draw" 1 ["_law_draws", "_law_many"] spDraw) (D_pick : DefAt P w K mg base "_law_pick" 2 ["_law_draws", "_law_things"] (spPick K)) : FnOk P w K mg base CX0 3 f fd ["_law_draws", "_law_places_here"] (spPlain K) := by
  refine F.ok sc_part (fun vs H Q E h => ?_) (fun cdv A outer s H vs Q E hr h => ?_)
  · obtain ⟨_, _, _, _, rfl, _⟩ := h
    rfl
  · obtain ⟨l, p, n, L, rfl, hd, hn, hl, hL, p1, p3, k⟩ := h
    refine ⟨_, (pss_cons (ps_set (i := 2) sc_part.nd rfl (by first | exact Or.inl rfl | exact Or.inr rfl) (pe_callD D_pick (by first | exact hr | exact hr.mono (by decide) | exact hr.mono (by omega)) (by rfl) (pa_cons (pv 0) (pa_cons (pe_op op_cat (pe_lst (pa_cons pe_str (pa_cons pe_str (pa_cons pe_str (pa_cons pe_str pa_nil))))) (pe_op op_rep (pe_lst (pa_cons pe_str (pa_cons pe_str (pa_cons pe_str pa_nil)))) (pe_callTy call_int1 (by rfl) T.m_int (by decide +kernel) (pa_cons (pe_cmpR op_eq (pv 1) pe_int (nomark _)) pa_nil)))) pa_nil))))
    (pss_one (ps_ret (pe_ifExp (pt_cmpR op_ne (pv 2) pe_str (nomark _)) (pe_tup (pa_cons (pv 2) (pa_cons (pv 1) pa_nil))) (pe_tup (pa_cons (pv 2) (pa_cons (pe_callD D_draw (by first | exact hr | exact hr.mono (by decide) | exact hr.mono (by omega)) (by rfl) (pa_cons (pv 0) (pa_cons pe_int pa_nil))) pa_nil))))))), ?_⟩
    have v1 : Evl.Ev (tVar 1) (L2.start sc_part_N [V.ref l, V.int p]) H (.int p) := Evl.ev_var rfl
    have base : Evl.EvL _ (L2.start sc_part_N [V.ref l, V.int p]) H _ := el_cat (Evl.el_lst (Evl.ea_cons (Evl.ev_c (v := .str "boxes")) (Evl.ea_cons (Evl.ev_c (v := .str "rising")) (Evl.ea_cons (Evl.ev_c (v := .str "flats")) (Evl.ea_cons (Evl.ev_c (v := .str "boxes")) Evl.ea_nil)))) (by decide))
      (el_rep (b := decide (V.int p = V.int 1)) (Evl.el_lst (Evl.ea_cons (Evl.ev_c (v := .str "halves")) (Evl.ea_cons (Evl.ev_c (v := .str "turns")) (Evl.ea_cons (Evl.ev_c (v := .str "turns")) Evl.ea_nil))) (by decide)) (ev_int1 (Evl.ev_op v1 (Evl.ev_c (v := .int 1)) (Evl.rv_eq rfl))) (by decide)) (by split <;> decide)
    refine words_run (L := L) (n := n) (ws := wsX ["boxes", "rising", "flats", "boxes"] ["halves", "turns", "turns"] (decide (V.int p = V.int 1))) (by rfl) hd (by omega) hl hL (by generalize decide (V.int p = V.int 1) = b; cases b <;> decide) (by generalize decide (V.int p = V.int 1) = b; cases b <;> decide) (by rw [wsX_map]; exact base) fun z H1 hz e1 hd1 => ?_
    refine kind_ret (L := L) (n := n + 1) hd1 (by omega) hl (e1.hid hd1.ne hL) p1 p3 ?_ (fun v kd H2 e2 hd2 => k v kd H2 (e1.trans e2) hd2)
    have R : z = "boxes" → z = "halves" ∨ z = "boxes" ∨ z = "rising" ∨ z = "flats" ∨ z = "turns" ∧ p = 1 := fun h => .inr (.inl h)
    by_cases hp : p = 1
    · subst hp
      have hz' : z ∈ (["boxes", "rising", "flats", "boxes", "halves", "turns", "turns"] : List Str) := hz
      simp only [List.mem_cons, List.not_mem_nil, or_false] at hz'
      rcases hz' with h | h | h | h | h | h | h
      · exact R h
      · exact .inr (.inr (.inl h))
      · exact .inr (.inr (.inr (.inl h)))
      · exact R h
      · exact .inl h
      · exact .inr (.inr (.inr (.inr ⟨h, rfl⟩)))
      · exact .inr (.inr (.inr (.inr ⟨h, rfl⟩)))
    · rw [decide_eq_false (fun e => hp (by injection e))] at hz
      have hz' : z ∈ (["boxes", "rising", "flats", "boxes"] : List Str) := hz
      simp only [List.mem_cons, List.not_mem_nil, or_false] at hz'
      rcases hz' with h | h | h | h
      · exact R h
      · exact .inr (.inr (.inl h))
      · exact .inr (.inr (.inr (.inl h)))
      · exact R h
end
end U

set_option Elab.async false
set_option linter.all false
set_option maxRecDepth 100000
set_option maxHeartbeats 4000000
/-! t[::-1] of a pair. -/
namespace HT
open PySem PySem.Spec PyProof.Rows L2 PySem.W PySem.Calls
section
variable {prog : Program} {w : World} {A : Around} {E : Value → Shared → Prop} {s : Shared}
theorem sliceApplied_rev2 {sl : Addr} {vl vu vs : Value} {Q : Int × Int × Nat → Shared → Prop} (hs : s.heap.IsSliceOf sl vl vu vs) (pl : IsPart vl none) (pu : IsPart vu none) (ps : IsPart vs (some (-1)))
    (h : Q ((1 : Int), -1, 2) s) : wpAny (model prog w) A (Builtin.Slice.sliceApplied (.ref sl) (pure (2 : Int))) Q E s := by
  obtain ⟨os, hos, hcs, hds⟩ := id hs
  unfold Builtin.Slice.sliceApplied Builtin.Slice.sliceFields
  refine wpAny_bind (wpAny_bind (wpAny_field hos hds (x := vl) rfl (wpAny_bind (wpAny_field hos hds (x := vu) rfl (wpAny_bind (wpAny_field hos hds (x := vs) rfl (wpAny_pure ?_)))))))
  refine wpAny_bind (slicePart_ ps ?_)
  show wpAny _ _ (if ((-1 : Int) == 0) = true then _ else _) _ _ s
  rw [if_neg (by decide)]
  refine wpAny_bind (slicePart_ pl (wpAny_bind (slicePart_ pu (wpAny_bind (wpAny_pure ?_)))))
  exact wpAny_pure h
theorem getItem_tuple_rev2 {t sl : Addr} {a b : Value} {vl vu vs : Value} {Q : Value → Shared → Prop} (ht : IsTup s.heap t #[a, b]) (hs : s.heap.IsSliceOf sl vl vu vs) (pl : IsPart vl none) (pu : IsPart vu none) (ps : IsPart vs (some (-1)))
    (h : Q (.ref s.heap.objs.size) { s with heap := s.heap.push { cls := .type "tuple", data := .seq #[b, a] } }) : wpAny (model prog w) A (getItem (.ref t) (.ref sl)) Q E s := by
  obtain ⟨os, hos, hcs, hds⟩ := id hs
  have hTs : s.TypeIs (.ref sl) "slice" := ⟨os, hos, hcs⟩
  unfold getItem
  try with_reducible refine wpAny_holding ?_
  first | refine wpAny_bind (wpAny_pure ?_) | skip
  refine wpAny_bind (wpAny_sequenceKey ht.typeIs (by decide) ?_)
  refine wpAny_bind (wpAny_callSpecial?_slot (name := Str.ofString "__getitem__") ht.typeIs PyProof.Rows.slot_tuple_getitem
    (wpAny_call_entry PyProof.Rows.slot_tuple_getitem ht.typeIs entry_tuple_getitem ?_ (args_tuple_getitem _ _)))
  show wpAny _ _ (Builtin.Tuple.tupleItemsOf (.ref t) >>= _) _ _ s
  refine wpAny_bind (tupleItemsOf_ ht ?_)
  refine wpAny_bind (wpAny_typeOf hTs ?_)
  rw [if_pos (by decide)]
  refine wpAny_bind (sliceApplied_rev2 hs pl pu ps ?_)
  show wpAny _ _ (if ((1 : Int) == 0 && (-1 : Int) == 1 && (2 == 2)) = true then _ else _) _ _ s
  rw [if_neg (by decide)]
  have hz : sizeOk (.seq #[b, a]) := by show 2 ≤ sizeLine; decide
  first
    | exact wpAny_bind (m := Builtin.Tuple.tupleExact _) (wpAny_newObj_type (wpAny_pure ⟨_, rfl, wpAny_pure h⟩) hz)
    | exact wpAny_bind (m := Builtin.Tuple.tupleExact _) (wpAny_newObj_type (wpAny_bind (wpAny_pure (wpAny_pure ⟨_, rfl, wpAny_pure h⟩))) hz)
    | exact wpAny_bind (wpAny_bind (m := Builtin.Tuple.tupleExact _) (wpAny_newObj_type (wpAny_pure (wpAny_pure ⟨_, rfl, wpAny_pure h⟩)) hz))
end
end HT
namespace L2
open PySem PySem.Spec PyProof.Rows
/-- t[::-1], t a pair -/
def tRevT (K : PySem.W.Frag) (te : TE) : TE := fun σ H Q => te σ H fun x H1 => ∃ a u v, x = .ref a ∧ SqT K H1 a [u, v] ∧ ∀ p, H1 p = none → Q (.ref p) (upd H1 p (.tup [v, u]))
section
variable {X : Cx}
theorem pe_revT {e : Expr} {te : TE} {k : Nat} {p1 p2 p3 pos : Pos} (he : PE X e te) : PE X (.Subscript e (.Slice none none (some (.UnaryOp .USub (.Constant (.int 1) k p1) p2)) p3) pos) (tRevT X.K te) := by
  refine ⟨fun pins s σ H Q I h => ?_⟩
  refine Subscript_ (thn (he.run pins s σ H _ I h) fun v s1 ⟨x, H1, I1, r1, q1⟩ => ?_)
  obtain ⟨a, u1, u2, ex, hx, q⟩ := q1
  subst ex
  cases r1
  have hst : PO X (some (.UnaryOp .USub (.Constant (.int 1) k p1) p2)) (tPart (tUn (rU fun i => .int (-i)) (tC (.int 1)))) := po_some (pe_un un_neg pe_int)
  refine wpAny_Slice (thn (po_none.run pins s1 σ H1 (fun o H2 => o = none ∧ H2 = H1) I1 ⟨rfl, rfl⟩) fun vl s2 ⟨l, H2, I2, pl, el, e2⟩ => ?_)
  subst el e2
  refine thn (po_none.run pins s2 σ H2 (fun o H3 => o = none ∧ H3 = H2) I2 ⟨rfl, rfl⟩) fun vu s3 ⟨u, H3, I3, pu, eu, e3⟩ => ?_
  subst eu e3
  refine thn (hst.run pins s3 σ H3 (fun o H4 => o = some (-1) ∧ H4 = H3) I3 ⟨1, rfl, -1, rfl, rfl, rfl⟩) fun vs s4 ⟨o, H4, I4, ps, eo, e4⟩ => ?_
  subst eo e4
  have I5 : Inv X pins σ H4 { s4 with heap := s4.heap.push { cls := .type "slice", data := .fields #[vl, vu, vs] } } := I4.kept (t' := s4.toks) fun b ob q => Heap.get?_push_of_some _ q
  obtain ⟨its, r, ht, hz⟩ := I5.tuple hx
  obtain ⟨w1, w2, rfl, r1, r2⟩ : ∃ w1 w2, its = [w1, w2] ∧ RelV u1 w1 ∧ RelV u2 w2 := by
    cases r with
    | cons h1 r =>
      cases r with
      | cons h2 r =>
        cases r
        exact ⟨_, _, rfl, h1, h2⟩
  show wpAny (model X.prog X.w) X.A (subscriptTail e (.Slice none none (some (.UnaryOp .USub (.Constant (.int 1) k p1) p2)) p3) (.ref a) (.ref s4.heap.objs.size)) (EP X pins σ Q) X.xe { s4 with heap := s4.heap.push { cls := .type "slice", data := .fields #[vl, vu, vs] } }
  refine tail_any (ops := [.ref a, .ref s4.heap.objs.size]) ht.typeIs PyProof.Rows.slot_tuple_getitem.lookup ?_ (by with_unfolding_all rfl)
  refine HT.getItem_tuple_rev2 ht (Heap.IsSliceOf.new _ vl vu vs) pl pu ps ?_
  refine ⟨.ref _, _, I5.laid (t' := s4.toks) (o := .tup [u2, u1]) (fun b ob q => Heap.get?_push_of_some _ q) (Nat.le_refl _) ?_, rfl, q _ (I5.hok.fresh (Nat.le_refl _))⟩
  exact ⟨by show 2 ≤ sizeLine; decide, _, .cons r2 (.cons r1 .nil), IsTup.new _ _⟩
end
end L2

set_option Elab.async false
set_option linter.all false
set_option maxRecDepth 100000
set_option maxHeartbeats 4000000
namespace U
open PySem PySem.Spec PyProof.Rows L2
open Evl (Ex)
abbrev s_pair : Stmt := top 31
abbrev sc_pair_N : List Str := ["_law_draws", "_law_places_here", "_law_deep", "_law_pair_here"]
theorem sc_pair : FnScope sc_pair_N ["_law_draws", "_law_places_here", "_law_deep"] (defScope s_pair) := ⟨rfl, rfl, rfl, by decide +kernel, rfl, by decide +kernel, by decide +kernel⟩
abbrev s_joint : Stmt := top 30
abbrev sc_joint_N : List Str := ["_law_draws", "_law_places_here", "_law_deep", "_law_word"]
theorem sc_joint : FnScope sc_joint_N ["_law_draws", "_law_places_here", "_law_deep"] (defScope s_joint) := ⟨rfl, rfl, rfl, by decide +kernel, rfl, by decide +kernel, by decide +kernel⟩
abbrev s_spec : Stmt := top 27
abbrev sc_spec_N : List Str := ["_law_draws", "_law_places_here", "_law_deep", "_law_word"]
theorem sc_spec : FnScope sc_spec_N ["_law_draws", "_law_places_here", "_law_deep"] (defScope s_spec) := ⟨rfl, rfl, rfl, by decide +kernel, rfl, by decide +kernel, by decide +kernel⟩
/-- a kind, put together of up to d + 1 -/
def spJoint (K : PySem.W.Frag) (d : Nat) : Sp := fun vs H Q _ => ∃ (l : Addr) (p : Int) (n : Nat) (L : List Addr), vs = [.ref l, .int p, .int d] ∧ Dr n H l ∧ n + 20 * (d + 1) < 800000 ∧ l ∈ L ∧ Hid L H ∧ 1 ≤ p ∧ p ≤ 3 ∧
  ∀ v k H', ExB l H H' → Dr (n + 10 * (d + 1)) H' l → okK p k → depK k ≤ d → Dp K (W L H') v (kdD k) → Q v H'
def spJointP (K : PySem.W.Frag) : Nat → Sp
  | 0 => fun _ _ _ _ => False
  | d + 1 => spJoint K d
def spPair (K : PySem.W.Frag) : Nat → Sp
  | 0 => fun _ _ _ _ => False
  | d + 1 => fun vs H Q _ => ∃ (l : Addr) (p : Int) (n : Nat) (L : List Addr), vs = [.ref l, .int p, .int ((d + 1 : Nat) : Int)] ∧ Dr n H l ∧ n + 20 * (d + 1) + 10 < 800000 ∧ l ∈ L ∧ Hid L H ∧ 1 ≤ p ∧ p ≤ 3 ∧
  ∀ v k m H', ExB l H H' → Dr (n + 10 * (d + 1) + 5) H' l → okK p k → okK p m → depK k ≤ d → depK m ≤ d → Dp K (W L H') v (.tuple [kdD k, kdD m]) → Q v H'
section
variable {P : Program} {w : World} {K : PySem.W.Frag} {mg : Str → Option Value} {base : Heap}
theorem pair_body {f : Addr} {fd : FuncData} (F : Fun K "_law_pair" "_law_pair" s_pair f fd) (T : TxR mg) (d : Nat) (D_draw : DefAt P w K mg base "_law_draw" 1 ["_law_draws", "_law_many"] spDraw) (D_part : DefAt P w K mg base "_law_part" 3 ["_law_draws", "_law_places_here"] (spPlain K))
    (D_joint : DefAt P w K mg base "_law_joint" (2 * d + 4) ["_law_draws", "_law_places_here", "_law_deep"] (spJoint K d)) : FnOk P w K mg base CX0 (2 * d + 5) f fd ["_law_draws", "_law_places_here", "_law_deep"] (spPair K (d + 1)) := by
  refine F.ok sc_pair (fun vs H Q E h => ?_) (fun cdv A outer s H vs Q E hr h => ?_)
  · obtain ⟨_, _, _, _, rfl, _⟩ := h
    rfl
  · obtain ⟨l, p, n, L, rfl, hd, hn, hl, hL, p1, p3, k⟩ := h
    refine ⟨_, (pss_cons (ps_set (i := 3) sc_pair.nd rfl (by first | exact Or.inl rfl | exact Or.inr rfl) (pe_tup (pa_cons (pe_callD D_part (by first | exact hr | exact hr.mono (by decide) | exact hr.mono (by omega)) (by rfl) (pa_cons (pv 0) (pa_cons (pv 1) pa_nil))) (pa_cons (pe_callD D_joint (by first | exact hr | exact hr.mono (by decide) | exact hr.mono (by omega)) (by rfl) (pa_cons (pv 0) (pa_cons (pv 1) (pa_cons (pe_op op_sub (pv 2) pe_int) pa_nil)))) pa_nil))))
    (pss_one (ps_ret (pe_ix ix_list (pe_lst (pa_cons (pv 3) (pa_cons (pe_revT (pv 3)) pa_nil))) (pe_callD D_draw (by first | exact hr | exact hr.mono (by decide) | exact hr.mono (by omega)) (by rfl) (pa_cons (pv 0) (pa_cons pe_int pa_nil))) (fun _ _ => rfl))))), ?_⟩
    have ed : ((d + 1 : Nat) : Int) - 1 = (d : Int) := by omega
    refine ⟨_, rfl, _, rfl, l, p, n, L, rfl, hd, by omega, hl, hL, p1, p3, fun v1 k1 H1 e1 hd1 ok1 dk1 hv1 => ?_⟩
    refine ⟨_, rfl, _, rfl, _, rfl, _, _, rfl, rfl, l, p, n + 2, L, (by show [V.ref l, V.int p, V.int (((d + 1 : Nat) : Int) - 1)] = _; rw [ed]), hd1, by omega, hl, e1.hid hd1.ne hL, p1, p3, fun v2 k2 H2 e2 hd2 ok2 dk2 hv2 => ?_⟩
    have e12 := e1.trans e2
    have hL2 := e12.hid hd2.ne hL
    replace hv1 := hv1.up (e2.w hl)
    refine ⟨by show 2 ≤ sizeLine; decide, fun r hr => ?_⟩
    have rl : r ≠ l := ne_of_none' hr hd2.ne
    have hrL : r ∉ L := hid_not hL2 hr
    refine ⟨_, rfl, _, rfl, r, v1, v2, rfl, SqT.of upd_same, fun r2 hr2 => ⟨by show 2 ≤ sizeLine; decide, fun t ht => ?_⟩⟩
    have eA : Ex H2 (upd H2 r (.tup [v1, v2])) := Ex.new hr
    have hA : (upd H2 r (.tup [v1, v2])) r = some (.tup [v1, v2]) := upd_same
    generalize upd H2 r (.tup [v1, v2]) = Ha at eA hA hr2 ht ⊢
    have eB : Ex Ha (upd Ha r2 (.tup [v2, v1])) := Ex.new hr2
    have hB : (upd Ha r2 (.tup [v2, v1])) r2 = some (.tup [v2, v1]) := upd_same
    have r2l : r2 ≠ l := ne_of_none' hr2 (hd2.ex eA).ne
    have r2L : r2 ∉ L := hid_not ((e12.trans (ExB.of eA)).hid (hd2.ex eA).ne hL) hr2
    generalize upd Ha r2 (.tup [v2, v1]) = Hb at eB hB ht ⊢
    have eC : Ex Hb (upd Hb t (.lst [.ref r, .ref r2])) := Ex.new ht
    have hC : (upd Hb t (.lst [.ref r, .ref r2])) t = some (.lst [.ref r, .ref r2]) := upd_same
    have tl : t ≠ l := ne_of_none' ht ((hd2.ex eA).ex eB).ne
    generalize upd Hb t (.lst [.ref r, .ref r2]) = Hc at eC hC ⊢
    have eac := (eA.trans eB).trans eC
    refine draw_run (n := n + 2 + 10 * (d + 1)) (l := l) (many := 2) (by rfl) (hd2.ex eac) (by omega) Evl.ev_c (by decide) (by decide) fun i H3 r0 r1 hd3 e3 => ?_
    have e23 := (ExB.of eac).trans e3
    have e03 := e12.trans e23
    replace hv1 := hv1.up (e23.w hl)
    replace hv2 := hv2.up (e23.w hl)
    have h3r : SqT K (W L H3) r [v1, v2] := SqT.of (w_of hrL (e3 r _ rl (eC _ _ (eB _ _ hA))))
    have h3r2 : SqT K (W L H3) r2 [v2, v1] := SqT.of (w_of r2L (e3 r2 _ r2l (eC _ _ hB)))
    have hdk : depK k1 ≤ d := by omega
    rcases (by omega : i = 0 ∨ i = 1) with rfl | rfl
    · refine ⟨t, _, 0, .ref r, rfl, rfl, SqL.of (e3 t _ tl hC), rfl, ?_⟩
      exact k _ k1 k2 H3 e03 (hd3.up (by omega)) ok1 ok2 hdk dk2 (.tup h3r (.cons hv1 (.cons hv2 .nil)))
    · refine ⟨t, _, 1, .ref r2, rfl, rfl, SqL.of (e3 t _ tl hC), rfl, ?_⟩
      exact k _ k2 k1 H3 e03 (hd3.up (by omega)) ok2 ok1 dk2 hdk (.tup h3r2 (.cons hv2 (.cons hv1 .nil)))
def tJ (K : PySem.W.Frag) (d : Nat) : TS :=
  tSeq
    (tIfS (tOr (tTest (tOp rEq (tVar 2) (tC (V.int 0)))) (tTest (tOp rEq (tCallD spDraw (tCons (tVar 0) (tCons (tC (V.int 2)) tNil))) (tC (V.int 0)))))
      (tRet (tCallD (spPlain K) (tCons (tVar 0) (tCons (tVar 1) tNil)))) tNext)
    (tSeq (tAsg (tCallD (spPick K) (tCons (tVar 0) (tCons (tLst (tCons (tC (V.str "not")) (tCons (tC (V.str "both")) (tCons (tC (V.str "either")) (tCons (tC (V.str "any")) tNil))))) tNil))) (gName 3))
      (tSeq
        (tIfS (tTest (tOp rEq (tVar 3) (tC (V.str "not"))))
          (tRet (tTup (tCons (tVar 3) (tCons (tCallD (spJointP K d) (tCons (tVar 0) (tCons (tVar 1) (tCons (tOp (rI0 fun i j => V.int (i - j)) (tVar 2) (tC (V.int 1))) tNil)))) tNil)))) tNext)
        (tRet (tOp (rCatT K) (tTup (tCons (tVar 3) tNil)) (tCallD (spPair K d) (tCons (tVar 0) (tCons (tVar 1) (tCons (tVar 2) tNil))))))))
theorem joint_run {H : Hp} {l : Addr} {p : Int} {n d : Nat} {L : List Addr} {Q : VK} {qn : L2.St → Hp → Prop} (hd : Dr n H l) (hn : n + 20 * (d + 1) < 800000) (hl : l ∈ L) (hL : Hid L H) (p1 : 1 ≤ p) (p3 : p ≤ 3)
    (k : ∀ v k H', ExB l H H' → Dr (n + 10 * (d + 1)) H' l → okK p k → depK k ≤ d → Dp K (W L H') v (kdD k) → Q v H') :
    tJ K d { nx := qn, rt := Q } [some (.ref l), some (.int p), some (.int d), none] H := by
  have plain : ∀ (m : Nat) (H1 : Hp), ExB l H H1 → Dr m H1 l → m ≤ n + 1 → tRet (tCallD (spPlain K) (tCons (tVar 0) (tCons (tVar 1) tNil))) { nx := qn, rt := Q } [some (.ref l), some (.int p), some (.int d), none] H1 := fun m H1 e1 hd1 hm =>
    ⟨_, rfl, _, rfl, l, p, m, L, rfl, hd1, by omega, hl, e1.hid hd1.ne hL, p1, p3, fun v kd H2 e2 hd2 ok dk hv => k v kd H2 (e1.trans e2) (hd2.up (by omega)) ok (by omega) hv⟩
  refine ⟨_, rfl, rfl, _, rfl, ?_⟩
  refine ite2 (fun hc => ?_) (fun hc => ?_)
  · exact plain n H (ExB.refl l H) hd (by omega)
  obtain ⟨d, rfl⟩ : ∃ d', d = d' + 1 := by
    cases d with
    | zero => exact absurd (show decide (V.int ((0 : Nat) : Int) = V.int 0) = true from rfl) hc
    | succ d => exact ⟨d, rfl⟩
  have ed : ((d + 1 : Nat) : Int) - 1 = (d : Int) := by omega
  refine draw_run (n := n) (many := 2) (by rfl) hd (by omega) Evl.ev_c (by decide) (by decide) fun r H1 r0 r1 hd1 e1 => ?_
  refine ⟨rfl, _, rfl, ?_⟩
  refine ite2 (fun hc => ?_) (fun hc => ?_)
  · exact plain (n + 1) H1 e1 hd1 (by omega)
  have words : Evl.EvL (tLst (tCons (tC (V.str "not")) (tCons (tC (V.str "both")) (tCons (tC (V.str "either")) (tCons (tC (V.str "any")) tNil))))) [some (.ref l), some (.int p), some (.int ((d + 1 : Nat) : Int)), none] H1 ((["not", "both", "either", "any"] : List Str).map V.str) :=
    Evl.el_lst (Evl.ea_cons Evl.ev_c (Evl.ea_cons Evl.ev_c (Evl.ea_cons Evl.ev_c (Evl.ea_cons Evl.ev_c Evl.ea_nil)))) (by decide)
  refine words_run (L := L) (n := n + 1) (by rfl) hd1 (by omega) hl (e1.hid hd1.ne hL) (by decide) (by decide) words fun z H2 hz e2 hd2 => ?_
  have e02 := e1.trans e2
  have hL2 := e02.hid hd2.ne hL
  by_cases hnot : z = "not"
  · subst hnot
    refine ⟨_, rfl, rfl, _, rfl, ?_⟩
    refine ⟨_, rfl, _, rfl, _, rfl, _, rfl, _, _, rfl, rfl, l, p, n + 2, L, (by show [V.ref l, V.int p, V.int (((d + 1 : Nat) : Int) - 1)] = _; rw [ed]), hd2, by omega, hl, hL2, p1, p3, fun v kd H3 e3 hd3 ok dk hv => ?_⟩
    refine ⟨by show 2 ≤ sizeLine; decide, fun r hr => ?_⟩
    have e03 := e02.trans e3
    have rL : r ∉ L := hid_not (e03.hid hd3.ne hL) hr
    have e4 : ExB l H3 (upd H3 r (.tup [V.str "not", v])) := ExB.of (Ex.new hr)
    exact k _ (.no kd) _ (e03.trans e4) ((hd3.ex (Ex.new hr)).up (by omega)) ok (by show depK kd + 1 ≤ d + 1; omega) (.tup (SqT.of (w_of rL upd_same)) (.cons (.str _) (.cons (hv.up (e4.w hl)) .nil)))
  · refine ⟨_, rfl, rfl, _, rfl, ?_⟩
    refine ite2 (fun hc => absurd ?_ hnot) (fun hc => ?_)
    · have := of_decide_eq_true hc
      injection this
    refine ⟨_, rfl, by show 1 ≤ sizeLine; decide, fun r hr => ?_⟩
    have e3 : Ex H2 (upd H2 r (.tup [V.str z])) := Ex.new hr
    have hr3 : (upd H2 r (.tup [V.str z])) r = some (.tup [V.str z]) := upd_same
    have rl : r ≠ l := ne_of_none' hr hd2.ne
    generalize upd H2 r (.tup [V.str z]) = Ha at e3 hr3 ⊢
    have hdA := hd2.ex e3
    have e0A := e02.trans (ExB.of e3)
    refine ⟨_, rfl, _, rfl, _, rfl, l, p, n + 2, L, rfl, hdA, by omega, hl, e0A.hid hdA.ne hL, p1, p3, fun v k1 k2 H3 e4 hd4 ok1 ok2 dk1 dk2 hv => ?_⟩
    cases hv with
    | @tup q xs _ hs ha =>
      have hlen := dpa_len ha
      refine ⟨r, q, [.str z], xs, rfl, rfl, SqT.of (e4 r _ rl hr3), Evl.ex_t w_sub hs, by simp, ?_, fun e => ?_, fun _ t ht => ?_⟩
      · show 1 + xs.length ≤ sizeLine
        rw [hlen]
        show 3 ≤ sizeLine
        decide
      · rw [e] at hlen
        cases hlen
      · have e04 := e0A.trans e4
        have tL : t ∉ L := hid_not (e04.hid hd4.ne hL) ht
        have e5 : ExB l H3 (upd H3 t (.tup ([V.str z] ++ xs))) := ExB.of (Ex.new ht)
        have fin : ∀ kd : Kd, kdD kd = .tuple [.str z, kdD k1, kdD k2] → okK p kd → depK kd ≤ d + 1 → Q (.ref t) (upd H3 t (.tup ([V.str z] ++ xs))) := fun kd e ok dk => by
          refine k _ kd _ (e04.trans e5) ((hd4.ex (Ex.new ht)).up (by omega)) ok dk ?_
          rw [e]
          exact .tup (SqT.of (w_of tL upd_same)) (.cons (.str z) (ha.up (e5.w hl)))
        simp only [List.mem_cons, List.not_mem_nil, or_false] at hz
        rcases hz with h | h | h | h
        · exact absurd h hnot
        · subst h
          exact fin (.both k1 k2) rfl ⟨ok1, ok2⟩ (by show max (depK k1) (depK k2) + 1 ≤ d + 1; omega)
        · subst h
          exact fin (.either k1 k2) rfl ⟨ok1, ok2⟩ (by show max (depK k1) (depK k2) + 1 ≤ d + 1; omega)
        · subst h
          exact fin (.any k1 k2) rfl ⟨ok1, ok2⟩ (by show max (depK k1) (depK k2) + 1 ≤ d + 1; omega)
theorem joint_body {f : Addr} {fd : FuncData} (F : Fun K "_law_joint" "_law_joint" s_joint f fd) (T : TxR mg) (d : Nat) (D_draw : DefAt P w K mg base "_law_draw" 1 ["_law_draws", "_law_many"] spDraw) (D_pick : DefAt P w K mg base "_law_pick" 2 ["_law_draws", "_law_things"] (spPick K)) (D_part : DefAt P w K mg base "_law_part" 3 ["_law_draws", "_law_places_here"] (spPlain K))
    (D_joint : DefAt P w K mg base "_law_joint" (2 * d + 2) ["_law_draws", "_law_places_here", "_law_deep"] (spJointP K d)) (D_pair : DefAt P w K mg base "_law_pair" (2 * d + 3) ["_law_draws", "_law_places_here", "_law_deep"] (spPair K d)) : FnOk P w K mg base CX0 (2 * d + 4) f fd ["_law_draws", "_law_places_here", "_law_deep"] (spJoint K d) := by
  refine F.ok sc_joint (fun vs H Q E h => ?_) (fun cdv A outer s H vs Q E hr h => ?_)
  · obtain ⟨_, _, _, _, rfl, _⟩ := h
    rfl
  · obtain ⟨l, p, n, L, rfl, hd, hn, hl, hL, p1, p3, k⟩ := h
    refine ⟨_, (pss_cons (ps_if (PW.pt (pw_or (pt_cmpR op_eq (pv 2) pe_int (nomark _)) (pw_or1 (pt_cmpR op_eq (pe_callD D_draw (by first | exact hr | exact hr.mono (by decide) | exact hr.mono (by omega)) (by rfl) (pa_cons (pv 0) (pa_cons pe_int pa_nil))) pe_int (nomark _))))) (pss_one (ps_ret (pe_callD D_part (by first | exact hr | exact hr.mono (by decide) | exact hr.mono (by omega)) (by rfl) (pa_cons (pv 0) (pa_cons (pv 1) pa_nil))))) pss_nil)
    (pss_cons (ps_set (i := 3) sc_joint.nd rfl (by first | exact Or.inl rfl | exact Or.inr rfl) (pe_callD D_pick (by first | exact hr | exact hr.mono (by decide) | exact hr.mono (by omega)) (by rfl) (pa_cons (pv 0) (pa_cons (pe_lst (pa_cons pe_str (pa_cons pe_str (pa_cons pe_str (pa_cons pe_str pa_nil))))) pa_nil))))
    (pss_cons (ps_if (pt_cmpR op_eq (pv 3) pe_str (nomark _)) (pss_one (ps_ret (pe_tup (pa_cons (pv 3) (pa_cons (pe_callD D_joint (by first | exact hr | exact hr.mono (by decide) | exact hr.mono (by omega)) (by rfl) (pa_cons (pv 0) (pa_cons (pv 1) (pa_cons (pe_op op_sub (pv 2) pe_int) pa_nil)))) pa_nil))))) pss_nil)
    (pss_one (ps_ret (pe_op op_catT (pe_tup (pa_cons (pv 3) pa_nil)) (pe_callD D_pair (by first | exact hr | exact hr.mono (by decide) | exact hr.mono (by omega)) (by rfl) (pa_cons (pv 0) (pa_cons (pv 1) (pa_cons (pv 2) pa_nil)))))))))), ?_⟩
    exact joint_run hd hn hl hL p1 p3 k
theorem spec_body {f : Addr} {fd : FuncData} (F : Fun K "_law_spec" "_law_spec" s_spec f fd) (T : TxR mg) (d : Nat) (D_draw : DefAt P w K mg base "_law_draw" 1 ["_law_draws", "_law_many"] spDraw) (D_pick : DefAt P w K mg base "_law_pick" 2 ["_law_draws", "_law_things"] (spPick K)) (D_plain : DefAt P w K mg base "_law_plain" 3 ["_law_draws", "_law_places_here"] (spPlain K))
    (D_spec : DefAt P w K mg base "_law_spec" (2 * d + 2) ["_law_draws", "_law_places_here", "_law_deep"] (spJointP K d)) (D_pair : DefAt P w K mg base "_law_pair" (2 * d + 3) ["_law_draws", "_law_places_here", "_law_deep"] (spPair K d)) : FnOk P w K mg base CX0 (2 * d + 4) f fd ["_law_draws", "_law_places_here", "_law_deep"] (spJoint K d) := by
  refine F.ok sc_spec (fun vs H Q E h => ?_) (fun cdv A outer s H vs Q E hr h => ?_)
  · obtain ⟨_, _, _, _, rfl, _⟩ := h
    rfl
  · obtain ⟨l, p, n, L, rfl, hd, hn, hl, hL, p1, p3, k⟩ := h
    refine ⟨_, (pss_cons (ps_if (PW.pt (pw_or (pt_cmpR op_eq (pv 2) pe_int (nomark _)) (pw_or1 (pt_cmpR op_eq (pe_callD D_draw (by first | exact hr | exact hr.mono (by decide) | exact hr.mono (by omega)) (by rfl) (pa_cons (pv 0) (pa_cons pe_int pa_nil))) pe_int (nomark _))))) (pss_one (ps_ret (pe_callD D_plain (by first | exact hr | exact hr.mono (by decide) | exact hr.mono (by omega)) (by rfl) (pa_cons (pv 0) (pa_cons (pv 1) pa_nil))))) pss_nil)
    (pss_cons (ps_set (i := 3) sc_spec.nd rfl (by first | exact Or.inl rfl | exact Or.inr rfl) (pe_callD D_pick (by first | exact hr | exact hr.mono (by decide) | exact hr.mono (by omega)) (by rfl) (pa_cons (pv 0) (pa_cons (pe_lst (pa_cons pe_str (pa_cons pe_str (pa_cons pe_str (pa_cons pe_str pa_nil))))) pa_nil))))
    (pss_cons (ps_if (pt_cmpR op_eq (pv 3) pe_str (nomark _)) (pss_one (ps_ret (pe_tup (pa_cons (pv 3) (pa_cons (pe_callD D_spec (by first | exact hr | exact hr.mono (by decide) | exact hr.mono (by omega)) (by rfl) (pa_cons (pv 0) (pa_cons (pv 1) (pa_cons (pe_op op_sub (pv 2) pe_int) pa_nil)))) pa_nil))))) pss_nil)
    (pss_one (ps_ret (pe_op op_catT (pe_tup (pa_cons (pv 3) pa_nil)) (pe_callD D_pair (by first | exact hr | exact hr.mono (by decide) | exact hr.mono (by omega)) (by rfl) (pa_cons (pv 0) (pa_cons (pv 1) (pa_cons (pv 2) pa_nil)))))))))), ?_⟩
    exact joint_run hd hn hl hL p1 p3 k
end
end U

set_option Elab.async false
set_option linter.all false
set_option maxRecDepth 100000
set_option maxHeartbeats 2000000
/-! == and != by an own __eq__, against any value: at the library's level -/
namespace OQ
open PySem PySem.W PyProof.Rows
section
variable {prog : Program} {w : World} {A : Around} {E : Value → Shared → Prop} {s : Shared} {K : Frag} {x C L f : Addr} {h0 : Heap} {m : Str → Option Value} {ox : Obj} {od : Option Obj} {b tb : Value}
theorem chk_slot {id owner n : String} {rest : List Value} {Q : Unit → Shared → Prop} (hk : builtinKind id = some .slot) (hs : splitId id = some (owner, n)) (ha : argsOk id ⟨.ref x :: rest, []⟩)
    (X : K.In s.heap) (I : InstAt s.heap x ox C od) (hsub : subIn K (.ref C) (.type owner) = some true) (hq : Q () s) : wpAny (model prog w) A (checkBuiltinCall id ⟨.ref x :: rest, []⟩) Q E s := by
  simp only [checkBuiltinCall, hk, hs]
  refine wpAny_bind ?_
  unfold isInstance
  refine wpAny_bind (I.type.here ?_)
  refine (looks_subIn X hsub).here ?_
  rw [if_neg (show ¬ ((!true) = true) from Bool.false_ne_true)]
  cases hsig : Manifest.signature? id with
  | none => exact wpAny_pure hq
  | some sig =>
    simp only [argsOk, hsig] at ha
    have h2 : Bind.checkArgs id sig ⟨.ref x :: rest, []⟩ = pure () := ha
    show wpAny _ A (Bind.checkArgs id sig ⟨.ref x :: rest, []⟩) Q E s
    rw [h2]
    exact wpAny_pure hq
/-- a built-in slot that an own class inherits -/
theorem ifBound_blt {id : String} {name : Str} {args : List Value} {Q : Option Value → Shared → Prop} (X : K.In s.heap) (I : InstAt s.heap x ox C od) (hs : findIn K (.ref C) name = some (some (.builtin id))) (hb : ∀ self, bindSpecial (.builtin id) self = pure (.builtin id, [self]))
    (h : wpAny (model prog w) A (call (.builtin id) (.ref x :: args)) (fun v => Q (some v)) E s) : wpAny (model prog w) A (callSpecialIfBound? (.ref x) name args) Q E s := by
  simp only [callSpecialIfBound?, bindSpecialIfBound?]
  refine wpAny_holding (wpAny_bind (wpAny_bind (wpAny_bind (I.type.here ((looks_findIn X hs).here ?_)))))
  simp only [hb]
  have fin : wpAny (model prog w) A (call (.builtin id) ([.ref x] ++ args) >>= fun v => pure (some v)) Q E s := wpAny_bind (wpAny_mono h (fun v s' h' => wpAny_pure h') fun _ _ h' => h')
  refine wpAny_bind (wpAny_askSetting (wpAny_ite ?_))
  split
  · exact wpAny_bind (wpAny_pure (wpAny_pure fin))
  · exact wpAny_tryCatch (wpAny_bind (wpAny_pure (wpAny_pure fin)))
theorem objNe {Q : Fin → Shared → Prop} (hu : A.units < cLine) (X : K.In s.heap) (I : InstAt s.heap x ox C od) (he : findIn K (.ref C) "__eq__" = some (some (.ref f))) (hf : isFn K (.ref f) = true)
    (h : wpAny (model prog w) A (call (.ref f) [.ref x, b]) (fun v s' => ∃ r, v = .bool r ∧ Q (.done (.ret (.bool (!r)))) s') E s) : wpAny (model prog w) A (Builtin.«object.__ne__» ⟨[.ref x, b], []⟩) Q E s := by
  unfold Builtin.«object.__ne__»
  show wpAny _ A (cRoomFor "comparison" [.ref x, b] >>= _) _ _ s
  refine wpAny_bind (wpAny_cRoomFor hu ?_)
  refine wpAny_bind (m := callSpecialIfBound? (.ref x) (Str.ofString "__eq__") [b]) (ifBound_K X I he hf (wpAny_mono h (fun v s' q => ?_) fun _ _ e => e))
  obtain ⟨r, rfl, q⟩ := q
  show wpAny _ A (truthy (.bool r) >>= _) _ _ s'
  exact wpAny_bind (wpAny_truthy_bool (wpAny_pure q))
theorem ne_K {Q : Value → Shared → Prop} (hu : A.units + 1 < cLine) (FR : Fr h0 L s.heap m) (X0 : K.In h0) (I : InstAt s.heap x ox C od) (hb : Looks (model prog w) s.heap (typeOf b) tb) (hn : notFirst K C tb = true)
    (hne : findIn K (.ref C) "__ne__" = some (some (.builtin "object.__ne__"))) (hsub : subIn K (.ref C) (.type "object") = some true) (he : findIn K (.ref C) "__eq__" = some (some (.ref f))) (hf : isFn K (.ref f) = true)
    (h : wpAny (model prog w) A.in1 (call (.ref f) [.ref x, b]) (fun v s' => ∃ r, v = .bool r ∧ Q (.bool (!r)) s') E s) : wpAny (model prog w) A (richCompare .NotEq (.ref x) b) Q E s := by
  have X := X0.keeps FR.keep
  have hu0 : A.units < cLine := Nat.lt_of_succ_lt hu
  have one : wpAny (model prog w) A (tryCompare (.ref x) (cmpInfo .NotEq).2.1 b) (fun r s' => ∃ v, r = some v ∧ Q v s') E s := by
    unfold tryCompare
    refine wpAny_bind (ifBound_blt X I hne F.slot_zip_ne.bind ?_)
    refine wpAny_call (codeAny_call_builtin F.slot_zip_ne.plain F.cmpEntry_ne (chk_slot F.cmpKind_ne F.cmpSplit_ne (F.cmpArgs_ne _ _) X I hsub ?_))
    refine objNe (A := A.in1) hu X I he hf (wpAny_mono h (fun v s' q => ?_) fun _ _ e => e)
    obtain ⟨r, rfl, q⟩ := q
    exact ⟨r, rfl, wpAny_pure ⟨_, rfl, q⟩⟩
  unfold richCompare
  simp only [oneThing_ref]
  refine wpAny_holding (wpAny_bind (wpAny_cRoomFor hu0 ?_))
  refine wpAny_bind (I.type.here (wpAny_bind (hb.here ?_)))
  split
  · rename_i q
    have e : subIn K tb (.ref C) = some false := by
      rcases Bool.or_eq_true_iff.mp hn with e | e
      · rw [beq_iff_eq.mp e] at q; simp at q
      · exact beq_iff_eq.mp e
    refine wpAny_bind ((looks_subIn X e).here ?_)
    simp only [Bool.false_eq_true, if_false]
    refine wpAny_bind (wpAny_mono one (fun r s' z => ?_) fun _ _ e => e)
    obtain ⟨v, rfl, hq⟩ := z
    exact wpAny_pure hq
  · refine wpAny_bind (wpAny_pure ?_)
    simp only [Bool.false_eq_true, if_false]
    refine wpAny_bind (wpAny_mono one (fun r s' z => ?_) fun _ _ e => e)
    obtain ⟨v, rfl, hq⟩ := z
    exact wpAny_pure hq
end
end OQ

set_option Elab.async false
set_option linter.all false
set_option maxRecDepth 100000
set_option maxHeartbeats 2000000
/-! == and != of an instance by its own __eq__, against any value -/
namespace U
open PySem PySem.Spec PyProof.Rows L2
open Evl (Ex)
section
variable {X : Cx} {n : Nat} {sp : Sp} {C f : Addr} {fd : FuncData} {ps : List Str}
/-- a def called somewhere below the running body -/
theorem run_sub {A : Around} {pins : List (Addr × Obj)} {σ : L2.St} {H : Hp} {s : Shared} {Q : VK} {us : List Value} {vs : List V} (F : FnOk X.prog X.w X.K X.mg X.base CX0 n f fd ps sp) (sb : Sub X n A) (hb : Binds X.K fd ps []) (I : Inv X pins σ H s) (r : Vals vs us) (h : sp vs H Q E0) :
    wpAny (model X.prog X.w) A (call (.ref f) us) (EP X pins σ Q) X.xe s := by
  have e0 : Env0 X.prog X.w X.K X.mg X.base A X.stack s H := by
    have e := I.env0
    exact ⟨by rw [sb.fr]; exact e.frames, e.mod, e.bs, e.bsz, e.funs, e.frf, e.hok, e.bare⟩
  have hl := F.len _ _ _ _ h
  refine wpAny_call (codeAny_mono (F.run A X.stack s H ⟨us, []⟩ us vs _ E0 sb.room e0 (by
    have := hb s us I.kIn (by rw [List.append_nil, ← r.length]; exact hl)
    simpa using this) r h) fun r s' hq => ?_)
  cases r with
  | error e => exact pass0 pins σ H s e s' I hq
  | ok fl =>
    cases fl with
    | ret w => exact I.after hq
    | next => exact False.elim hq
    | brk => exact False.elim hq
    | cont => exact False.elim hq
/-- the own == of a class -/
structure EqC (K : PySem.W.Frag) (C f : Addr) : Prop where
  eq : PySem.W.findIn K (.ref C) "__eq__" = some (some (.ref f))
  fn : PySem.W.isFn K (.ref f) = true
  ne : PySem.W.findIn K (.ref C) "__ne__" = some (some (.builtin "object.__ne__"))
  ob : PySem.W.subIn K (.ref C) (.type "object") = some true
/-- x op y: x of C, y of any type that does not come first; the truth told, or its opposite -/
def rOwnQ (K : PySem.W.Frag) (C : Addr) (sp : Sp) (g : Bool → Bool) : R2 := fun x y H Q => ∃ a dx fs t, x = .ref a ∧ H a = some (.ins C dx fs) ∧ TyX K H y t ∧ PySem.W.notFirst K C t = true ∧ sp [.ref a, y] H (fun v H' => ∃ b, v = .bl b ∧ Q (.bl (g b)) H') E0
theorem op_eqOwn (F : FnOk X.prog X.w X.K X.mg X.base CX0 n f fd ps sp) (hr : Room n X.A) (e : EqC X.K C f) (hb : Binds X.K fd ps []) : OpR X (compareOp .Eq) (rOwnQ X.K C sp id) := by
  intro pins s σ H x y v u Q I rx ry hq
  obtain ⟨a, dx, fs, t, rfl, ha, ty, nf, hsp⟩ := hq
  cases rx
  obtain ⟨mA, J, _⟩ := ins_get I.hok ha
  obtain ⟨od, J, _⟩ := J.look
  obtain ⟨m, hF⟩ := I.fr
  obtain ⟨P, kit, hP, _⟩ := kit_of I ry ty
  show wpAny (model X.prog X.w) X.A (richCompare .Eq (.ref a) u) (EP X pins σ Q) X.xe s
  refine PySem.W.cmp_K (op := .Eq) hr.units0 hF I.ok.mod.kin J (kit.ty _ _ I.kIn hP) nf e.eq e.fn ?_
  refine wpAny_mono (run_fn F hr hb .nil pass0 I (show Vals [V.ref a, y] [Value.ref a, u] from .cons rfl (.cons ry .nil)) hsp) (fun r s' z => ?_) fun _ _ x => x
  obtain ⟨v, H', I', rv, b, rfl, q⟩ := z
  cases rv
  exact ⟨V.bl b, H', I', rfl, q⟩
theorem op_neOwn (F : FnOk X.prog X.w X.K X.mg X.base CX0 n f fd ps sp) (hr : Room (n + 1) X.A) (e : EqC X.K C f) (hb : Binds X.K fd ps []) : OpR X (compareOp .NotEq) (rOwnQ X.K C sp not) := by
  intro pins s σ H x y v u Q I rx ry hq
  obtain ⟨a, dx, fs, t, rfl, ha, ty, nf, hsp⟩ := hq
  cases rx
  obtain ⟨mA, J, _⟩ := ins_get I.hok ha
  obtain ⟨od, J, _⟩ := J.look
  obtain ⟨m, hF⟩ := I.fr
  obtain ⟨P, kit, hP, _⟩ := kit_of I ry ty
  show wpAny (model X.prog X.w) X.A (richCompare .NotEq (.ref a) u) (EP X pins σ Q) X.xe s
  refine OQ.ne_K (Nat.lt_of_le_of_lt (Nat.add_le_add_left (by decide : 1 ≤ 64) _) hr.units) hF I.ok.mod.kin J (kit.ty _ _ I.kIn hP) nf e.ne e.ob e.eq e.fn ?_
  have sb : Sub X n X.A.in1 := (show Sub X (n + 1) X.A from ⟨hr, rfl⟩).in1
  refine wpAny_mono (run_sub F sb hb I (show Vals [V.ref a, y] [Value.ref a, u] from .cons rfl (.cons ry .nil)) hsp) (fun r s' z => ?_) fun _ _ x => x
  obtain ⟨v, H', I', rv, b, rfl, q⟩ := z
  cases rv
  exact ⟨b, rfl, V.bl (!b), H', I', rfl, q⟩
end
section
variable {K : PySem.W.Frag} {C : Addr}
/-- a built-in type does not come first -/
theorem nf_ty {T : String} {l : List Value} (h : fastBuiltinMro T = some l) (h2 : l.contains (.ref C) = false) : PySem.W.notFirst K C (.type T) = true := by
  unfold PySem.W.notFirst
  have : PySem.W.subIn K (.type T) (.ref C) = some false := by
    show (fastBuiltinMro T).map (·.contains (.ref C)) = some false
    rw [h]
    exact congrArg some h2
  rw [this]
  simp
theorem nf_data (d : PyData) : PySem.W.notFirst K C (.type (tyOf d)) = true := by
  cases d with
  | none => exact nf_ty (T := "NoneType") (l := [.type "NoneType", .type "object"]) (by decide +kernel) (by simp)
  | bool _ => exact nf_ty (T := "bool") (l := [.type "bool", .type "int", .type "object"]) (by decide +kernel) (by simp)
  | int _ => exact nf_ty (T := "int") (l := [.type "int", .type "object"]) (by decide +kernel) (by simp)
  | str _ => exact nf_ty (T := "str") (l := [.type "str", .type "object"]) (by decide +kernel) (by simp)
  | list _ => exact nf_ty (T := "list") (l := [.type "list", .type "object"]) (by decide +kernel) (by simp)
  | tuple _ => exact nf_ty (T := "tuple") (l := [.type "tuple", .type "object"]) (by decide +kernel) (by simp)
  | dict _ => exact nf_ty (T := "dict") (l := [.type "dict", .type "object"]) (by decide +kernel) (by simp)
end
end U

set_option Elab.async false
set_option linter.all false
set_option maxRecDepth 100000
set_option maxHeartbeats 4000000
/-! == of kinds -/
namespace U
open PySem PySem.Spec PyProof.Rows L2
open Evl (Ex)
abbrev s_Halves_eq : Stmt := inClass (top 13) 11
abbrev sc_Halves_eq_N : List Str := ["self", "other"]
theorem sc_Halves_eq : FnScope sc_Halves_eq_N ["self", "other"] (defScope s_Halves_eq) := ⟨rfl, rfl, rfl, by decide +kernel, rfl, by decide +kernel, by decide +kernel⟩
abbrev s_Boxes_eq : Stmt := inClass (top 14) 11
abbrev sc_Boxes_eq_N : List Str := ["self", "other"]
theorem sc_Boxes_eq : FnScope sc_Boxes_eq_N ["self", "other"] (defScope s_Boxes_eq) := ⟨rfl, rfl, rfl, by decide +kernel, rfl, by decide +kernel, by decide +kernel⟩
abbrev s_Rising_eq : Stmt := inClass (top 15) 11
abbrev sc_Rising_eq_N : List Str := ["self", "other"]
theorem sc_Rising_eq : FnScope sc_Rising_eq_N ["self", "other"] (defScope s_Rising_eq) := ⟨rfl, rfl, rfl, by decide +kernel, rfl, by decide +kernel, by decide +kernel⟩
abbrev s_Flats_eq : Stmt := inClass (top 16) 11
abbrev sc_Flats_eq_N : List Str := ["self", "other"]
theorem sc_Flats_eq : FnScope sc_Flats_eq_N ["self", "other"] (defScope s_Flats_eq) := ⟨rfl, rfl, rfl, by decide +kernel, rfl, by decide +kernel, by decide +kernel⟩
abbrev s_Turns_eq : Stmt := inClass (top 17) 11
abbrev sc_Turns_eq_N : List Str := ["self", "other"]
theorem sc_Turns_eq : FnScope sc_Turns_eq_N ["self", "other"] (defScope s_Turns_eq) := ⟨rfl, rfl, rfl, by decide +kernel, rfl, by decide +kernel, by decide +kernel⟩
abbrev s_Contrary_eq : Stmt := inClass (top 18) 8
abbrev sc_Contrary_eq_N : List Str := ["self", "other"]
theorem sc_Contrary_eq : FnScope sc_Contrary_eq_N ["self", "other"] (defScope s_Contrary_eq) := ⟨rfl, rfl, rfl, by decide +kernel, rfl, by decide +kernel, by decide +kernel⟩
abbrev s_Pair_eq : Stmt := inClass (top 19) 8
abbrev sc_Pair_eq_N : List Str := ["self", "other"]
theorem sc_Pair_eq : FnScope sc_Pair_eq_N ["self", "other"] (defScope s_Pair_eq) := ⟨rfl, rfl, rfl, by decide +kernel, rfl, by decide +kernel, by decide +kernel⟩
/-- built-in types of data -/
def Bt (T : String) : Prop := T = "NoneType" ∨ T = "bool" ∨ T = "int" ∨ T = "str" ∨ T = "list" ∨ T = "tuple" ∨ T = "dict"
theorem bt_data (d : PyData) : Bt (tyOf d) := by
  cases d <;> simp [Bt, tyOf]
theorem bt_sub {K : PySem.W.Frag} {C : Addr} {T : String} (h : Bt T) : PySem.W.subIn K (.type T) (.ref C) = some false := by
  have go : ∀ (S : String) (l : List Value), fastBuiltinMro S = some l → l.contains (.ref C) = false → PySem.W.subIn K (.type S) (.ref C) = some false := fun S l e1 e2 => by
    show (fastBuiltinMro S).map (·.contains (.ref C)) = some false
    rw [e1]
    exact congrArg some e2
  rcases h with rfl | rfl | rfl | rfl | rfl | rfl | rfl
  · exact go "NoneType" [.type "NoneType", .type "object"] (by decide +kernel) (by simp)
  · exact go "bool" [.type "bool", .type "int", .type "object"] (by decide +kernel) (by simp)
  · exact go "int" [.type "int", .type "object"] (by decide +kernel) (by simp)
  · exact go "str" [.type "str", .type "object"] (by decide +kernel) (by simp)
  · exact go "list" [.type "list", .type "object"] (by decide +kernel) (by simp)
  · exact go "tuple" [.type "tuple", .type "object"] (by decide +kernel) (by simp)
  · exact go "dict" [.type "dict", .type "object"] (by decide +kernel) (by simp)
theorem bt_nf {K : PySem.W.Frag} {C : Addr} {T : String} (h : Bt T) : PySem.W.notFirst K C (.type T) = true := by
  unfold PySem.W.notFirst
  rw [bt_sub h]
  simp
/-- what the classes of kinds say, so that == asks rightly -/
structure KEq (K : PySem.W.Frag) (mg : Str → Option Value) (c : KC) : Prop where
  cl : ∀ i, Cls K (c i)
  ha : ∀ i, PySem.W.findIn K (.ref (c i)) "__class__" = some (some (.builtin "object.__class__"))
  hn : PySem.W.specialIn K (.builtin "object.__class__") "__get__" = some (some (.builtin "getset_descriptor.__get__"))
  ht : PySem.W.takesIn K (.builtin "object.__class__") = some true
  hm : ∀ i, PySem.W.mroIn K (c i) (.type "object") = some true
  ic : ∀ i, PySem.W.isClsIn K (c i) = true
  ty : ∀ i, PySem.W.typeIn K (.ref (c i)) = some (.type "type")
  ne : ∀ i, PySem.W.findIn K (.ref (c i)) "__ne__" = some (some (.builtin "object.__ne__"))
  self : ∀ i, PySem.W.subIn K (.ref (c i)) (.ref (c i)) = some true
  oth : ∀ i j, i ≠ j → PySem.W.subIn K (.ref (c j)) (.ref (c i)) = some false
  g_ha : mg "Halves" = some (.ref (c .ha))
  g_bo : mg "Boxes" = some (.ref (c .bo))
  g_ri : mg "Rising" = some (.ref (c .ri))
  g_fl : mg "Flats" = some (.ref (c .fl))
  g_tu : mg "Turns" = some (.ref (c .tu))
  g_co : mg "Contrary" = some (.ref (c .co))
  g_pa : mg "Pair" = some (.ref (c .pa))
section
variable {K : PySem.W.Frag} {mg : Str → Option Value} {c : KC}
theorem KEq.inj (S : KEq K mg c) {i j : KI} (h : i ≠ j) : c j ≠ c i := fun e => by
  have h1 := S.oth i j h
  rw [e, S.self i] at h1
  cases h1
theorem kit_cl (S : KEq K mg c) {t : Value} {i : KI} : PySem.W.kitCls K t (.ref (c i)) = PySem.W.subIn K t (.ref (c i)) := by
  have h1 : ((PySem.W.clsIn K (c i)).isSome && PySem.W.typeIn K (.ref (c i)) == some (.type "type")) = true := by
    rw [show (PySem.W.clsIn K (c i)).isSome = true from S.ic i, S.ty i]
    simp
  show (if ((PySem.W.clsIn K (c i)).isSome && PySem.W.typeIn K (.ref (c i)) == some (.type "type")) = true then PySem.W.subIn K t (.ref (c i)) else none) = _
  rw [if_pos h1]
theorem kit_kk (S : KEq K mg c) (i j : KI) : PySem.W.kitOne K (.ref (c j)) (.ref (c i)) = some (decide (j = i)) := by
  unfold PySem.W.kitOne
  by_cases e : j = i
  · subst e
    rw [if_pos (by simp), decide_eq_true rfl]
  · have n := S.inj (i := i) (j := j) fun z => e z.symm
    rw [if_neg (by simpa using n), kit_cl S, S.oth i j (fun z => e z.symm), decide_eq_false e]
theorem kit_kb (S : KEq K mg c) {T : String} (h : Bt T) (i : KI) : PySem.W.kitOne K (.type T) (.ref (c i)) = some false := by
  unfold PySem.W.kitOne
  rw [if_neg (by simp), kit_cl S, bt_sub h]
theorem ty_kin (S : KEq K mg c) {H : Hp} {k : Kd} {x : Addr} (h : Kin c H k x) : TyX K H (.ref x) (.ref (c (kiOf k))) := by
  obtain ⟨dx, fs, e, _⟩ := h.ins
  exact .base (.ins e (S.cl _) (S.ha _) S.hn S.ht (S.hm _))
theorem nf_kk (S : KEq K mg c) (i j : KI) : PySem.W.notFirst K (c i) (.ref (c j)) = true := by
  unfold PySem.W.notFirst
  by_cases e : j = i
  · subst e
    simp
  · rw [S.oth i j fun z => e z.symm]
    simp
/-- the other side of ==: a kind, or something of a built-in type -/
def Oth (K : PySem.W.Frag) (c : KC) (H : Hp) (v : V) : Option Kd → Prop
  | some m => ∃ y, v = .ref y ∧ Kin c H m y
  | none => ∃ T, Bt T ∧ TyX K H v (.type T)
def eqK (k : Kd) : Option Kd → Bool
  | some m => decide (k = m)
  | none => false
def ofI (i : KI) : Option Kd → Bool
  | some m => decide (kiOf m = i)
  | none => false
theorem tyx_ex {H H' : Hp} (e : Ex H H') {v : V} {t : Value} (h : TyX K H v t) : TyX K H' v t := by
  cases h with
  | base b =>
    cases b with
    | non => exact .base .non
    | bl y => exact .base (.bl y)
    | int i => exact .base (.int i)
    | str y => exact .base (.str y)
    | flt y => exact .base (.flt y)
    | lst ea => exact .base (.lst (e _ _ ea))
    | frz ea => exact .base (.frz (e _ _ ea))
    | tup ea => exact .base (.tup (e _ _ ea))
    | dK ea => exact .base (.dK (e _ _ ea))
    | dT ea => exact .base (.dT (e _ _ ea))
    | ins ea cl ha hn htk hm => exact .base (.ins (e _ _ ea) cl ha hn htk hm)
  | byt y => exact .byt y
  | set ea => exact .set (e _ _ ea)
  | kList e' c => exact .kList e' c
  | kTuple e' c => exact .kTuple e' c
  | kDict e' c => exact .kDict e' c
  | fTuple ea => exact .fTuple (e _ _ ea)
  | fDict ea => exact .fDict (e _ _ ea)
theorem Oth.up {H H' : Hp} (e : Ex H H') {v : V} : ∀ {o : Option Kd}, Oth K c H v o → Oth K c H' v o
  | some _, ⟨y, h1, h2⟩ => ⟨y, h1, h2.up e⟩
  | none, ⟨T, h1, h2⟩ => ⟨T, h1, tyx_ex e h2⟩
theorem Oth.ty (S : KEq K mg c) {H : Hp} {v : V} : ∀ {o : Option Kd}, Oth K c H v o → ∃ t, TyX K H v t ∧ (∀ i, PySem.W.notFirst K (c i) t = true) ∧ ∀ i, PySem.W.kitOne K t (.ref (c i)) = some (ofI i o)
  | some m, ⟨y, h1, h2⟩ => by
    subst h1
    exact ⟨_, ty_kin S h2, fun i => nf_kk S i _, fun i => kit_kk S i _⟩
  | none, ⟨T, h1, h2⟩ => ⟨_, h2, fun i => bt_nf h1, fun i => kit_kb S h1 i⟩
theorem oth_data {H : Hp} {v : V} {d : PyData} (h : Dq K H v d) : Oth K c H v none := ⟨_, bt_data d, dq_ty h⟩
theorem oth_lst {H : Hp} {p : Addr} {xs : List V} (h : H p = some (.lst xs)) : Oth K c H (.ref p) none := ⟨"list", by simp [Bt], .base (.lst h)⟩
theorem ev_ofI (S : KEq K mg c) {σ : L2.St} {H : Hp} {te : TE} {v : V} {o : Option Kd} {i : KI} (h : Evl.Ev te σ H v) (ho : Oth K c H v o) : Evl.Ev (tCB (rIsi K) (tCons te (tCons (tC (.ref (c i))) tNil))) σ H (.bl (ofI i o)) := fun H1 e1 Q q =>
  h H1 e1 _ fun H2 e2 => by
    obtain ⟨t, h1, _, h3⟩ := (ho.up (e1.trans e2)).ty S
    exact ⟨v, .ref (c i), t, _, _, rfl, .own _, h1, h3 i, q H2 e2⟩
def spKEq (K : PySem.W.Frag) (c : KC) (n : Nat) (i : KI) : Sp := fun vs H Q _ => ∃ x k v o, vs = [.ref x, v] ∧ Kin c H k x ∧ kiOf k = i ∧ depK k ≤ n ∧ Oth K c H v o ∧ ∀ H', Ex H H' → Q (.bl (eqK k o)) H'
/-- == of any kind that is no deeper -/
def EqM (P : Program) (w : World) (K : PySem.W.Frag) (mg : Str → Option Value) (base : Heap) (c : KC) (n : Nat) : Prop := ∀ i, ∃ (j : Nat) (f : Addr) (fd : FuncData), j ≤ n + 1 ∧ FnOk P w K mg base CX0 j f fd ["self", "other"] (spKEq K c n i) ∧ EqC K (c i) f ∧ Binds K fd ["self", "other"] []
def tKeq (K : PySem.W.Frag) (c : KC) (n : Nat) (g : Bool → Bool) (ta tb : TE) : TE := tAny (fun _ => True) fun i : KI => tOp (rOwnQ K (c i) (spKEq K c n i) g) ta tb
end
section
variable {X : Cx} {c : KC} {n j : Nat} {a b : Expr} {ta tb : TE} {pos : Pos}
theorem pe_keq (M : EqM X.prog X.w X.K X.mg X.base c n) (hr : Room j X.A) (hj : n + 1 ≤ j) (ha : PE X a ta) (hb : PE X b tb) : PE X (.Compare a [.Eq] [b] pos) (tKeq X.K c n id ta tb) := pe_any fun i _ => by
  obtain ⟨l, f, fd, hl, F, e, hB⟩ := M i
  exact pe_cmpR (op_eqOwn F (hr.mono (by omega)) e hB) ha hb (nomark _)
theorem pe_kne (M : EqM X.prog X.w X.K X.mg X.base c n) (hr : Room j X.A) (hj : n + 2 ≤ j) (ha : PE X a ta) (hb : PE X b tb) : PE X (.Compare a [.NotEq] [b] pos) (tKeq X.K c n not ta tb) := pe_any fun i _ => by
  obtain ⟨l, f, fd, hl, F, e, hB⟩ := M i
  exact pe_cmpR (op_neOwn F (hr.mono (by omega)) e hB) ha hb (nomark _)
end
section
variable {P : Program} {w : World} {K : PySem.W.Frag} {mg : Str → Option Value} {base : Heap} {c : KC}
theorem ev_keq (S : KEq K mg c) {g : Bool → Bool} {σ : L2.St} {H : Hp} {ta tb : TE} {x : Addr} {v : V} {k : Kd} {o : Option Kd} {n : Nat} (h : Evl.Ev ta σ H (.ref x)) (h2 : Evl.Ev tb σ H v) (hk : Kin c H k x) (hn : depK k ≤ n) (ho : Oth K c H v o) : Evl.Ev (tKeq K c n g ta tb) σ H (.bl (g (eqK k o))) := fun H1 e Q q => by
  refine ⟨kiOf k, trivial, h H1 e _ fun H2 e2 => h2 H2 (e.trans e2) _ fun H3 e3 => ?_⟩
  have eA := (e.trans e2).trans e3
  obtain ⟨dx, fs, hx, _⟩ := (hk.up eA).ins
  obtain ⟨t, h1, h4, _⟩ := (ho.up eA).ty S
  exact ⟨x, dx, fs, t, rfl, hx, h1, h4 _, x, k, v, o, rfl, hk.up eA, rfl, hn, ho.up eA, fun H4 e4 => ⟨_, rfl, q H4 ((e2.trans e3).trans e4)⟩⟩
theorem ok_Halves_eq {f : Addr} {fd : FuncData} (F : Fun K "__eq__" "Halves.__eq__" s_Halves_eq f fd) (T : TxK mg) (S : KCl K c) (N : KEq K mg c) (n : Nat) : FnOk P w K mg base CX0 1 f fd ["self", "other"] (spKEq K c n .ha) := by
  refine F.ok sc_Halves_eq (fun vs H Q E h => ?_) (fun cdv A outer s H vs Q E hr h => ?_)
  · obtain ⟨_, _, _, _, rfl, _⟩ := h
    rfl
  · obtain ⟨x, k, v, o, rfl, hk, hi, hn, ho, kk⟩ := h
    cases k with
    | halves p =>
      obtain ⟨dx, hx⟩ := hk
      refine ⟨_, (pss_one (ps_ret (pe_and (pe_callB call_isi (by rfl) T.m_isinstance (by decide +kernel) (pa_cons (pv 1) (pa_cons (pe_glob (v := .ref (c .ha)) (by rfl) N.g_ha rfl) pa_nil))) (pe_one (pe_cmpR op_eq (pe_fld (pv 0) rfl) (pe_fld (pv 1) rfl) (nomark _)))))), ?_⟩
      have v0 : ∀ H1, Evl.Ev (tVar 0) (start sc_Halves_eq_N [.ref x, v]) H1 (.ref x) := fun H1 => Evl.ev_var rfl
      have v1 : ∀ H1, Evl.Ev (tVar 1) (start sc_Halves_eq_N [.ref x, v]) H1 v := fun H1 => Evl.ev_var rfl
      refine Evl.s_ret (v := .bl (eqK (.halves p) o)) (Evl.ev_is (Evl.ev_andV (a := ofI .ha o) (b := eqK (.halves p) o) (ev_ofI N (v1 H) ho) fun z => ?_) (congrArg V.bl ?_)) kk
      · cases o with
        | none => cases z
        | some m =>
          obtain ⟨y, rfl, hy⟩ := ho
          cases m with
          | halves q =>
            obtain ⟨dy, hy⟩ := hy
            refine Evl.ev_is (Evl.ev_op (ev_fld (v0 H) hx (S.cl _) (S.na _ _ (by decide)) (v := .int p) rfl) (ev_fld (v1 H) hy (S.cl _) (S.na _ _ (by decide)) (v := .int q) rfl) (Evl.rv_eq rfl)) (congrArg V.bl ?_)
            by_cases e : p = q
            · subst e
              simp [eqK, eqV]
            · have e' : ¬ (Kd.halves p = Kd.halves q) := fun z => e (by injection z)
              simp [eqK, eqV, e]
          | _ => cases z
      · cases o with
        | none => rfl
        | some m => cases m <;> simp [ofI, eqK, kiOf]
    | _ => cases hi
theorem ok_Boxes_eq {f : Addr} {fd : FuncData} (F : Fun K "__eq__" "Boxes.__eq__" s_Boxes_eq f fd) (T : TxK mg) (S : KCl K c) (N : KEq K mg c) (n : Nat) : FnOk P w K mg base CX0 1 f fd ["self", "other"] (spKEq K c n .bo) := by
  refine F.ok sc_Boxes_eq (fun vs H Q E h => ?_) (fun cdv A outer s H vs Q E hr h => ?_)
  · obtain ⟨_, _, _, _, rfl, _⟩ := h
    rfl
  · obtain ⟨x, k, v, o, rfl, hk, hi, hn, ho, kk⟩ := h
    cases k with
    | boxes p =>
      obtain ⟨dx, hx⟩ := hk
      refine ⟨_, (pss_one (ps_ret (pe_and (pe_callB call_isi (by rfl) T.m_isinstance (by decide +kernel) (pa_cons (pv 1) (pa_cons (pe_glob (v := .ref (c .bo)) (by rfl) N.g_bo rfl) pa_nil))) (pe_one (pe_cmpR op_eq (pe_fld (pv 0) rfl) (pe_fld (pv 1) rfl) (nomark _)))))), ?_⟩
      have v0 : ∀ H1, Evl.Ev (tVar 0) (start sc_Boxes_eq_N [.ref x, v]) H1 (.ref x) := fun H1 => Evl.ev_var rfl
      have v1 : ∀ H1, Evl.Ev (tVar 1) (start sc_Boxes_eq_N [.ref x, v]) H1 v := fun H1 => Evl.ev_var rfl
      refine Evl.s_ret (v := .bl (eqK (.boxes p) o)) (Evl.ev_is (Evl.ev_andV (a := ofI .bo o) (b := eqK (.boxes p) o) (ev_ofI N (v1 H) ho) fun z => ?_) (congrArg V.bl ?_)) kk
      · cases o with
        | none => cases z
        | some m =>
          obtain ⟨y, rfl, hy⟩ := ho
          cases m with
          | boxes q =>
            obtain ⟨dy, hy⟩ := hy
            refine Evl.ev_is (Evl.ev_op (ev_fld (v0 H) hx (S.cl _) (S.na _ _ (by decide)) (v := .int p) rfl) (ev_fld (v1 H) hy (S.cl _) (S.na _ _ (by decide)) (v := .int q) rfl) (Evl.rv_eq rfl)) (congrArg V.bl ?_)
            by_cases e : p = q
            · subst e
              simp [eqK, eqV]
            · have e' : ¬ (Kd.boxes p = Kd.boxes q) := fun z => e (by injection z)
              simp [eqK, eqV, e]
          | _ => cases z
      · cases o with
        | none => rfl
        | some m => cases m <;> simp [ofI, eqK, kiOf]
    | _ => cases hi
theorem ok_Rising_eq {f : Addr} {fd : FuncData} (F : Fun K "__eq__" "Rising.__eq__" s_Rising_eq f fd) (T : TxK mg) (S : KCl K c) (N : KEq K mg c) (n : Nat) : FnOk P w K mg base CX0 1 f fd ["self", "other"] (spKEq K c n .ri) := by
  refine F.ok sc_Rising_eq (fun vs H Q E h => ?_) (fun cdv A outer s H vs Q E hr h => ?_)
  · obtain ⟨_, _, _, _, rfl, _⟩ := h
    rfl
  · obtain ⟨x, k, v, o, rfl, hk, hi, hn, ho, kk⟩ := h
    cases k with
    | rising p =>
      obtain ⟨dx, hx⟩ := hk
      refine ⟨_, (pss_one (ps_ret (pe_and (pe_callB call_isi (by rfl) T.m_isinstance (by decide +kernel) (pa_cons (pv 1) (pa_cons (pe_glob (v := .ref (c .ri)) (by rfl) N.g_ri rfl) pa_nil))) (pe_one (pe_cmpR op_eq (pe_fld (pv 0) rfl) (pe_fld (pv 1) rfl) (nomark _)))))), ?_⟩
      have v0 : ∀ H1, Evl.Ev (tVar 0) (start sc_Rising_eq_N [.ref x, v]) H1 (.ref x) := fun H1 => Evl.ev_var rfl
      have v1 : ∀ H1, Evl.Ev (tVar 1) (start sc_Rising_eq_N [.ref x, v]) H1 v := fun H1 => Evl.ev_var rfl
      refine Evl.s_ret (v := .bl (eqK (.rising p) o)) (Evl.ev_is (Evl.ev_andV (a := ofI .ri o) (b := eqK (.rising p) o) (ev_ofI N (v1 H) ho) fun z => ?_) (congrArg V.bl ?_)) kk
      · cases o with
        | none => cases z
        | some m =>
          obtain ⟨y, rfl, hy⟩ := ho
          cases m with
          | rising q =>
            obtain ⟨dy, hy⟩ := hy
            refine Evl.ev_is (Evl.ev_op (ev_fld (v0 H) hx (S.cl _) (S.na _ _ (by decide)) (v := .int p) rfl) (ev_fld (v1 H) hy (S.cl _) (S.na _ _ (by decide)) (v := .int q) rfl) (Evl.rv_eq rfl)) (congrArg V.bl ?_)
            by_cases e : p = q
            · subst e
              simp [eqK, eqV]
            · have e' : ¬ (Kd.rising p = Kd.rising q) := fun z => e (by injection z)
              simp [eqK, eqV, e]
          | _ => cases z
      · cases o with
        | none => rfl
        | some m => cases m <;> simp [ofI, eqK, kiOf]
    | _ => cases hi
theorem ok_Flats_eq {f : Addr} {fd : FuncData} (F : Fun K "__eq__" "Flats.__eq__" s_Flats_eq f fd) (T : TxK mg) (S : KCl K c) (N : KEq K mg c) (n : Nat) : FnOk P w K mg base CX0 1 f fd ["self", "other"] (spKEq K c n .fl) := by
  refine F.ok sc_Flats_eq (fun vs H Q E h => ?_) (fun cdv A outer s H vs Q E hr h => ?_)
  · obtain ⟨_, _, _, _, rfl, _⟩ := h
    rfl
  · obtain ⟨x, k, v, o, rfl, hk, hi, hn, ho, kk⟩ := h
    cases k with
    | flats p =>
      obtain ⟨dx, hx⟩ := hk
      refine ⟨_, (pss_one (ps_ret (pe_and (pe_callB call_isi (by rfl) T.m_isinstance (by decide +kernel) (pa_cons (pv 1) (pa_cons (pe_glob (v := .ref (c .fl)) (by rfl) N.g_fl rfl) pa_nil))) (pe_one (pe_cmpR op_eq (pe_fld (pv 0) rfl) (pe_fld (pv 1) rfl) (nomark _)))))), ?_⟩
      have v0 : ∀ H1, Evl.Ev (tVar 0) (start sc_Flats_eq_N [.ref x, v]) H1 (.ref x) := fun H1 => Evl.ev_var rfl
      have v1 : ∀ H1, Evl.Ev (tVar 1) (start sc_Flats_eq_N [.ref x, v]) H1 v := fun H1 => Evl.ev_var rfl
      refine Evl.s_ret (v := .bl (eqK (.flats p) o)) (Evl.ev_is (Evl.ev_andV (a := ofI .fl o) (b := eqK (.flats p) o) (ev_ofI N (v1 H) ho) fun z => ?_) (congrArg V.bl ?_)) kk
      · cases o with
        | none => cases z
        | some m =>
          obtain ⟨y, rfl, hy⟩ := ho
          cases m with
          | flats q =>
            obtain ⟨dy, hy⟩ := hy
            refine Evl.ev_is (Evl.ev_op (ev_fld (v0 H) hx (S.cl _) (S.na _ _ (by decide)) (v := .int p) rfl) (ev_fld (v1 H) hy (S.cl _) (S.na _ _ (by decide)) (v := .int q) rfl) (Evl.rv_eq rfl)) (congrArg V.bl ?_)
            by_cases e : p = q
            · subst e
              simp [eqK, eqV]
            · have e' : ¬ (Kd.flats p = Kd.flats q) := fun z => e (by injection z)
              simp [eqK, eqV, e]
          | _ => cases z
      · cases o with
        | none => rfl
        | some m => cases m <;> simp [ofI, eqK, kiOf]
    | _ => cases hi
theorem ok_Turns_eq {f : Addr} {fd : FuncData} (F : Fun K "__eq__" "Turns.__eq__" s_Turns_eq f fd) (T : TxK mg) (S : KCl K c) (N : KEq K mg c) (n : Nat) : FnOk P w K mg base CX0 1 f fd ["self", "other"] (spKEq K c n .tu) := by
  refine F.ok sc_Turns_eq (fun vs H Q E h => ?_) (fun cdv A outer s H vs Q E hr h => ?_)
  · obtain ⟨_, _, _, _, rfl, _⟩ := h
    rfl
  · obtain ⟨x, k, v, o, rfl, hk, hi, hn, ho, kk⟩ := h
    cases k with
    | turns p =>
      obtain ⟨dx, hx⟩ := hk
      refine ⟨_, (pss_one (ps_ret (pe_and (pe_callB call_isi (by rfl) T.m_isinstance (by decide +kernel) (pa_cons (pv 1) (pa_cons (pe_glob (v := .ref (c .tu)) (by rfl) N.g_tu rfl) pa_nil))) (pe_one (pe_cmpR op_eq (pe_fld (pv 0) rfl) (pe_fld (pv 1) rfl) (nomark _)))))), ?_⟩
      have v0 : ∀ H1, Evl.Ev (tVar 0) (start sc_Turns_eq_N [.ref x, v]) H1 (.ref x) := fun H1 => Evl.ev_var rfl
      have v1 : ∀ H1, Evl.Ev (tVar 1) (start sc_Turns_eq_N [.ref x, v]) H1 v := fun H1 => Evl.ev_var rfl
      refine Evl.s_ret (v := .bl (eqK (.turns p) o)) (Evl.ev_is (Evl.ev_andV (a := ofI .tu o) (b := eqK (.turns p) o) (ev_ofI N (v1 H) ho) fun z => ?_) (congrArg V.bl ?_)) kk
      · cases o with
        | none => cases z
        | some m =>
          obtain ⟨y, rfl, hy⟩ := ho
          cases m with
          | turns q =>
            obtain ⟨dy, hy⟩ := hy
            refine Evl.ev_is (Evl.ev_op (ev_fld (v0 H) hx (S.cl _) (S.na _ _ (by decide)) (v := .int p) rfl) (ev_fld (v1 H) hy (S.cl _) (S.na _ _ (by decide)) (v := .int q) rfl) (Evl.rv_eq rfl)) (congrArg V.bl ?_)
            by_cases e : p = q
            · subst e
              simp [eqK, eqV]
            · have e' : ¬ (Kd.turns p = Kd.turns q) := fun z => e (by injection z)
              simp [eqK, eqV, e]
          | _ => cases z
      · cases o with
        | none => rfl
        | some m => cases m <;> simp [ofI, eqK, kiOf]
    | _ => cases hi
theorem ok_Contrary_eq {f : Addr} {fd : FuncData} (F : Fun K "__eq__" "Contrary.__eq__" s_Contrary_eq f fd) (T : TxK mg) (S : KCl K c) (N : KEq K mg c) (n : Nat) (M : EqM P w K mg base c n) : FnOk P w K mg base CX0 (n + 2) f fd ["self", "other"] (spKEq K c (n + 1) .co) := by
  refine F.ok sc_Contrary_eq (fun vs H Q E h => ?_) (fun cdv A outer s H vs Q E hr h => ?_)
  · obtain ⟨_, _, _, _, rfl, _⟩ := h
    rfl
  · obtain ⟨x, k, v, o, rfl, hk, hi, hn, ho, kk⟩ := h
    cases k with
    | no k1 =>
      obtain ⟨dx, y, hx, hy⟩ := hk
      refine ⟨_, (pss_one (ps_ret (pe_and (pe_callB call_isi (by rfl) T.m_isinstance (by decide +kernel) (pa_cons (pv 1) (pa_cons (pe_glob (v := .ref (c .co)) (by rfl) N.g_co rfl) pa_nil))) (pe_one (pe_keq M hr (by omega) (pe_fld (pv 0) rfl) (pe_fld (pv 1) rfl)))))), ?_⟩
      have v0 : ∀ H1, Evl.Ev (tVar 0) (start sc_Contrary_eq_N [.ref x, v]) H1 (.ref x) := fun H1 => Evl.ev_var rfl
      have v1 : ∀ H1, Evl.Ev (tVar 1) (start sc_Contrary_eq_N [.ref x, v]) H1 v := fun H1 => Evl.ev_var rfl
      refine Evl.s_ret (v := .bl (eqK (.no k1) o)) (Evl.ev_is (Evl.ev_andV (a := ofI .co o) (b := eqK (.no k1) o) (ev_ofI N (v1 H) ho) fun z => ?_) (congrArg V.bl ?_)) kk
      · cases o with
        | none => cases z
        | some m =>
          obtain ⟨u, rfl, hu⟩ := ho
          cases m with
          | no m1 =>
            obtain ⟨du, y2, hu, hy2⟩ := hu
            refine Evl.ev_is (ev_keq (g := id) N (k := k1) (o := some m1) (ev_fld (v0 H) hx (S.cl _) (S.na _ _ (by decide)) (v := .ref y) rfl) (ev_fld (v1 H) hu (S.cl _) (S.na _ _ (by decide)) (v := .ref y2) rfl) hy (Nat.le_of_succ_le_succ hn) ⟨y2, rfl, hy2⟩) (congrArg V.bl ?_)
            simp [eqK]
          | _ => cases z
      · cases o with
        | none => rfl
        | some m => cases m <;> simp [ofI, eqK, kiOf]
    | _ => cases hi
theorem ok_Pair_eq {f : Addr} {fd : FuncData} (F : Fun K "__eq__" "Pair.__eq__" s_Pair_eq f fd) (T : TxK mg) (S : KCl K c) (N : KEq K mg c) (n : Nat) (M : EqM P w K mg base c n) : FnOk P w K mg base CX0 (n + 2) f fd ["self", "other"] (spKEq K c (n + 1) .pa) := by
  refine F.ok sc_Pair_eq (fun vs H Q E h => ?_) (fun cdv A outer s H vs Q E hr h => ?_)
  · obtain ⟨_, _, _, _, rfl, _⟩ := h
    rfl
  · obtain ⟨x, k, v, o, rfl, hk, hi, hn, ho, kk⟩ := h
    cases k with
    | both k1 k2 =>
      obtain ⟨dx, y1, y2, hx, hy1, hy2⟩ := hk
      have hn1 : depK k1 ≤ n := by
        have h1 : max (depK k1) (depK k2) + 1 ≤ n + 1 := hn
        have h2 := Nat.le_max_left (depK k1) (depK k2)
        omega
      have hn2 : depK k2 ≤ n := by
        have h1 : max (depK k1) (depK k2) + 1 ≤ n + 1 := hn
        have h2 := Nat.le_max_right (depK k1) (depK k2)
        omega
      refine ⟨_, (pss_one (ps_ret (pe_and (pe_callB call_isi (by rfl) T.m_isinstance (by decide +kernel) (pa_cons (pv 1) (pa_cons (pe_glob (v := .ref (c .pa)) (by rfl) N.g_pa rfl) pa_nil))) (pe_and (pe_cmpR op_eq (pe_fld (pv 0) rfl) (pe_fld (pv 1) rfl) (nomark _)) (pe_and (pe_keq M hr (by omega) (pe_fld (pv 0) rfl) (pe_fld (pv 1) rfl)) (pe_one (pe_keq M hr (by omega) (pe_fld (pv 0) rfl) (pe_fld (pv 1) rfl)))))))), ?_⟩
      have v0 : ∀ H1, Evl.Ev (tVar 0) (start sc_Pair_eq_N [.ref x, v]) H1 (.ref x) := fun H1 => Evl.ev_var rfl
      have v1 : ∀ H1, Evl.Ev (tVar 1) (start sc_Pair_eq_N [.ref x, v]) H1 v := fun H1 => Evl.ev_var rfl
      refine Evl.s_ret (v := .bl (eqK (.both k1 k2) o)) (Evl.ev_is (Evl.ev_andV (a := ofI .pa o) (b := eqK (.both k1 k2) o) (ev_ofI N (v1 H) ho) fun z => ?_) (congrArg V.bl ?_)) kk
      · cases o with
        | none => cases z
        | some m =>
          obtain ⟨u, rfl, hu⟩ := ho
          have go : ∀ (z : Str) (m1 m2 : Kd) (u1 u2 : Addr) (du : Addr), H u = some (.ins (c .pa) du [("places", .int (placesK m1)), ("word", .str z), ("one", .ref u1), ("other", .ref u2)]) → Kin c H m1 u1 → Kin c H m2 u2 → eqK (.both k1 k2) (some m) = (decide (("both" : Str) = z) && (decide (k1 = m1) && decide (k2 = m2))) →
              Evl.Ev (tAndV (tOp rEq (tFld K (tVar 0) "word") (tFld K (tVar 1) "word")) (tAndV (tKeq K c n id (tFld K (tVar 0) "one") (tFld K (tVar 1) "one")) (tKeq K c n id (tFld K (tVar 0) "other") (tFld K (tVar 1) "other")))) (start sc_Pair_eq_N [.ref x, .ref u]) H (.bl (eqK (.both k1 k2) (some m))) := fun z m1 m2 u1 u2 du hu h1 h2 e => by
            rw [e]
            refine Evl.ev_andV (Evl.ev_is (Evl.ev_op (ev_fld (v0 H) hx (S.cl _) (S.na _ _ (by decide)) (v := .str "both") rfl) (ev_fld (v1 H) hu (S.cl _) (S.na _ _ (by decide)) (v := .str z) rfl) (Evl.rv_eq rfl)) (congrArg V.bl ?_)) fun _ => Evl.ev_andV ?_ fun _ => ?_
            · by_cases e : ("both" : Str) = z
              · rw [← e]
                simp [eqV]
              · simp [eqV, e]
            · exact ev_keq (g := id) N (k := k1) (o := some m1) (ev_fld (v0 H) hx (S.cl _) (S.na _ _ (by decide)) (v := .ref y1) rfl) (ev_fld (v1 H) hu (S.cl _) (S.na _ _ (by decide)) (v := .ref u1) rfl) hy1 hn1 ⟨u1, rfl, h1⟩
            · exact ev_keq (g := id) N (k := k2) (o := some m2) (ev_fld (v0 H) hx (S.cl _) (S.na _ _ (by decide)) (v := .ref y2) rfl) (ev_fld (v1 H) hu (S.cl _) (S.na _ _ (by decide)) (v := .ref u2) rfl) hy2 hn2 ⟨u2, rfl, h2⟩
          cases m with
          | both m1 m2 =>
            obtain ⟨du, u1, u2, hu, h1, h2⟩ := hu
            exact go "both" m1 m2 u1 u2 du hu h1 h2 (by rw [decide_eq_true (rfl : ("both" : Str) = "both")]; simp [eqK, Bool.decide_and])
          | either m1 m2 =>
            obtain ⟨du, u1, u2, hu, h1, h2⟩ := hu
            exact go "either" m1 m2 u1 u2 du hu h1 h2 (by rw [decide_eq_false (show ¬ ("both" : Str) = "either" by decide)]; simp [eqK])
          | any m1 m2 =>
            obtain ⟨du, u1, u2, hu, h1, h2⟩ := hu
            exact go "any" m1 m2 u1 u2 du hu h1 h2 (by rw [decide_eq_false (show ¬ ("both" : Str) = "any" by decide)]; simp [eqK])
          | _ => cases z
      · cases o with
        | none => rfl
        | some m => cases m <;> simp [ofI, eqK, kiOf]
    | either k1 k2 =>
      obtain ⟨dx, y1, y2, hx, hy1, hy2⟩ := hk
      have hn1 : depK k1 ≤ n := by
        have h1 : max (depK k1) (depK k2) + 1 ≤ n + 1 := hn
        have h2 := Nat.le_max_left (depK k1) (depK k2)
        omega
      have hn2 : depK k2 ≤ n := by
        have h1 : max (depK k1) (depK k2) + 1 ≤ n + 1 := hn
        have h2 := Nat.le_max_right (depK k1) (depK k2)
        omega
      refine ⟨_, (pss_one (ps_ret (pe_and (pe_callB call_isi (by rfl) T.m_isinstance (by decide +kernel) (pa_cons (pv 1) (pa_cons (pe_glob (v := .ref (c .pa)) (by rfl) N.g_pa rfl) pa_nil))) (pe_and (pe_cmpR op_eq (pe_fld (pv 0) rfl) (pe_fld (pv 1) rfl) (nomark _)) (pe_and (pe_keq M hr (by omega) (pe_fld (pv 0) rfl) (pe_fld (pv 1) rfl)) (pe_one (pe_keq M hr (by omega) (pe_fld (pv 0) rfl) (pe_fld (pv 1) rfl)))))))), ?_⟩
      have v0 : ∀ H1, Evl.Ev (tVar 0) (start sc_Pair_eq_N [.ref x, v]) H1 (.ref x) := fun H1 => Evl.ev_var rfl
      have v1 : ∀ H1, Evl.Ev (tVar 1) (start sc_Pair_eq_N [.ref x, v]) H1 v := fun H1 => Evl.ev_var rfl
      refine Evl.s_ret (v := .bl (eqK (.either k1 k2) o)) (Evl.ev_is (Evl.ev_andV (a := ofI .pa o) (b := eqK (.either k1 k2) o) (ev_ofI N (v1 H) ho) fun z => ?_) (congrArg V.bl ?_)) kk
      · cases o with
        | none => cases z
        | some m =>
          obtain ⟨u, rfl, hu⟩ := ho
          have go : ∀ (z : Str) (m1 m2 : Kd) (u1 u2 : Addr) (du : Addr), H u = some (.ins (c .pa) du [("places", .int (placesK m1)), ("word", .str z), ("one", .ref u1), ("other", .ref u2)]) → Kin c H m1 u1 → Kin c H m2 u2 → eqK (.either k1 k2) (some m) = (decide (("either" : Str) = z) && (decide (k1 = m1) && decide (k2 = m2))) →
              Evl.Ev (tAndV (tOp rEq (tFld K (tVar 0) "word") (tFld K (tVar 1) "word")) (tAndV (tKeq K c n id (tFld K (tVar 0) "one") (tFld K (tVar 1) "one")) (tKeq K c n id (tFld K (tVar 0) "other") (tFld K (tVar 1) "other")))) (start sc_Pair_eq_N [.ref x, .ref u]) H (.bl (eqK (.either k1 k2) (some m))) := fun z m1 m2 u1 u2 du hu h1 h2 e => by
            rw [e]
            refine Evl.ev_andV (Evl.ev_is (Evl.ev_op (ev_fld (v0 H) hx (S.cl _) (S.na _ _ (by decide)) (v := .str "either") rfl) (ev_fld (v1 H) hu (S.cl _) (S.na _ _ (by decide)) (v := .str z) rfl) (Evl.rv_eq rfl)) (congrArg V.bl ?_)) fun _ => Evl.ev_andV ?_ fun _ => ?_
            · by_cases e : ("either" : Str) = z
              · rw [← e]
                simp [eqV]
              · simp [eqV, e]
            · exact ev_keq (g := id) N (k := k1) (o := some m1) (ev_fld (v0 H) hx (S.cl _) (S.na _ _ (by decide)) (v := .ref y1) rfl) (ev_fld (v1 H) hu (S.cl _) (S.na _ _ (by decide)) (v := .ref u1) rfl) hy1 hn1 ⟨u1, rfl, h1⟩
            · exact ev_keq (g := id) N (k := k2) (o := some m2) (ev_fld (v0 H) hx (S.cl _) (S.na _ _ (by decide)) (v := .ref y2) rfl) (ev_fld (v1 H) hu (S.cl _) (S.na _ _ (by decide)) (v := .ref u2) rfl) hy2 hn2 ⟨u2, rfl, h2⟩
          cases m with
          | both m1 m2 =>
            obtain ⟨du, u1, u2, hu, h1, h2⟩ := hu
            exact go "both" m1 m2 u1 u2 du hu h1 h2 (by rw [decide_eq_false (show ¬ ("either" : Str) = "both" by decide)]; simp [eqK])
          | either m1 m2 =>
            obtain ⟨du, u1, u2, hu, h1, h2⟩ := hu
            exact go "either" m1 m2 u1 u2 du hu h1 h2 (by rw [decide_eq_true (rfl : ("either" : Str) = "either")]; simp [eqK, Bool.decide_and])
          | any m1 m2 =>
            obtain ⟨du, u1, u2, hu, h1, h2⟩ := hu
            exact go "any" m1 m2 u1 u2 du hu h1 h2 (by rw [decide_eq_false (show ¬ ("either" : Str) = "any" by decide)]; simp [eqK])
          | _ => cases z
      · cases o with
        | none => rfl
        | some m => cases m <;> simp [ofI, eqK, kiOf]
    | any k1 k2 =>
      obtain ⟨dx, y1, y2, hx, hy1, hy2⟩ := hk
      have hn1 : depK k1 ≤ n := by
        have h1 : max (depK k1) (depK k2) + 1 ≤ n + 1 := hn
        have h2 := Nat.le_max_left (depK k1) (depK k2)
        omega
      have hn2 : depK k2 ≤ n := by
        have h1 : max (depK k1) (depK k2) + 1 ≤ n + 1 := hn
        have h2 := Nat.le_max_right (depK k1) (depK k2)
        omega
      refine ⟨_, (pss_one (ps_ret (pe_and (pe_callB call_isi (by rfl) T.m_isinstance (by decide +kernel) (pa_cons (pv 1) (pa_cons (pe_glob (v := .ref (c .pa)) (by rfl) N.g_pa rfl) pa_nil))) (pe_and (pe_cmpR op_eq (pe_fld (pv 0) rfl) (pe_fld (pv 1) rfl) (nomark _)) (pe_and (pe_keq M hr (by omega) (pe_fld (pv 0) rfl) (pe_fld (pv 1) rfl)) (pe_one (pe_keq M hr (by omega) (pe_fld (pv 0) rfl) (pe_fld (pv 1) rfl)))))))), ?_⟩
      have v0 : ∀ H1, Evl.Ev (tVar 0) (start sc_Pair_eq_N [.ref x, v]) H1 (.ref x) := fun H1 => Evl.ev_var rfl
      have v1 : ∀ H1, Evl.Ev (tVar 1) (start sc_Pair_eq_N [.ref x, v]) H1 v := fun H1 => Evl.ev_var rfl
      refine Evl.s_ret (v := .bl (eqK (.any k1 k2) o)) (Evl.ev_is (Evl.ev_andV (a := ofI .pa o) (b := eqK (.any k1 k2) o) (ev_ofI N (v1 H) ho) fun z => ?_) (congrArg V.bl ?_)) kk
      · cases o with
        | none => cases z
        | some m =>
          obtain ⟨u, rfl, hu⟩ := ho
          have go : ∀ (z : Str) (m1 m2 : Kd) (u1 u2 : Addr) (du : Addr), H u = some (.ins (c .pa) du [("places", .int (placesK m1)), ("word", .str z), ("one", .ref u1), ("other", .ref u2)]) → Kin c H m1 u1 → Kin c H m2 u2 → eqK (.any k1 k2) (some m) = (decide (("any" : Str) = z) && (decide (k1 = m1) && decide (k2 = m2))) →
              Evl.Ev (tAndV (tOp rEq (tFld K (tVar 0) "word") (tFld K (tVar 1) "word")) (tAndV (tKeq K c n id (tFld K (tVar 0) "one") (tFld K (tVar 1) "one")) (tKeq K c n id (tFld K (tVar 0) "other") (tFld K (tVar 1) "other")))) (start sc_Pair_eq_N [.ref x, .ref u]) H (.bl (eqK (.any k1 k2) (some m))) := fun z m1 m2 u1 u2 du hu h1 h2 e => by
            rw [e]
            refine Evl.ev_andV (Evl.ev_is (Evl.ev_op (ev_fld (v0 H) hx (S.cl _) (S.na _ _ (by decide)) (v := .str "any") rfl) (ev_fld (v1 H) hu (S.cl _) (S.na _ _ (by decide)) (v := .str z) rfl) (Evl.rv_eq rfl)) (congrArg V.bl ?_)) fun _ => Evl.ev_andV ?_ fun _ => ?_
            · by_cases e : ("any" : Str) = z
              · rw [← e]
                simp [eqV]
              · simp [eqV, e]
            · exact ev_keq (g := id) N (k := k1) (o := some m1) (ev_fld (v0 H) hx (S.cl _) (S.na _ _ (by decide)) (v := .ref y1) rfl) (ev_fld (v1 H) hu (S.cl _) (S.na _ _ (by decide)) (v := .ref u1) rfl) hy1 hn1 ⟨u1, rfl, h1⟩
            · exact ev_keq (g := id) N (k := k2) (o := some m2) (ev_fld (v0 H) hx (S.cl _) (S.na _ _ (by decide)) (v := .ref y2) rfl) (ev_fld (v1 H) hu (S.cl _) (S.na _ _ (by decide)) (v := .ref u2) rfl) hy2 hn2 ⟨u2, rfl, h2⟩
          cases m with
          | both m1 m2 =>
            obtain ⟨du, u1, u2, hu, h1, h2⟩ := hu
            exact go "both" m1 m2 u1 u2 du hu h1 h2 (by rw [decide_eq_false (show ¬ ("any" : Str) = "both" by decide)]; simp [eqK])
          | either m1 m2 =>
            obtain ⟨du, u1, u2, hu, h1, h2⟩ := hu
            exact go "either" m1 m2 u1 u2 du hu h1 h2 (by rw [decide_eq_false (show ¬ ("any" : Str) = "either" by decide)]; simp [eqK])
          | any m1 m2 =>
            obtain ⟨du, u1, u2, hu, h1, h2⟩ := hu
            exact go "any" m1 m2 u1 u2 du hu h1 h2 (by rw [decide_eq_true (rfl : ("any" : Str) = "any")]; simp [eqK, Bool.decide_and])
          | _ => cases z
      · cases o with
        | none => rfl
        | some m => cases m <;> simp [ofI, eqK, kiOf]
    | _ => cases hi
theorem ok_Contrary_eq0 {f : Addr} {fd : FuncData} (F : Fun K "__eq__" "Contrary.__eq__" s_Contrary_eq f fd) : FnOk P w K mg base CX0 1 f fd ["self", "other"] (spKEq K c 0 .co) := by
  refine F.ok sc_Contrary_eq (fun vs H Q E h => ?_) (fun cdv A outer s H vs Q E hr h => ?_)
  · obtain ⟨_, _, _, _, rfl, _⟩ := h
    rfl
  · obtain ⟨x, k, v, o, rfl, hk, hi, hn, _⟩ := h
    cases k <;> first | exact absurd hn (Nat.not_succ_le_zero _) | cases hi
theorem ok_Pair_eq0 {f : Addr} {fd : FuncData} (F : Fun K "__eq__" "Pair.__eq__" s_Pair_eq f fd) : FnOk P w K mg base CX0 1 f fd ["self", "other"] (spKEq K c 0 .pa) := by
  refine F.ok sc_Pair_eq (fun vs H Q E h => ?_) (fun cdv A outer s H vs Q E hr h => ?_)
  · obtain ⟨_, _, _, _, rfl, _⟩ := h
    rfl
  · obtain ⟨x, k, v, o, rfl, hk, hi, hn, _⟩ := h
    cases k <;> first | exact absurd hn (Nat.not_succ_le_zero _) | cases hi
structure EqFs (K : PySem.W.Frag) (c : KC) : Prop where
  ha : ∃ f fd, Fun K "__eq__" "Halves.__eq__" s_Halves_eq f fd ∧ EqC K (c .ha) f ∧ Binds K fd ["self", "other"] []
  bo : ∃ f fd, Fun K "__eq__" "Boxes.__eq__" s_Boxes_eq f fd ∧ EqC K (c .bo) f ∧ Binds K fd ["self", "other"] []
  ri : ∃ f fd, Fun K "__eq__" "Rising.__eq__" s_Rising_eq f fd ∧ EqC K (c .ri) f ∧ Binds K fd ["self", "other"] []
  fl : ∃ f fd, Fun K "__eq__" "Flats.__eq__" s_Flats_eq f fd ∧ EqC K (c .fl) f ∧ Binds K fd ["self", "other"] []
  tu : ∃ f fd, Fun K "__eq__" "Turns.__eq__" s_Turns_eq f fd ∧ EqC K (c .tu) f ∧ Binds K fd ["self", "other"] []
  co : ∃ f fd, Fun K "__eq__" "Contrary.__eq__" s_Contrary_eq f fd ∧ EqC K (c .co) f ∧ Binds K fd ["self", "other"] []
  pa : ∃ f fd, Fun K "__eq__" "Pair.__eq__" s_Pair_eq f fd ∧ EqC K (c .pa) f ∧ Binds K fd ["self", "other"] []
theorem eq_all (T : TxK mg) (S : KCl K c) (N : KEq K mg c) (Fs : EqFs K c) : ∀ n, EqM P w K mg base c n := by
  intro n
  induction n with
  | zero =>
    intro i
    cases i with
    | ha =>
      obtain ⟨f, fd, F, e, b⟩ := Fs.ha
      exact ⟨1, f, fd, by omega, ok_Halves_eq F T S N 0, e, b⟩
    | bo =>
      obtain ⟨f, fd, F, e, b⟩ := Fs.bo
      exact ⟨1, f, fd, by omega, ok_Boxes_eq F T S N 0, e, b⟩
    | ri =>
      obtain ⟨f, fd, F, e, b⟩ := Fs.ri
      exact ⟨1, f, fd, by omega, ok_Rising_eq F T S N 0, e, b⟩
    | fl =>
      obtain ⟨f, fd, F, e, b⟩ := Fs.fl
      exact ⟨1, f, fd, by omega, ok_Flats_eq F T S N 0, e, b⟩
    | tu =>
      obtain ⟨f, fd, F, e, b⟩ := Fs.tu
      exact ⟨1, f, fd, by omega, ok_Turns_eq F T S N 0, e, b⟩
    | co =>
      obtain ⟨f, fd, F, e, b⟩ := Fs.co
      exact ⟨1, f, fd, by omega, ok_Contrary_eq0 F, e, b⟩
    | pa =>
      obtain ⟨f, fd, F, e, b⟩ := Fs.pa
      exact ⟨1, f, fd, by omega, ok_Pair_eq0 F, e, b⟩
  | succ n ih =>
    intro i
    cases i with
    | ha =>
      obtain ⟨f, fd, F, e, b⟩ := Fs.ha
      exact ⟨1, f, fd, by omega, ok_Halves_eq F T S N (n + 1), e, b⟩
    | bo =>
      obtain ⟨f, fd, F, e, b⟩ := Fs.bo
      exact ⟨1, f, fd, by omega, ok_Boxes_eq F T S N (n + 1), e, b⟩
    | ri =>
      obtain ⟨f, fd, F, e, b⟩ := Fs.ri
      exact ⟨1, f, fd, by omega, ok_Rising_eq F T S N (n + 1), e, b⟩
    | fl =>
      obtain ⟨f, fd, F, e, b⟩ := Fs.fl
      exact ⟨1, f, fd, by omega, ok_Flats_eq F T S N (n + 1), e, b⟩
    | tu =>
      obtain ⟨f, fd, F, e, b⟩ := Fs.tu
      exact ⟨1, f, fd, by omega, ok_Turns_eq F T S N (n + 1), e, b⟩
    | co =>
      obtain ⟨f, fd, F, e, b⟩ := Fs.co
      exact ⟨n + 2, f, fd, by omega, ok_Contrary_eq F T S N n ih, e, b⟩
    | pa =>
      obtain ⟨f, fd, F, e, b⟩ := Fs.pa
      exact ⟨n + 2, f, fd, by omega, ok_Pair_eq F T S N n ih, e, b⟩
end
end U

set_option Elab.async false
set_option linter.all false
set_option maxRecDepth 100000
set_option maxHeartbeats 2000000
/-! data == an instance with its own __eq__: the data's type declines, the instance is asked -/
namespace OQ
open PySem PySem.W PyProof.Rows
section
variable {prog : Program} {w : World} {A : Around} {E : Value → Shared → Prop} {s : Shared} {K : Frag} {x C L f : Addr} {h0 : Heap} {m : Str → Option Value} {ox : Obj} {od : Option Obj} {b : Value} {T id : String}
theorem rev_K {Q : Value → Shared → Prop} (hu : A.units < cLine) (FR : Fr h0 L s.heap m) (X0 : K.In h0) (I : InstAt s.heap x ox C od) (hb : s.TypeIs b T) (hsub : subIn K (.ref C) (.type T) = some false) (slot : Slot T (cmpInfo .Eq).2.1 id)
    (dec : ∀ Q' : Value → Shared → Prop, Q' .notImplemented s → wpAny (model prog w) A (call (.builtin id) [b, .ref x]) Q' E s)
    (hs : findIn K (.ref C) "__eq__" = some (some (.ref f))) (hf : isFn K (.ref f) = true) (h : wpAny (model prog w) A (call (.ref f) [.ref x, b]) (PySem.W.CmpBack Q) E s) : wpAny (model prog w) A (richCompare .Eq b (.ref x)) Q E s := by
  have X := X0.keeps FR.keep
  have one : wpAny (model prog w) A (tryCompare (.ref x) "__eq__" b) (fun r s' => ∃ v, r = some v ∧ Q v s') E s := by
    unfold tryCompare
    refine wpAny_bind (ifBound_K X I hs hf (wpAny_mono h (fun v s' hv => ?_) fun _ _ e => e))
    cases v <;> first | exact hv.elim | exact wpAny_pure ⟨_, rfl, hv⟩
  rcases hi : cmpInfo CmpOp.Eq with ⟨sym, f1, r1⟩
  have hr1 : r1 = "__eq__" := by
    have := congrArg (·.2.2) hi
    exact this.symm
  rw [hi] at slot
  simp only [richCompare, hi, hb.oneThing_none]
  refine wpAny_holding (wpAny_bind (wpAny_cRoomFor hu ?_))
  refine wpAny_bind (wpAny_typeOf hb (wpAny_bind (I.type.here ?_)))
  have hne : (Value.type T != Value.ref C) = true := rfl
  simp only [hne, if_true]
  refine wpAny_bind ((looks_subIn X hsub).here ?_)
  simp only [Bool.false_eq_true, if_false, Bool.not_false, if_true]
  refine wpAny_bind (m := tryCompare b _ (.ref x)) (wpAny_tryCompare_declines hb slot (dec _ ⟨rfl, ?_⟩))
  rw [hr1]
  refine wpAny_bind (m := tryCompare (.ref x) _ b) (wpAny_mono one (fun r s' z => ?_) fun _ _ e => e)
  obtain ⟨v, rfl, hq⟩ := z
  exact wpAny_pure hq
end
section
theorem int_dec_inst (b : Int) (u : Tok) (l C dx : Addr) :
    Meets (Builtin.«int.__eq__» ⟨[.int b u, .ref l], []⟩) (fun _ R s => s.heap.get? l = some (instObj C dx) ∧ R (.ok (.ret .notImplemented)) s) :=
  .of_wp fun prog w A R s h => by obtain ⟨hp, g, d, tk, os⟩ := s; obtain ⟨hl, h⟩ := h; wp_walk using wpAny_loadPart' hl, wpAny_load hl; exact ⟨_, rfl, h⟩
theorem bool_dec_inst (b : Bool) (l C dx : Addr) :
    Meets (Builtin.«int.__eq__» ⟨[.bool b, .ref l], []⟩) (fun _ R s => s.heap.get? l = some (instObj C dx) ∧ R (.ok (.ret .notImplemented)) s) :=
  .of_wp fun prog w A R s h => by obtain ⟨hp, g, d, tk, os⟩ := s; obtain ⟨hl, h⟩ := h; wp_walk using wpAny_loadPart' hl, wpAny_load hl; exact ⟨_, rfl, h⟩
theorem str_dec_inst (b : Str) (u : Tok) (l C dx : Addr) :
    Meets (Builtin.«str.__eq__» ⟨[.str b u, .ref l], []⟩) (fun _ R s => s.heap.get? l = some (instObj C dx) ∧ R (.ok (.ret .notImplemented)) s) :=
  .of_wp fun prog w A R s h => by obtain ⟨hp, g, d, tk, os⟩ := s; obtain ⟨hl, h⟩ := h; wp_walk using wpAny_loadPart' hl, wpAny_load hl; exact ⟨_, rfl, h⟩
end
section
variable {prog : Program} {w : World} {A : Around} {E : Value → Shared → Prop} {K : Frag} {x C l : Addr} {ox : Obj} {od : Option Obj}
theorem inst_no {s : Shared} {T : String} (X : K.In s.heap) (I : InstAt s.heap x ox C od) (hsub : subIn K (.ref C) (.type T) = some false) {A' : Around} {E' : Value → Shared → Prop} {Q : Bool → Shared → Prop} (q : Q false s) : wpAny (model prog w) A' (isInstance (.ref x) (.type T)) Q E' s := by
  unfold isInstance
  exact wpAny_bind (I.type.here ((looks_subIn X hsub).here q))
theorem list_dec {s : Shared} (X : K.In s.heap) (I : InstAt s.heap x ox C od) (hsub : subIn K (.ref C) (.type "list") = some false) {o : Obj} (hl : s.heap.get? l = some o) (hc : o.cls = .type "list") {Q : Value → Shared → Prop} (hq : Q .notImplemented s) :
    wpAny (model prog w) A (call (.builtin "list.__eq__") [.ref l, .ref x]) Q E s := by
  have hT : s.TypeIs (.ref l) "list" := ⟨_, hl, hc⟩
  refine wpAny_call_entry F.slot_list_eq hT F.entry_list_eq ?_ (F.args_list_eq_2 _ _)
  obtain ⟨hp, g, d, tk, os⟩ := s
  have q1 : ∀ {A' : Around} {E' : Value → Shared → Prop} {Q : Bool → Shared → Prop}, Q false ⟨hp, g, d, tk, os⟩ → wpAny (model prog w) A' (isInstance (.ref x) (.type "list")) Q E' ⟨hp, g, d, tk, os⟩ := fun q => inst_no X I hsub q
  wp_walk using q1
  exact ⟨_, rfl, hq⟩
theorem tuple_dec {s : Shared} (X : K.In s.heap) (I : InstAt s.heap x ox C od) (hsub : subIn K (.ref C) (.type "tuple") = some false) {o : Obj} (hl : s.heap.get? l = some o) (hc : o.cls = .type "tuple") {Q : Value → Shared → Prop} (hq : Q .notImplemented s) :
    wpAny (model prog w) A (call (.builtin "tuple.__eq__") [.ref l, .ref x]) Q E s := by
  have hT : s.TypeIs (.ref l) "tuple" := ⟨_, hl, hc⟩
  refine wpAny_call_entry F.slot_tuple_eq hT F.entry_tuple_eq ?_ (F.args_tuple_eq_2 _ _)
  obtain ⟨hp, g, d, tk, os⟩ := s
  have q1 : ∀ {A' : Around} {E' : Value → Shared → Prop} {Q : Bool → Shared → Prop}, Q false ⟨hp, g, d, tk, os⟩ → wpAny (model prog w) A' (isInstance (.ref x) (.type "tuple")) Q E' ⟨hp, g, d, tk, os⟩ := fun q => inst_no X I hsub q
  wp_walk using q1
  exact ⟨_, rfl, hq⟩
theorem dict_dec {s : Shared} (X : K.In s.heap) (I : InstAt s.heap x ox C od) (hsub : subIn K (.ref C) (.type "dict") = some false) {o : Obj} (hl : s.heap.get? l = some o) (hc : o.cls = .type "dict") {Q : Value → Shared → Prop} (hq : Q .notImplemented s) :
    wpAny (model prog w) A (call (.builtin "dict.__eq__") [.ref l, .ref x]) Q E s := by
  have T : s.TypeIs (.ref l) "dict" := ⟨_, hl, hc⟩
  refine wpAny_call_entry PySem.F.slot_dict_eq T PySem.F.entry_dict_eq ?_ (PySem.F.args_dict_eq_2 _ _)
  show wpAny _ _ (Builtin.Dict.dictSlotArgs "__eq__" ⟨[.ref l, .ref x], []⟩ >>= _) _ _ s
  refine wpAny_bind ?_
  unfold Builtin.Dict.dictSlotArgs
  refine wpAny_bind (wpAny_notOrdered_dict T ?_)
  show wpAny _ _ (pure (Value.ref l, Value.ref x)) _ _ s
  refine wpAny_pure ?_
  refine wpAny_bind (inst_no X I hsub ?_)
  simp only [Bool.not_false, if_true]
  obtain ⟨hp, g, dm, tk, os⟩ := s
  wp_walk
  exact ⟨_, rfl, hq⟩
end
end OQ

set_option Elab.async false
set_option linter.all false
set_option maxRecDepth 100000
set_option maxHeartbeats 2000000
/-! data == an instance -/
namespace U
open PySem PySem.Spec PyProof.Rows L2
open Evl (Ex)
section
variable {X : Cx} {n : Nat} {sp : Sp} {C f : Addr} {fd : FuncData} {ps : List Str}
def rRevQ (K : PySem.W.Frag) (C : Addr) (sp : Sp) : R2 := fun x y H Q => ∃ a dx fs d, y = .ref a ∧ H a = some (.ins C dx fs) ∧ Dq K H x d ∧ sp [.ref a, x] H (fun v H' => ∃ b, v = .bl b ∧ Q (.bl b) H') E0
/-- no built-in type of data is above the class -/
structure NoSub (K : PySem.W.Frag) (C : Addr) : Prop where
  none : PySem.W.subIn K (.ref C) (.type "NoneType") = some false
  bool : PySem.W.subIn K (.ref C) (.type "bool") = some false
  int : PySem.W.subIn K (.ref C) (.type "int") = some false
  str : PySem.W.subIn K (.ref C) (.type "str") = some false
  list : PySem.W.subIn K (.ref C) (.type "list") = some false
  tuple : PySem.W.subIn K (.ref C) (.type "tuple") = some false
  dict : PySem.W.subIn K (.ref C) (.type "dict") = some false
open PySem.SeqAt PySem.AutoSeq1 PySem.MeetsSeq in
theorem op_eqRev (F : FnOk X.prog X.w X.K X.mg X.base CX0 n f fd ps sp) (hr : Room n X.A) (e : EqC X.K C f) (ns : NoSub X.K C) (hb : Binds X.K fd ps []) : OpR X (compareOp .Eq) (rRevQ X.K C sp) := by
  intro pins s σ H x y v u Q I rx ry hq
  obtain ⟨a, dx, fs, d, rfl, ha, hd, hsp⟩ := hq
  cases ry
  obtain ⟨mA, J, _⟩ := ins_get I.hok ha
  obtain ⟨od, J, _⟩ := J.look
  obtain ⟨m, hF⟩ := I.fr
  have hob : s.heap.get? a = some (PySem.W.instObj C dx) := (show ObjOk X.prog X.w H s.heap a (.ins C dx fs) from I.hok a _ ha).2.2.2.1
  have run : wpAny (model X.prog X.w) X.A (call (.ref f) [Value.ref a, v]) (PySem.W.CmpBack (EP X pins σ Q)) X.xe s := by
    refine wpAny_mono (run_fn F hr hb .nil pass0 I (show Vals [V.ref a, x] [Value.ref a, v] from .cons rfl (.cons rx .nil)) hsp) (fun r s' z => ?_) fun _ _ x => x
    obtain ⟨v, H', I', rv, b, rfl, q⟩ := z
    cases rv
    exact ⟨V.bl b, H', I', rfl, q⟩
  show wpAny (model X.prog X.w) X.A (richCompare .Eq v (.ref a)) (EP X pins σ Q) X.xe s
  have X1 := I.kIn
  cases hd with
  | non =>
    cases rx
    exact OQ.rev_K hr.units0 hF I.ok.mod.kin J (T := "NoneType") rfl ns.none PySem.F.slot_NoneType_eq (fun _ hq => call_gives PySem.F.slot_NoneType_eq rfl PySem.F.entry_NoneType_eq (PySem.F.args_NoneType_eq_2 _ _) (NoneType___eq___none_ref_0 a) hq) e.eq e.fn run
  | bl b =>
    cases rx
    exact OQ.rev_K hr.units0 hF I.ok.mod.kin J (T := "bool") rfl ns.bool PySem.F.slot_bool_eq (fun _ hq => call_meets PySem.F.slot_bool_eq rfl PySem.F.entry_int_eq (PySem.F.args_int_eq_2 _ _) (OQ.bool_dec_inst b a C dx) ⟨hob, hq⟩) e.eq e.fn run
  | int i =>
    obtain ⟨t, rfl⟩ := rx
    exact OQ.rev_K hr.units0 hF I.ok.mod.kin J (typeIs_int s i t) ns.int PySem.F.slot_int_eq (fun _ hq => call_meets PySem.F.slot_int_eq (typeIs_int s i t) PySem.F.entry_int_eq (PySem.F.args_int_eq_2 _ _) (OQ.int_dec_inst i t a C dx) ⟨hob, hq⟩) e.eq e.fn run
  | str z =>
    obtain ⟨t, rfl⟩ := rx
    exact OQ.rev_K hr.units0 hF I.ok.mod.kin J (typeIs_str s z t) ns.str PySem.F.slot_str_eq (fun _ hq => call_meets PySem.F.slot_str_eq (typeIs_str s z t) PySem.F.entry_str_eq (PySem.F.args_str_eq_2 _ _) (OQ.str_dec_inst z t a C dx) ⟨hob, hq⟩) e.eq e.fn run
  | lst hs _ =>
    cases rx
    obtain ⟨its, _, ⟨o, n, ho, hc, _, hd⟩, _⟩ := I.list hs
    exact OQ.rev_K hr.units0 hF I.ok.mod.kin J (T := "list") ⟨_, ho, hc⟩ ns.list PySem.F.slot_list_eq (fun _ hq => OQ.list_dec X1 J ns.list ho hc hq) e.eq e.fn run
  | tup hs _ =>
    cases rx
    obtain ⟨its, _, ⟨o, ho, hc, n, hd⟩, _⟩ := I.tuple hs
    exact OQ.rev_K hr.units0 hF I.ok.mod.kin J (T := "tuple") ⟨_, ho, hc⟩ ns.tuple PySem.F.slot_tuple_eq (fun _ hq => OQ.tuple_dec X1 J ns.tuple ho hc hq) e.eq e.fn run
  | dct hda =>
    cases rx
    obtain ⟨_, _, vs, _, dd⟩ := (show ObjOk X.prog X.w H s.heap _ (.dK []) from I.hok _ _ hda)
    obtain ⟨⟨cls, di, da, sl⟩, es, ep, ho, hx, hdb, _⟩ := dd
    have hc : cls = .type "dict" := hx.1
    exact OQ.rev_K hr.units0 hF I.ok.mod.kin J (T := "dict") ⟨_, ho, hc⟩ ns.dict PySem.F.slot_dict_eq (fun _ hq => OQ.dict_dec X1 J ns.dict ho hc hq) e.eq e.fn run
end
end U

set_option Elab.async false
set_option linter.all false
set_option maxRecDepth 100000
set_option maxHeartbeats 4000000
/-! the places of what is said of a kind -/
namespace U
open PySem PySem.Spec PyProof.Rows L2
open Evl (Ex)
abbrev s_places : Stmt := top 33
abbrev sc_places_N : List Str := ["_law_spec_here"]
theorem sc_places : FnScope sc_places_N ["_law_spec_here"] (defScope s_places) := ⟨rfl, rfl, rfl, by decide +kernel, rfl, by decide +kernel, by decide +kernel⟩
section
variable {K : PySem.W.Frag} {H : Hp}
theorem dp_two {v : V} {d e : PyData} (h : Dp K H v (.tuple [d, e])) : ∃ a u w, v = .ref a ∧ SqT K H a [u, w] ∧ Dp K H u d ∧ Dp K H w e := by
  cases h with
  | @tup a xs _ hs ha =>
    cases ha with
    | @cons u us _ _ r q =>
      cases q with
      | @cons w ws _ _ r2 q2 =>
        cases q2
        exact ⟨a, u, w, rfl, hs, r, r2⟩
end
section
variable {K : PySem.W.Frag} {H : Hp}
theorem dp_three {v : V} {d e f : PyData} (h : Dp K H v (.tuple [d, e, f])) : ∃ a u w x, v = .ref a ∧ SqT K H a [u, w, x] ∧ Dp K H u d ∧ Dp K H w e ∧ Dp K H x f := by
  cases h with
  | @tup a xs _ hs ha =>
    cases ha with
    | @cons u us _ _ r q =>
      cases q with
      | @cons w ws _ _ r2 q2 =>
        cases q2 with
        | @cons x _ _ _ r3 q3 =>
          cases q3
          exact ⟨a, u, w, x, rfl, hs, r, r2, r3⟩
end
section
variable {K : PySem.W.Frag} {H : Hp}
theorem evv_ift {σ : L2.St} {tc : TT} {ta tb : TE} {v : V} (ht : Evl.EvT tc σ H true) (h : Evl.Ev ta σ H v) : Evl.Ev (tIf tc ta tb) σ H v := Evl.ev_if ht (fun _ => h) fun z => nomatch z
end
section
variable {K : PySem.W.Frag} {H : Hp}
theorem evv_iff {σ : L2.St} {tc : TT} {ta tb : TE} {v : V} (ht : Evl.EvT tc σ H false) (h : Evl.Ev tb σ H v) : Evl.Ev (tIf tc ta tb) σ H v := Evl.ev_if ht (fun z => nomatch z) fun _ => h
end
section
variable {K : PySem.W.Frag} {H : Hp}
theorem dp_str {v : V} {z : Str} (h : Dp K H v (.str z)) : v = .str z := by cases h; rfl
end
section
variable {K : PySem.W.Frag} {H : Hp}
theorem dp_int {v : V} {z : Int} (h : Dp K H v (.int z)) : v = .int z := by cases h; rfl
end
section
variable {P : Program} {w : World} {K : PySem.W.Frag} {mg : Str → Option Value} {base : Heap}
def spPl (K : PySem.W.Frag) (n : Nat) : Sp := fun vs H Q _ => ∃ v k, vs = [v] ∧ Dp K H v (kdD k) ∧ depK k ≤ n ∧ ∀ H', Ex H H' → Q (.int (placesK k)) H'
def spPlP (K : PySem.W.Frag) : Nat → Sp
  | 0 => fun _ _ _ _ => False
  | n + 1 => spPl K n
theorem ev_pl {te : TE} {σ : L2.St} {v : V} {k : Kd} {n : Nat} {H : Hp} (h : Evl.Ev te σ H v) (hv : Dp K H v (kdD k)) (hn : depK k ≤ n) : Evl.Ev (tCallD (spPl K n) (tCons te tNil)) σ H (.int (placesK k)) := ev_callD (Evl.ea_cons h Evl.ea_nil) fun H1 e1 Q q => ⟨v, k, rfl, hv.up e1, hn, q⟩
theorem kd_tup : ∀ k : Kd, ∃ ds, kdD k = .tuple ds
  | .halves _ => ⟨_, rfl⟩
  | .boxes _ => ⟨_, rfl⟩
  | .rising _ => ⟨_, rfl⟩
  | .flats _ => ⟨_, rfl⟩
  | .turns _ => ⟨_, rfl⟩
  | .no _ => ⟨_, rfl⟩
  | .both _ _ => ⟨_, rfl⟩
  | .either _ _ => ⟨_, rfl⟩
  | .any _ _ => ⟨_, rfl⟩
theorem kd_ty (k : Kd) : tyOf (kdD k) = "tuple" := by
  obtain ⟨ds, e⟩ := kd_tup k
  rw [e]
  rfl
theorem places_body {f : Addr} {fd : FuncData} (F : Fun K "_law_places" "_law_places" s_places f fd) (T : TxB mg) (n : Nat) (D_places : DefAt P w K mg base "_law_places" n ["_law_spec_here"] (spPlP K n)) : FnOk P w K mg base CX0 (n + 1) f fd ["_law_spec_here"] (spPl K n) := by
  refine F.ok sc_places (fun vs H Q E h => ?_) (fun cdv A outer s H vs Q E hr h => ?_)
  · obtain ⟨_, _, rfl, _⟩ := h
    rfl
  · obtain ⟨v, k, rfl, hv, hn, kk⟩ := h
    refine ⟨_, (pss_cons (ps_if (pt_cmpR op_eq (pe_ix ix_tup (pv 0) pe_int (fun _ _ => rfl)) pe_str (nomark _)) (pss_one (ps_ret pe_int)) pss_nil)
    (pss_one (ps_ret (pe_ifExp (pt_val (pe_callB call_isi (by rfl) T.m_isinstance (by decide +kernel) (pa_cons (pe_ix ix_tup (pv 0) pe_int (fun _ _ => rfl)) (pa_cons (pe_bltn (v := .ty "int") (by rfl) T.m_int (by decide +kernel) rfl) pa_nil)))) (pe_ix ix_tup (pv 0) pe_int (fun _ _ => rfl)) (pe_callD D_places (by first | exact hr | exact hr.mono (by decide) | exact hr.mono (by omega)) (by rfl) (pa_cons (pe_ix ix_tup (pv 0) pe_int (fun _ _ => rfl)) pa_nil)))))), ?_⟩
    cases k with
    | halves q =>
      obtain ⟨a, u1, u2, rfl, hs, h1, h2⟩ := dp_two hv
      obtain rfl := dp_str h1
      obtain rfl := dp_int h2
      refine Evl.q_when (b := false) (Evl.et_is (Evl.et_test (Evl.ev_op (Evl.ev_op (Evl.ev_var (v := .ref a) rfl) Evl.ev_c (Evl.rv_ixT hs rfl)) Evl.ev_c (Evl.rv_eq rfl))) (by decide)) (fun z => nomatch z) (fun _ H1 e1 => ?_)
      exact Evl.s_ret (evv_ift (Evl.et_B (ev_isi (d := .int q) (Evl.ev_op (Evl.ev_var (v := .ref a) rfl) Evl.ev_c (Evl.rv_ixT (Evl.ex_t e1 hs) rfl)) (.int q) isi_int_int)) (Evl.ev_op (Evl.ev_var (v := .ref a) rfl) Evl.ev_c (Evl.rv_ixT (Evl.ex_t e1 hs) rfl))) fun H2 e2 => kk H2 (e1.trans e2)
    | boxes q =>
      obtain ⟨a, u1, u2, rfl, hs, h1, h2⟩ := dp_two hv
      obtain rfl := dp_str h1
      obtain rfl := dp_int h2
      refine Evl.q_when (b := false) (Evl.et_is (Evl.et_test (Evl.ev_op (Evl.ev_op (Evl.ev_var (v := .ref a) rfl) Evl.ev_c (Evl.rv_ixT hs rfl)) Evl.ev_c (Evl.rv_eq rfl))) (by decide)) (fun z => nomatch z) (fun _ H1 e1 => ?_)
      exact Evl.s_ret (evv_ift (Evl.et_B (ev_isi (d := .int q) (Evl.ev_op (Evl.ev_var (v := .ref a) rfl) Evl.ev_c (Evl.rv_ixT (Evl.ex_t e1 hs) rfl)) (.int q) isi_int_int)) (Evl.ev_op (Evl.ev_var (v := .ref a) rfl) Evl.ev_c (Evl.rv_ixT (Evl.ex_t e1 hs) rfl))) fun H2 e2 => kk H2 (e1.trans e2)
    | rising q =>
      obtain ⟨a, u1, u2, rfl, hs, h1, h2⟩ := dp_two hv
      obtain rfl := dp_str h1
      obtain rfl := dp_int h2
      refine Evl.q_when (b := false) (Evl.et_is (Evl.et_test (Evl.ev_op (Evl.ev_op (Evl.ev_var (v := .ref a) rfl) Evl.ev_c (Evl.rv_ixT hs rfl)) Evl.ev_c (Evl.rv_eq rfl))) (by decide)) (fun z => nomatch z) (fun _ H1 e1 => ?_)
      exact Evl.s_ret (evv_ift (Evl.et_B (ev_isi (d := .int q) (Evl.ev_op (Evl.ev_var (v := .ref a) rfl) Evl.ev_c (Evl.rv_ixT (Evl.ex_t e1 hs) rfl)) (.int q) isi_int_int)) (Evl.ev_op (Evl.ev_var (v := .ref a) rfl) Evl.ev_c (Evl.rv_ixT (Evl.ex_t e1 hs) rfl))) fun H2 e2 => kk H2 (e1.trans e2)
    | flats q =>
      obtain ⟨a, u1, u2, rfl, hs, h1, h2⟩ := dp_two hv
      obtain rfl := dp_str h1
      obtain rfl := dp_int h2
      refine Evl.q_when (b := false) (Evl.et_is (Evl.et_test (Evl.ev_op (Evl.ev_op (Evl.ev_var (v := .ref a) rfl) Evl.ev_c (Evl.rv_ixT hs rfl)) Evl.ev_c (Evl.rv_eq rfl))) (by decide)) (fun z => nomatch z) (fun _ H1 e1 => ?_)
      exact Evl.s_ret (evv_ift (Evl.et_B (ev_isi (d := .int q) (Evl.ev_op (Evl.ev_var (v := .ref a) rfl) Evl.ev_c (Evl.rv_ixT (Evl.ex_t e1 hs) rfl)) (.int q) isi_int_int)) (Evl.ev_op (Evl.ev_var (v := .ref a) rfl) Evl.ev_c (Evl.rv_ixT (Evl.ex_t e1 hs) rfl))) fun H2 e2 => kk H2 (e1.trans e2)
    | turns q =>
      obtain ⟨a, u1, u2, rfl, hs, h1, h2⟩ := dp_two hv
      obtain rfl := dp_str h1
      refine Evl.q_when (b := true) (Evl.et_is (Evl.et_test (Evl.ev_op (Evl.ev_op (Evl.ev_var (v := .ref a) rfl) Evl.ev_c (Evl.rv_ixT hs rfl)) Evl.ev_c (Evl.rv_eq rfl))) (by decide)) (fun _ H1 e1 => ?_) (fun z => nomatch z)
      exact Evl.s_ret Evl.ev_c fun H2 e2 => kk H2 (e1.trans e2)
    | no k1 =>
      obtain ⟨a, u1, u2, rfl, hs, h1, h2⟩ := dp_two hv
      obtain rfl := dp_str h1
      obtain ⟨m, rfl, hm⟩ : ∃ m, n = m + 1 ∧ depK k1 ≤ m := by
        simp only [depK] at hn
        exact ⟨n - 1, by omega, by omega⟩
      refine Evl.q_when (b := false) (Evl.et_is (Evl.et_test (Evl.ev_op (Evl.ev_op (Evl.ev_var (v := .ref a) rfl) Evl.ev_c (Evl.rv_ixT hs rfl)) Evl.ev_c (Evl.rv_eq rfl))) (by decide)) (fun z => nomatch z) (fun _ H1 e1 => ?_)
      exact Evl.s_ret (v := .int (placesK k1)) (evv_iff (Evl.et_B (ev_isi (d := kdD k1) (Evl.ev_op (Evl.ev_var (v := .ref a) rfl) Evl.ev_c (Evl.rv_ixT (Evl.ex_t e1 hs) rfl)) (h2.up e1) (by rw [kd_ty]; exact isi_tuple_int))) (ev_pl (Evl.ev_op (Evl.ev_var (v := .ref a) rfl) Evl.ev_c (Evl.rv_ixT (Evl.ex_t e1 hs) rfl)) (h2.up e1) hm)) fun H2 e2 => kk H2 (e1.trans e2)
    | both k1 k2 =>
      obtain ⟨a, u1, u2, u3, rfl, hs, h1, h2, h3⟩ := dp_three hv
      obtain rfl := dp_str h1
      obtain ⟨m, rfl, hm⟩ : ∃ m, n = m + 1 ∧ depK k1 ≤ m := by
        simp only [depK] at hn
        exact ⟨n - 1, by omega, by omega⟩
      refine Evl.q_when (b := false) (Evl.et_is (Evl.et_test (Evl.ev_op (Evl.ev_op (Evl.ev_var (v := .ref a) rfl) Evl.ev_c (Evl.rv_ixT hs rfl)) Evl.ev_c (Evl.rv_eq rfl))) (by decide)) (fun z => nomatch z) (fun _ H1 e1 => ?_)
      exact Evl.s_ret (v := .int (placesK k1)) (evv_iff (Evl.et_B (ev_isi (d := kdD k1) (Evl.ev_op (Evl.ev_var (v := .ref a) rfl) Evl.ev_c (Evl.rv_ixT (Evl.ex_t e1 hs) rfl)) (h2.up e1) (by rw [kd_ty]; exact isi_tuple_int))) (ev_pl (Evl.ev_op (Evl.ev_var (v := .ref a) rfl) Evl.ev_c (Evl.rv_ixT (Evl.ex_t e1 hs) rfl)) (h2.up e1) hm)) fun H2 e2 => kk H2 (e1.trans e2)
    | either k1 k2 =>
      obtain ⟨a, u1, u2, u3, rfl, hs, h1, h2, h3⟩ := dp_three hv
      obtain rfl := dp_str h1
      obtain ⟨m, rfl, hm⟩ : ∃ m, n = m + 1 ∧ depK k1 ≤ m := by
        simp only [depK] at hn
        exact ⟨n - 1, by omega, by omega⟩
      refine Evl.q_when (b := false) (Evl.et_is (Evl.et_test (Evl.ev_op (Evl.ev_op (Evl.ev_var (v := .ref a) rfl) Evl.ev_c (Evl.rv_ixT hs rfl)) Evl.ev_c (Evl.rv_eq rfl))) (by decide)) (fun z => nomatch z) (fun _ H1 e1 => ?_)
      exact Evl.s_ret (v := .int (placesK k1)) (evv_iff (Evl.et_B (ev_isi (d := kdD k1) (Evl.ev_op (Evl.ev_var (v := .ref a) rfl) Evl.ev_c (Evl.rv_ixT (Evl.ex_t e1 hs) rfl)) (h2.up e1) (by rw [kd_ty]; exact isi_tuple_int))) (ev_pl (Evl.ev_op (Evl.ev_var (v := .ref a) rfl) Evl.ev_c (Evl.rv_ixT (Evl.ex_t e1 hs) rfl)) (h2.up e1) hm)) fun H2 e2 => kk H2 (e1.trans e2)
    | any k1 k2 =>
      obtain ⟨a, u1, u2, u3, rfl, hs, h1, h2, h3⟩ := dp_three hv
      obtain rfl := dp_str h1
      obtain ⟨m, rfl, hm⟩ : ∃ m, n = m + 1 ∧ depK k1 ≤ m := by
        simp only [depK] at hn
        exact ⟨n - 1, by omega, by omega⟩
      refine Evl.q_when (b := false) (Evl.et_is (Evl.et_test (Evl.ev_op (Evl.ev_op (Evl.ev_var (v := .ref a) rfl) Evl.ev_c (Evl.rv_ixT hs rfl)) Evl.ev_c (Evl.rv_eq rfl))) (by decide)) (fun z => nomatch z) (fun _ H1 e1 => ?_)
      exact Evl.s_ret (v := .int (placesK k1)) (evv_iff (Evl.et_B (ev_isi (d := kdD k1) (Evl.ev_op (Evl.ev_var (v := .ref a) rfl) Evl.ev_c (Evl.rv_ixT (Evl.ex_t e1 hs) rfl)) (h2.up e1) (by rw [kd_ty]; exact isi_tuple_int))) (ev_pl (Evl.ev_op (Evl.ev_var (v := .ref a) rfl) Evl.ev_c (Evl.rv_ixT (Evl.ex_t e1 hs) rfl)) (h2.up e1) hm)) fun H2 e2 => kk H2 (e1.trans e2)
end
/-! == of what is said of kinds -/
theorem kd_lay : ∀ k : Kd, (kdD k).canLay0 = true
  | .halves _ => by simp [kdD, PyData.canLay0, PyData.canLayAll0]; decide +kernel
  | .boxes _ => by simp [kdD, PyData.canLay0, PyData.canLayAll0]; decide +kernel
  | .rising _ => by simp [kdD, PyData.canLay0, PyData.canLayAll0]; decide +kernel
  | .flats _ => by simp [kdD, PyData.canLay0, PyData.canLayAll0]; decide +kernel
  | .turns _ => by simp [kdD, PyData.canLay0, PyData.canLayAll0]; decide +kernel
  | .no k => by simp [kdD, PyData.canLay0, PyData.canLayAll0, kd_lay k]; decide +kernel
  | .both k m => by simp [kdD, PyData.canLay0, PyData.canLayAll0, kd_lay k, kd_lay m]; decide +kernel
  | .either k m => by simp [kdD, PyData.canLay0, PyData.canLayAll0, kd_lay k, kd_lay m]; decide +kernel
  | .any k m => by simp [kdD, PyData.canLay0, PyData.canLayAll0, kd_lay k, kd_lay m]; decide +kernel
theorem kd_depth : ∀ k : Kd, (kdD k).depth ≤ depK k + 1
  | .halves _ => by simp [kdD, PyData.depth, PyData.depthAll, depK]
  | .boxes _ => by simp [kdD, PyData.depth, PyData.depthAll, depK]
  | .rising _ => by simp [kdD, PyData.depth, PyData.depthAll, depK]
  | .flats _ => by simp [kdD, PyData.depth, PyData.depthAll, depK]
  | .turns _ => by simp [kdD, PyData.depth, PyData.depthAll, depK]
  | .no k => by
    have := kd_depth k
    simp only [kdD, PyData.depth, PyData.depthAll, depK]
    omega
  | .both k m => by
    have := kd_depth k
    have := kd_depth m
    simp only [kdD, PyData.depth, PyData.depthAll, depK]
    omega
  | .either k m => by
    have := kd_depth k
    have := kd_depth m
    simp only [kdD, PyData.depth, PyData.depthAll, depK]
    omega
  | .any k m => by
    have := kd_depth k
    have := kd_depth m
    simp only [kdD, PyData.depth, PyData.depthAll, depK]
    omega
theorem kd_shaped {k : Kd} (h : depK k ≤ 60) : SeqAt.shaped (kdD k) = true := Bool.and_eq_true_iff.mpr ⟨kd_lay k, decide_eq_true (by have := kd_depth k; omega)⟩
theorem hd_ne {a b : Str} {r s : List PyData} (h : (a == b) = false) : PyData.eqv (.tuple (.str a :: r)) (.tuple (.str b :: s)) = false := by
  show ((a == b) && PyData.eqvAll r s) = false
  rw [h]
  rfl
theorem hd_eq {a : Str} {r s : List PyData} : PyData.eqv (.tuple (.str a :: r)) (.tuple (.str a :: s)) = PyData.eqvAll r s := by
  show ((a == a) && PyData.eqvAll r s) = _
  rw [beq_self_eq_true]
  rfl
theorem int_one {p q : Int} : PyData.eqvAll [.int p] [.int q] = decide (p = q) := by
  show ((p == q) && true) = _
  rw [Bool.and_true]
  by_cases h : p = q <;> simp [h]
theorem d_one {d e : PyData} : PyData.eqvAll [d] [e] = PyData.eqv d e := by
  show (PyData.eqv d e && true) = _
  rw [Bool.and_true]
theorem d_two {d e f g : PyData} : PyData.eqvAll [d, f] [e, g] = (PyData.eqv d e && PyData.eqv f g) := by
  show (PyData.eqv d e && (PyData.eqv f g && true)) = _
  rw [Bool.and_true]
theorem kd_eqv : ∀ k m : Kd, PyData.eqv (kdD k) (kdD m) = decide (k = m) := by
  intro k
  induction k with
  | no k ih => intro m; cases m <;> first | exact (hd_ne (by decide +kernel)).trans (decide_eq_false (fun z => by cases z)).symm | exact hd_eq.trans (d_one.trans ((ih _).trans (decide_eq_decide.mpr ⟨fun z => by rw [z], fun z => by cases z; rfl⟩)))
  | both k k2 ih ih2 => intro m; cases m <;> first | exact (hd_ne (by decide +kernel)).trans (decide_eq_false (fun z => by cases z)).symm | (refine hd_eq.trans (d_two.trans ?_); rw [ih, ih2, ← Bool.decide_and]; exact decide_eq_decide.mpr ⟨fun z => by rw [z.1, z.2], fun z => by cases z; exact ⟨rfl, rfl⟩⟩)
  | either k k2 ih ih2 => intro m; cases m <;> first | exact (hd_ne (by decide +kernel)).trans (decide_eq_false (fun z => by cases z)).symm | (refine hd_eq.trans (d_two.trans ?_); rw [ih, ih2, ← Bool.decide_and]; exact decide_eq_decide.mpr ⟨fun z => by rw [z.1, z.2], fun z => by cases z; exact ⟨rfl, rfl⟩⟩)
  | any k k2 ih ih2 => intro m; cases m <;> first | exact (hd_ne (by decide +kernel)).trans (decide_eq_false (fun z => by cases z)).symm | (refine hd_eq.trans (d_two.trans ?_); rw [ih, ih2, ← Bool.decide_and]; exact decide_eq_decide.mpr ⟨fun z => by rw [z.1, z.2], fun z => by cases z; exact ⟨rfl, rfl⟩⟩)
  | _ => intro m; cases m <;> first | exact (hd_ne (by decide +kernel)).trans (decide_eq_false (fun z => by cases z)).symm | exact hd_eq.trans (int_one.trans (decide_eq_decide.mpr ⟨fun z => by rw [z], fun z => by cases z; rfl⟩))
end U

set_option Elab.async false
set_option linter.all false
set_option maxRecDepth 100000
set_option maxHeartbeats 4000000
/-! steps of the law -/
namespace U
open PySem PySem.Spec PyProof.Rows L2
open Evl (Ex)
section
variable {P : Program} {w : World} {K : PySem.W.Frag} {mg : Str → Option Value} {base : Heap}
theorem draw_runJ {σ : L2.St} {H : Hp} {tm : TE} {l : Addr} {n j : Nat} {many : Int} {Q : VK} (h0 : σ[j]? = some (some (.ref l))) (hd : Dr n H l) (hn : n < 1000000) (hm : Evl.Ev tm σ H (.int many)) (m0 : 0 < many) (m1 : many < 1073741824)
    (k : ∀ r H', 0 ≤ r → r < many → Dr (n + 1) H' l → ExB l H H' → Q (.int r) H') : tCallD spDraw (tCons (tVar j) (tCons tm tNil)) σ H Q :=
  ⟨_, h0, hm H (Ex.refl H) _ fun H1 e1 => ⟨l, many, n, rfl, hd.ex e1, hn, m0, m1, fun r o r0 r1 hd' => k r _ r0 r1 hd' ((ExB.of e1).trans ExB.upd)⟩⟩
end
section
variable {P : Program} {w : World} {K : PySem.W.Frag} {mg : Str → Option Value} {base : Heap} {c : KC} {BT : Addr}
def Kdv (K : PySem.W.Frag) (H : Hp) (d : Nat) (v : V) (k : Kd) : Prop := Dp K H v (kdD k) ∧ (∃ p, okK p k ∧ 1 ≤ p ∧ p ≤ 3) ∧ depK k ≤ d
end
section
variable {P : Program} {w : World} {K : PySem.W.Frag} {mg : Str → Option Value} {base : Heap} {c : KC} {BT : Addr}
theorem Kdv.up {H H' : Hp} {d : Nat} {v : V} {k : Kd} (h : Kdv K H d v k) (e : Ex H H') : Kdv K H' d v k := ⟨h.1.up e, h.2⟩
end
section
variable {P : Program} {w : World} {K : PySem.W.Frag} {mg : Str → Option Value} {base : Heap} {c : KC} {BT : Addr}
theorem paired_imp {α β : Type} {F G : α → β → Prop} : ∀ {xs : List α} {ys : List β}, Paired F xs ys → (∀ x y, F x y → G x y) → Paired G xs ys
  | _, _, .nil, _ => .nil
  | _, _, .cons h t, q => .cons (q _ _ h) (paired_imp t q)
end
section
variable {P : Program} {w : World} {K : PySem.W.Frag} {mg : Str → Option Value} {base : Heap} {c : KC} {BT : Addr}
theorem paired_snoc {α β : Type} {F : α → β → Prop} : ∀ {xs : List α} {ys : List β} {x : α} {y : β}, Paired F xs ys → F x y → Paired F (xs ++ [x]) (ys ++ [y])
  | _, _, _, _, .nil, h => .cons h .nil
  | _, _, _, _, .cons r t, h => .cons r (paired_snoc t h)
end
section
variable {P : Program} {w : World} {K : PySem.W.Frag} {mg : Str → Option Value} {base : Heap}
def spPickV (K : PySem.W.Frag) : Sp := fun vs H Q _ => ∃ (l t : Addr) (xs : List V) (n : Nat) (L : List Addr), vs = [.ref l, .ref t] ∧ Dr n H l ∧ n < 1000000 ∧ l ∈ L ∧ SqL K (W L H) t xs ∧ 0 < xs.length ∧ xs.length < 1073741824 ∧
  ∀ v o, v ∈ xs → Dr (n + 1) (upd H l o) l → Q v (upd H l o)
end
section
variable {P : Program} {w : World} {K : PySem.W.Frag} {mg : Str → Option Value} {base : Heap}
theorem ok_pickV {f : Addr} {fd : FuncData} (F : Fun K "_law_pick" "_law_pick" s_pick f fd) (T : TxB mg) (D_draw : DefAt P w K mg base "_law_draw" 1 ["_law_draws", "_law_many"] spDraw) : FnOk P w K mg base CX0 2 f fd ["_law_draws", "_law_things"] (spPickV K) := by
  refine F.ok sc_pick (fun vs H Q E h => ?_) (fun cdv A outer s H vs Q E hr h => ?_)
  · obtain ⟨_, _, _, _, _, rfl, _⟩ := h
    rfl
  · obtain ⟨l, t, xs, n, L, rfl, hd, hn, hL, hs, h0, h1, k⟩ := h
    refine ⟨_, (pss_one (ps_ret (pe_ix ix_list (pv 1) (pe_callD D_draw (by first | exact hr | exact hr.mono (by decide) | exact hr.mono (by omega)) (by rfl) (pa_cons (pv 0) (pa_cons (pe_callB call_len_seq (by rfl) T.m_len (by decide +kernel) (pa_cons (pv 1) pa_nil)) pa_nil))) (fun _ _ => rfl)))), ?_⟩
    refine ⟨_, rfl, _, rfl, _, rfl, t, xs, rfl, .inl (Evl.ex_l w_sub hs), ?_⟩
    refine ⟨l, _, n, rfl, hd, hn, by omega, by omega, fun r o r0 r1 hd' => ?_⟩
    have hr' : r.toNat < xs.length := by omega
    have er : ((r.toNat : Nat) : Int) = r := by omega
    refine ⟨t, xs, r, xs[r.toNat], rfl, rfl, Evl.ex_l (w_sub (L := L)) (by rw [w_upd_in hL]; exact hs), ?_, ?_⟩
    · have q := atI_nat (List.getElem?_eq_getElem hr')
      rw [er] at q
      exact q
    · exact k _ o (List.getElem_mem hr') hd'
end
section
variable {K : PySem.W.Frag} {L : List Addr} {σ : L2.St} {H : Hp} {te tb : TE} {ds es : List PyData} {l : Addr} {n j : Nat} {v : V} {d : PyData} {p : Int}
theorem evq_dnew (hL : Hid L H) : EvQ K L tDNewK σ H (.dict []) := fun H1 e Q q p hp => q (.ref p) _ (Ex.new hp) (.dct (w_new (hid_ex e hL) hp))
end
section
variable {K : PySem.W.Frag} {L : List Addr} {σ : L2.St} {H : Hp} {te tb : TE} {ds es : List PyData} {l : Addr} {n j : Nat} {v : V} {d : PyData} {p : Int}
theorem pickq_run {Q : VK} (h0 : σ[j]? = some (some (.ref l))) (hd : Dr n H l) (hn : n < 1000000) (hl : l ∈ L) (h : EvQ K L te σ H (.list ds)) (h1 : 0 < ds.length) (h2 : ds.length < 1000000)
    (k : ∀ v d H', d ∈ ds → ExB l H H' → Dr (n + 1) H' l → Dq K (W L H') v d → Q v H') : tCallD (spPickV K) (tCons (tVar j) (tCons te tNil)) σ H Q :=
  ⟨_, h0, h H (Ex.refl H) _ fun t H1 e1 ht => by
    cases ht with
    | @lst t xs _ hs ha =>
      have l1 := dqa_len ha
      refine ⟨l, t, xs, n, L, rfl, hd.ex e1, hn, hl, hs, by omega, by omega, fun v o hv hd' => ?_⟩
      obtain ⟨i, hi, rfl⟩ := List.getElem_of_mem hv
      obtain ⟨d, hd1, hd2⟩ := dqa_get ha (List.getElem?_eq_getElem hi)
      exact k _ d _ (List.mem_of_getElem? hd1) ((ExB.of e1).trans ExB.upd) hd' (by rw [w_upd_in hl]; exact hd2)⟩
end
section
variable {l a t x C : Addr} {n : Nat} {p : Int} {ds : List PyData} {v : V} {d : PyData} {xs : List V} {T : List (Addr × Str)}
theorem tabs_exB (h : LamX.Tabs T H) (e : ExB l H H') (hl : ∃ xs, H l = some (.lst xs)) : LamX.Tabs T H' := fun q hq => by
  obtain ⟨xs, hl⟩ := hl
  obtain ⟨ps, h1, h2, h3⟩ := h q hq
  refine ⟨ps, e _ _ (fun z => by rw [z, hl] at h1; cases h1) h1, h2, fun pos cv hc => ?_⟩
  obtain ⟨c, e1, e2⟩ := h3 pos cv hc
  exact ⟨c, e1, e _ _ (fun z => by rw [z, hl] at e2; unfold LamX.CodeO at e2; cases e2) e2⟩
end
section
variable {l a t x C : Addr} {n : Nat} {p : Int} {ds : List PyData} {v : V} {d : PyData} {xs : List V} {T : List (Addr × Str)}
theorem Dr.extN (h : Dr n H l) (e : LamX.ExtN H H') : Dr n H' l := by
  obtain ⟨a, b, c, h, q⟩ := h
  exact ⟨a, b, c, e _ _ h (fun _ z => by cases z), q⟩
end
section
variable {l a t x C : Addr} {n : Nat} {p : Int} {ds : List PyData} {v : V} {d : PyData} {xs : List V} {T : List (Addr × Str)}
theorem Dr.lst (h : Dr n H l) : ∃ xs, H l = some (.lst xs) := by
  obtain ⟨a, b, c, h, _⟩ := h
  exact ⟨_, h⟩
end
section
variable {K : PySem.W.Frag} {H H' H1 H2 : Hp} {l : Addr} {T : List (Addr × Str)} {n m : Nat} {L : List Addr} {p : Int} {d : PyData} {ds es : List PyData} {v : V}
structure Sg (T : List (Addr × Str)) (l : Addr) (H : Hp) (n : Nat) (H' : Hp) : Prop where
  x : LamX.ExtN H H'
  t : LamX.Tabs T H'
  d : Dr n H' l
  nl : NTb H l
end
section
variable {K : PySem.W.Frag} {H H' H1 H2 : Hp} {l : Addr} {T : List (Addr × Str)} {n m : Nat} {L : List Addr} {p : Int} {d : PyData} {ds es : List PyData} {v : V}
theorem Sg.e (s : Sg T l H n H1) (e : Ex H1 H2) : Sg T l H n H2 := ⟨s.x.trans (LamX.ExtN.of e), s.t.ext e, s.d.ex e, s.nl⟩
end
section
variable {K : PySem.W.Frag} {H H' H1 H2 : Hp} {l : Addr} {T : List (Addr × Str)} {n m : Nat} {L : List Addr} {p : Int} {d : PyData} {ds es : List PyData} {v : V}
theorem Sg.x' (s : Sg T l H n H1) (e : LamX.ExtN H1 H2) (t : LamX.Tabs T H2) : Sg T l H n H2 := ⟨s.x.trans e, t, s.d.extN e, s.nl⟩
end
section
variable {K : PySem.W.Frag} {H H' H1 H2 : Hp} {l : Addr} {T : List (Addr × Str)} {n m : Nat} {L : List Addr} {p : Int} {d : PyData} {ds es : List PyData} {v : V}
theorem Sg.b (s : Sg T l H n H1) (b : ExB l H1 H2) (d : Dr m H2 l) : Sg T l H m H2 := ⟨fun c o h z => b c o (fun e => by rw [e] at h; obtain ⟨ps, q⟩ := s.nl o h; exact z ps q) (s.x c o h z), tabs_exB s.t b s.d.lst, d, s.nl⟩
end
section
variable {K : PySem.W.Frag} {H H' H1 H2 : Hp} {l : Addr} {T : List (Addr × Str)} {n m : Nat} {L : List Addr} {p : Int} {d : PyData} {ds es : List PyData} {v : V}
theorem Sg.hid (s : Sg T l H n H1) : Hid [l] H1 := fun a m => by rw [List.mem_singleton.mp m]; exact s.d.ne
end
section
variable {K : PySem.W.Frag} {H H' H1 H2 : Hp} {l : Addr} {T : List (Addr × Str)} {n m : Nat} {L : List Addr} {p : Int} {d : PyData} {ds es : List PyData} {v : V}
def oddPl : List PyData := [.int 0, .int 4, .int (-1), .none, .bool true, .str "2", .tuple [.int 1], .list [], .int (10 ^ 20), .dict []]
end
section
variable {K : PySem.W.Frag} {H H' H1 H2 : Hp} {l : Addr} {T : List (Addr × Str)} {n m : Nat} {L : List Addr} {p : Int} {d : PyData} {ds es : List PyData} {v : V}
theorem oddPl_ok (h : d ∈ oddPl) : isN d = false ∧ fits 3 d := by
  unfold oddPl at h
  simp only [List.mem_cons, List.not_mem_nil, or_false] at h
  rcases h with rfl | rfl | rfl | rfl | rfl | rfl | rfl | rfl | rfl | rfl
  · exact ⟨rfl, trivial⟩
  · exact ⟨rfl, trivial⟩
  · exact ⟨rfl, trivial⟩
  · exact ⟨rfl, trivial⟩
  · exact ⟨rfl, trivial⟩
  · exact ⟨rfl, trivial⟩
  · exact ⟨rfl, by show 1 ≤ 40000; omega, fun e he => by rw [List.mem_singleton.mp he]; trivial⟩
  · exact ⟨rfl, Nat.zero_le _, fun _ h => nomatch h⟩
  · exact ⟨by decide +kernel, trivial⟩
  · exact ⟨rfl, rfl⟩
end
section
variable {K : PySem.W.Frag} {H H' H1 H2 : Hp} {l : Addr} {T : List (Addr × Str)} {n m : Nat} {L : List Addr} {p : Int} {d : PyData} {ds es : List PyData} {v : V}
theorem fits_two {a : Str} (h : fits 4 d) : fits 5 (.tuple [.str a, d]) := ⟨by show 2 ≤ 40000; omega, fun e he => by
  simp only [List.mem_cons, List.not_mem_nil, or_false] at he
  rcases he with rfl | rfl
  · trivial
  · exact h⟩
end
section
variable {P : Program} {w : World} {K : PySem.W.Frag} {mg : Str → Option Value} {base : Heap} {C : Addr}
theorem el_lcT {K : PySem.W.Frag} {σ : L2.St} {H : Hp} {a : Addr} {xs : List V} {te tl : TE} {j : Nat} {vs : List Nat} {v : Nat → V} (h : Evl.Ev tl σ H (.ref a)) (hx : SqT K H a xs) (hz : xs.length ≤ 40000) (hw : ∀ x, wipe ((wipe σ vs).set j (some x)) vs = wipe σ vs)
    (he : ∀ (i : Nat) (x : V) H1, Ex H H1 → xs[i]? = some x → Evl.Ev te ((wipe σ vs).set j (some x)) H1 (v i)) : Evl.EvL (tLc (iTup K tl) (gName j) tYes te vs) σ H ((List.range xs.length).map v) := fun H0 e0 Q q => h H0 e0 _ fun H1 e1 => ⟨a, rfl, ⟨xs, Evl.ex_t (e0.trans e1) hx⟩, fun Dl hD =>
  lc_it (walk_tup (xs := xs)) (Cm H1 v Dl) (cm_0 hD) (fun i H2 _ p => Evl.ex_t ((e0.trans e1).trans p.2.1) hx) (fun i x H2 H3 hi p y => by
    obtain ⟨rfl, hx'⟩ := y
    refine ⟨hw x, ?_⟩
    exact yes_lc (A := fun H3 => te ((wipe σ vs).set j (some x)) H3 fun y H4 => ∃ acc, H4 Dl = some (.lst acc) ∧ acc.length < sizeLine ∧ Cm H1 v Dl (i + 1) (upd H4 Dl (.lst (acc ++ [y])))) (B := fun H3 => Cm H1 v Dl (i + 1) H3) <| cm_turn p (by omega) _ (Ex.refl _) (he i x _ (e0.trans e1) hx'))
    (fun H2 p => q Dl H2 (Evl.fresh_back e1 p.1) (e1.trans p.2.1) p.2.2)⟩
end
section
variable {K : PySem.W.Frag} {H H' H1 H2 : Hp} {σ : L2.St} {te tb ta tl tdue : TE} {D : Ends} {tz tr : TS} {T : List (Addr × Str)} {d : PyData} {v : V} {dn : Nat}
theorem paired4 {α : Type} {F : α → Kd → Prop} : ∀ {vs : List α} {ks : List Kd}, Paired F vs ks → vs.length = 4 → ∃ (vf : Nat → α) (kf : Nat → Kd), vs = [vf 0, vf 1, vf 2, vf 3] ∧ ks = [kf 0, kf 1, kf 2, kf 3] ∧ ∀ i, i < 4 → F (vf i) (kf i)
  | [a, b, c, d], [k0, k1, k2, k3], .cons h0 (.cons h1 (.cons h2 (.cons h3 .nil))), _ => ⟨fun i => match i with | 0 => a | 1 => b | 2 => c | _ => d, fun i => match i with | 0 => k0 | 1 => k1 | 2 => k2 | _ => k3, rfl, rfl, fun i hi => match i, hi with
    | 0, _ => h0
    | 1, _ => h1
    | 2, _ => h2
    | 3, _ => h3⟩
theorem get4 {α : Type} {f : Nat → α} : ∀ {i : Nat} {u : α}, i < 4 → [f 0, f 1, f 2, f 3][i]? = some u → u = f i
  | 0, _, _, h => (Option.some.inj h).symm
  | 1, _, _, h => (Option.some.inj h).symm
  | 2, _, _, h => (Option.some.inj h).symm
  | 3, _, _, h => (Option.some.inj h).symm
theorem dp_n (h : Dp K H v d) (e : LamX.ExtN H H') : Dp K H' v d := dp_to (sqto_of e) _ _ h
theorem Kdv.n {k : Kd} (h : Kdv K H dn v k) (e : LamX.ExtN H H') : Kdv K H' dn v k := ⟨dp_n h.1 e, h.2⟩
theorem dqa_ints : ∀ ns : List Int, DqAll K H (ns.map V.int) (ns.map PyData.int)
  | [] => .nil
  | a :: r => .cons (.int a) (dqa_ints r)
theorem evq_ints {ns : List Int} (h : Evl.EvL te σ H (ns.map V.int)) : EvQ K [] te σ H (.list (ns.map PyData.int)) := fun H1 e Q q => h H1 e _ fun p H2 hp e2 hx => q (.ref p) H2 e2 (by
  rw [w_nil]
  exact .lst (SqL.of hx) (dqa_ints ns))
theorem evq_ift {L : List Addr} {tc : TT} (ht : Evl.EvT tc σ H true) (h : EvQ K L ta σ H d) : EvQ K L (tIf tc ta tb) σ H d := fun H1 e Q q => ht H1 e _ fun H2 e2 => by
  show (if true = true then _ else _)
  simp only [if_true]
  exact h H2 (e.trans e2) Q fun x H3 e3 hk => q x H3 (e2.trans e3) hk
theorem evq_iff {L : List Addr} {tc : TT} (ht : Evl.EvT tc σ H false) (h : EvQ K L tb σ H d) : EvQ K L (tIf tc ta tb) σ H d := fun H1 e Q q => ht H1 e _ fun H2 e2 => by
  show (if false = true then _ else _)
  simp only [Bool.false_eq_true, if_false]
  exact h H2 (e.trans e2) Q fun x H3 e3 hk => q x H3 (e2.trans e3) hk
theorem evq_rep4 {L : List Addr} (hL : Hid L H) (h : EvQ K L te σ H d) : EvQ K L (tOp rRep (tLst (tCons te tNil)) (tC (.int 4))) σ H (.list [d, d, d, d]) := fun H1 e Q q => h H1 e _ fun v H2 e2 hv => ⟨by show 1 ≤ sizeLine; decide, fun p hp => ⟨p, 4, [v], rfl, rfl, upd_same, by decide, by decide, by show 4 ≤ sizeLine; decide, fun r hr => by
  have e3 := (Ex.new (o := .lst [v]) hp).trans (Ex.new (o := .lst [v, v, v, v]) hr)
  have hv3 := hv.up (w_ex (L := L) e3)
  exact q (.ref r) _ (e2.trans e3) (.lst (SqL.of (w_of (hid_not (hid_ex ((e.trans e2).trans (Ex.new hp)) hL) hr) upd_same)) (.cons hv3 (.cons hv3 (.cons hv3 (.cons hv3 .nil)))))⟩⟩
theorem sameq_ev (h1 : EvQ K [] te σ H d) (h2 : EvQ K [] tb σ H d) (hf : fits 5 d) : Evl.Ev (tCallD (spSameQ K 5) (tCons te (tCons tb tNil))) σ H (.bl true) := fun H1 e Q q =>
  h1 H1 e _ fun v H2 e2 hv => h2 H2 (e.trans e2) _ fun w H3 e3 hw => ⟨v, w, d, rfl, by
    have := hv.up (w_ex e3)
    rw [w_nil] at this
    exact this, by
    rw [w_nil] at hw
    exact hw, hf, fun H4 e4 => q H4 ((e2.trans e3).trans e4)⟩
theorem s_sameQ (h : EndQ K [] T tl σ H d) (hd : ∀ H1, LamX.ExtN H H1 → EvQ K [] tdue σ H1 d) (hf : fits 5 d) (k : ∀ H1, LamX.ExtN H H1 → LamX.Tabs T H1 → D.nx σ H1) : tIfS (tNot (tB (tCallD (spSameQ K 5) (tCons tl (tCons tdue tNil))))) tr tNext D σ H := by
  refine h _ fun v H1 e1 t1 hv => ?_
  refine hd H1 e1 H1 (Ex.refl _) _ fun u H2 e2 hu => ?_
  rw [w_nil] at hu hv
  refine ⟨v, u, d, rfl, hv.up e2, hu, hf, fun H3 e3 => ⟨true, rfl, ?_⟩⟩
  refine ite2 (fun z => nomatch z) (fun _ => ?_)
  exact k H3 (e1.trans (ExtN_of (e2.trans e3))) (t1.ext (e2.trans e3))
theorem q_sameQ (h : EndQ K [] T tl σ H d) (hd : ∀ H1, LamX.ExtN H H1 → EvQ K [] tdue σ H1 d) (hf : fits 5 d) (k : ∀ H1, LamX.ExtN H H1 → LamX.Tabs T H1 → tz D σ H1) : tSeq (tIfS (tNot (tB (tCallD (spSameQ K 5) (tCons tl (tCons tdue tNil))))) tr tNext) tz D σ H := s_sameQ (D := { D with nx := tz D }) h hd hf k
/-- a comprehension over a new tuple -/
theorem el_new {ta : TA} {j m : Nat} {vs : List Nat} {vv : Nat → V} (h : ∀ H1, Ex H H1 → ∀ Q : List V → Hp → Prop, (∀ xs H2, Ex H1 H2 → xs.length = m → (∀ i x H3, Ex H2 H3 → xs[i]? = some x → Evl.Ev te ((wipe σ vs).set j (some x)) H3 (vv i)) → Q xs H2) → ta σ H1 Q) (hz : m ≤ 40000)
    (hw : ∀ x, wipe ((wipe σ vs).set j (some x)) vs = wipe σ vs) : Evl.EvL (tLc (iTup K (tTup ta)) (gName j) tYes te vs) σ H ((List.range m).map vv) := fun H1 e1 Q q => h H1 e1 _ fun xs H2 e2 hl he => ⟨Evl.sz_of (by omega), fun p hp => by
  have z := el_lcT (K := K) (σ := σ) (te := te) (j := j) (vs := vs) (v := vv) (tl := tC (.ref p)) (H := upd H2 p (.tup xs)) (a := p) (xs := xs) Evl.ev_c (SqT.of upd_same) (by omega) hw (fun i x H3 e3 hx => he i x H3 ((Ex.new hp).trans e3) hx)
  rw [hl] at z
  exact z _ (Ex.refl _) Q fun r H3 hr e3 hx => q r H3 (Evl.fresh_back (e2.trans (Ex.new hp)) hr) (e2.trans ((Ex.new hp).trans e3)) hx⟩
end
section
variable {K : PySem.W.Frag} {mg : Str → Option Value} {c : KC} {H H' H1 H2 : Hp} {σ : L2.St} {te tb ta : TE} {k m : Kd} {x : Addr} {dn : Nat}
/-- evaluates to some instance of the kind -/
def EvI (c : KC) (te : TE) (σ : L2.St) (H : Hp) (k : Kd) : Prop := ∀ H1, Ex H H1 → ∀ Q : VK, (∀ x H2, Ex H1 H2 → Kin c H2 k x → Q (.ref x) H2) → te σ H1 Q
theorem EvK.i (h : EvK c [] te σ H k) : EvI c te σ H k := fun H1 e Q q => h H1 e _ fun x H2 _ e2 hk => q x H2 e2 (by rw [w_nil] at hk; exact hk)
theorem evi_of (h : Evl.Ev te σ H (.ref x)) (hk : Kin c H k x) : EvI c te σ H k := fun H1 e Q q => h H1 e _ fun H2 e2 => q x H2 e2 (hk.up (e.trans e2))
theorem evi_inv (h : EvI c te σ H k) : EvI c (tK1 c (spInv K c) te) σ H (.no k) := fun H1 e Q q => by
  refine ⟨kiOf k, trivial, h H1 e _ fun y H2 e2 hk => ?_⟩
  obtain ⟨d1, f1, y1, _⟩ := hk.ins
  exact ⟨y, d1, f1, rfl, y1, y, k, [], rfl, (fun _ m => nomatch m), by rw [w_nil]; exact hk, fun z H' hz e' hz2 => q z H' (e2.trans e') (by rw [w_nil] at hz2; exact hz2)⟩
theorem ev_fldI (S : KCl K c) (h : EvI c te σ H k) : Evl.Ev (tFld K te "places") σ H (.int (placesK k)) := fun H1 e Q q => h H1 e _ fun y H2 e2 hk => by
  obtain ⟨d1, f1, y1, l1⟩ := hk.ins
  exact ⟨y, _, d1, f1, _, rfl, y1, S.cl _, S.na _ _ (by decide), l1, q H2 e2⟩
theorem ev_keqI (S : KEq K mg c) {g : Bool → Bool} (h : EvI c ta σ H k) (h2 : EvI c tb σ H m) (hn : depK k ≤ dn) : Evl.Ev (tKeq K c dn g ta tb) σ H (.bl (g (decide (k = m)))) := fun H1 e Q q => by
  refine ⟨kiOf k, trivial, h H1 e _ fun y H2 e2 hk => h2 H2 (e.trans e2) _ fun z H3 e3 hm => ?_⟩
  have hk3 := hk.up e3
  obtain ⟨dx, fs, hx, _⟩ := hk3.ins
  have ho : Oth K c H3 (.ref z) (some m) := ⟨z, rfl, hm⟩
  obtain ⟨t, h1, h4, _⟩ := ho.ty S
  exact ⟨y, dx, fs, t, rfl, hx, h1, h4 _, y, k, .ref z, some m, rfl, hk3, rfl, hn, ho, fun H4 e4 => ⟨_, rfl, q H4 ((e2.trans e3).trans e4)⟩⟩
theorem evi_built {v : V} {p : Int} (h : Evl.Ev te σ H v) (hv : Dp K H v (kdD k)) (hok : okK p k) (p1 : 1 ≤ p) (p3 : p ≤ 3) (hdep : depK k ≤ dn) : EvI c (tCallD (spBuilt K c dn) (tCons te tNil)) σ H k := EvK.i (ev_built (n := dn) h (fun _ m => nomatch m) (by rw [w_nil]; exact hv) hok p1 p3 hdep)
/-- == of kinds, as a test -/
def tKeqT (K : PySem.W.Frag) (c : KC) (n : Nat) (g : Bool → Bool) (ta tb : TE) : TT := fun σ H Q => ∃ i : KI, tTest (tOp (rOwnQ K (c i) (spKEq K c n i) g) ta tb) σ H Q
theorem pt_keq {X : Cx} {j : Nat} {a b : Expr} {pos : Pos} (M : EqM X.prog X.w X.K X.mg X.base c dn) (hr : Room j X.A) (hj : dn + 1 ≤ j) (ha : PE X a ta) (hb : PE X b tb) : PT X (.Compare a [.Eq] [b] pos) (tKeqT X.K c dn id ta tb) := ⟨fun pins s σ H Q I ⟨i, q⟩ => by
  obtain ⟨l, f, fd, hl, F, e, hB⟩ := M i
  exact (pt_cmpR (op_eqOwn F (hr.mono (by omega)) e hB) ha hb (nomark _)).run pins s σ H Q I q⟩
theorem et_keq {g : Bool → Bool} {b : Bool} (h : Evl.Ev (tKeq K c dn g ta tb) σ H (.bl b)) : Evl.EvT (tKeqT K c dn g ta tb) σ H b := fun H1 e Q q => by
  obtain ⟨i, _, z⟩ := h H1 e (fun v H' => ∃ b, v = .bl b ∧ Q b H') fun H2 e2 => ⟨b, rfl, q H2 e2⟩
  exact ⟨i, z⟩
theorem ev_neD {v w : V} {d e : PyData} (h : Evl.Ev ta σ H v) (h2 : Evl.Ev tb σ H w) (hd : Dp K H v d) (he : Dp K H w e) (sd : SeqAt.shaped d = true) (se : SeqAt.shaped e = true) : Evl.Ev (tOp (rNeD K) ta tb) σ H (.bl (!PyData.eqv d e)) := fun H1 e1 Q q =>
  h H1 e1 _ fun H2 e2 => h2 H2 (e1.trans e2) _ fun H3 e3 => ⟨d, e, Dp.up hd ((e1.trans e2).trans e3), Dp.up he ((e1.trans e2).trans e3), sd, se, q H3 (e2.trans e3)⟩
/-- four kinds and what is said of them -/
structure Stand (K : PySem.W.Frag) (c : KC) (p r : Addr) (vf : Nat → V) (kf : Nat → Kd) (xf : Nat → Addr) (H : Hp) : Prop where
  kd : ∀ i, i < 4 → Kdv K H 2 (vf i) (kf i)
  ki : ∀ i, i < 4 → Kin c H (kf i) (xf i)
  hp : H p = some (.lst [vf 0, vf 1, vf 2, vf 3])
  hr : H r = some (.lst [.ref (xf 0), .ref (xf 1), .ref (xf 2), .ref (xf 3)])
theorem Stand.n {p r : Addr} {vf : Nat → V} {kf : Nat → Kd} {xf : Nat → Addr} (s : Stand K c p r vf kf xf H) (e : LamX.ExtN H H') : Stand K c p r vf kf xf H' :=
  ⟨fun i hi => (s.kd i hi).n e, fun i hi => (s.ki i hi).n e, e _ _ s.hp (fun _ z => by cases z), e _ _ s.hr (fun _ z => by cases z)⟩
theorem isMo_odd {d : PyData} (h : d ∈ ([.int 7, .int (-1), .none, .bool false, .bool true, .str "2", .tuple [.int 1], .list [], .int (10 ^ 20), .dict []] : List PyData)) : isMo d = false ∧ fits 3 d := by
  simp only [List.mem_cons, List.not_mem_nil, or_false] at h
  rcases h with rfl | rfl | rfl | rfl | rfl | rfl | rfl | rfl | rfl | rfl
  · exact ⟨rfl, trivial⟩
  · exact ⟨rfl, trivial⟩
  · exact ⟨rfl, trivial⟩
  · exact ⟨rfl, trivial⟩
  · exact ⟨rfl, trivial⟩
  · exact ⟨rfl, trivial⟩
  · exact ⟨rfl, by show 1 ≤ 40000; omega, fun e he => by rw [List.mem_singleton.mp he]; trivial⟩
  · exact ⟨rfl, Nat.zero_le _, fun _ h => nomatch h⟩
  · exact ⟨by decide +kernel, trivial⟩
  · exact ⟨rfl, rfl⟩
theorem fld_badT {E : XK} {kk : VK} {f : Str} {v : V} {d : PyData} {CM C : Addr} (h : Evl.Ev te σ H v) (hd : Dq K H v d) (hN : isMo d = false) (hE : ErrE CM "most" v H E) : tFld K (tMake C (spITX K CM C) [] E (tCons te tNil)) f σ H kk :=
  h H (Ex.refl _) _ fun H1 e1 => fun x dx hx hdx ne => .inr ⟨x, v, d, rfl, hd.up (e1.trans (mk_eNN (C := C) hx hdx ne)), hN, hE.ex (e1.trans (mk_eNN (C := C) hx hdx ne))⟩
theorem due_fits (k m : Kd) : fits 5 (.list [dueK k m, dueK k m, dueK k m]) := by
  have h : fits 4 (dueK k m) := by
    unfold dueK
    split
    · exact ⟨by show 2 ≤ 40000; omega, fun e he => by
        simp only [List.mem_cons, List.not_mem_nil, or_false] at he
        rcases he with rfl | rfl <;> trivial⟩
    · exact ⟨by show 2 ≤ 40000; omega, fun e he => by
        simp only [List.mem_cons, List.not_mem_nil, or_false] at he
        rcases he with rfl | rfl <;> trivial⟩
  exact ⟨by show 3 ≤ 40000; omega, fun e he => by
    simp only [List.mem_cons, List.not_mem_nil, or_false] at he
    rcases he with rfl | rfl | rfl <;> exact h⟩
end
section
variable {K : PySem.W.Frag} {c : KC}
/-- the specs are drawn -/
theorem q_specs {l : Addr} {n : Nat} {o0 o1 o3 o4 o5 o6 o7 o8 o9 o10 o11 o12 o13 o14 : Option V} {H : Hp} {D : Ends} {tz : TS} (hd : Dr n H l) (hn : n ≤ 1000)
    (k : ∀ p vs ks H', p ≠ l → H p = none → ExB l H H' → Dr (n + 160) H' l → vs.length = 4 → Paired (Kdv K (W [p, l] H') 2) vs ks → H' p = some (.lst vs) → tz D [o0, o1, some (.ref l), some (.ref p), o4, o5, o6, o7, o8, o9, o10, o11, o12, o13, o14] H') :
    tSeq (tAsg (tLc (iRng1 (tCons (tC (V.int 4)) tNil)) (gName 12) tYes (tCallD (spJoint K 2) (tCons (tVar 2) (tCons (tOp (rI0 fun i j => V.int (i + j)) (tC (V.int 1)) (tCallD spDraw (tCons (tVar 2) (tCons (tC (V.int 3)) tNil)))) (tCons (tC (V.int 2)) tNil)))) [12]) (gName 3)) tz D [o0, o1, some (.ref l), o3, o4, o5, o6, o7, o8, o9, o10, o11, o12, o13, o14] H := by
  refine ⟨4, rfl, by decide, by decide, fun Dl hD => ?_⟩
  have hDl : Dl ≠ l := fun e => hd.ne (by rw [← e]; exact hD)
  let Pv : Nat → Hp → Prop := fun i H' => ExB l H H' ∧ Dr (n + 40 * i) H' l ∧ ∃ vs ks, vs.length = i ∧ Paired (Kdv K (W [Dl, l] H') 2) vs ks ∧ H' Dl = some (.lst vs)
  refine lc_range (lo := 0) (n := 4) Pv ⟨ExB.of (Ex.new hD), hd.ex (Ex.new hD), [], [], rfl, .nil, upd_same⟩ (fun i H2 hi pv => ?_) (fun H2 pv => ?_)
  · obtain ⟨e2, hd2, vs, ks, hvs, hp, hl2⟩ := pv
    refine ⟨rfl, ?_⟩
    refine yes_lc (B := fun H3 => Pv (i + 1) H3) ?_
    refine ⟨_, rfl, ?_⟩
    refine draw_runJ (j := 2) (n := n + 40 * i) (many := 3) (by rfl) hd2 (by omega) Evl.ev_c (by decide) (by decide) fun r H3 r0 r1 hd3 b3 => ?_
    have h3 : H3 Dl = some (.lst vs) := b3 Dl _ hDl hl2
    have hid3 : Hid [Dl, l] H3 := fun a m => by
      rcases List.mem_cons.mp m with rfl | m
      · rw [h3]; simp
      · rw [List.mem_singleton.mp m]; exact hd3.ne
    refine ⟨_, _, rfl, rfl, l, 1 + r, n + 40 * i + 1, [Dl, l], rfl, hd3, by omega, by simp, hid3, by omega, by omega, fun v kd H4 b4 d4 ok dk hk => ?_⟩
    have h4 : H4 Dl = some (.lst vs) := b4 Dl _ hDl h3
    refine ⟨vs, h4, by rw [hvs, sizeLine_eq]; omega, ?_, ?_, vs ++ [v], ks ++ [kd], by rw [List.length_append, hvs]; rfl, ?_, upd_same⟩
    · intro b o hb hbo
      have nb : b ≠ Dl := ne_of_none hbo hD
      rw [upd_ne nb]
      exact b4 b o hb (b3 b o hb (e2 b o hb hbo))
    · obtain ⟨x, y, z, q1, q2⟩ := d4
      exact Dr.up ⟨x, y, z, by rw [upd_ne (Ne.symm hDl)]; exact q1, q2⟩ (by omega)
    · rw [w_upd_in (by simp)]
      exact paired_snoc (paired_imp hp fun x y q => q.up ((b3.w (by simp)).trans (b4.w (by simp)))) ⟨hk, ⟨_, ok, by omega, by omega⟩, dk⟩
  · obtain ⟨e2, hd2, vs, ks, hvs, hp, hl2⟩ := pv
    exact k Dl vs ks H2 hDl hD e2 hd2 hvs hp hl2
/-- the kinds are built -/
theorem q_kinds {q : Addr} {o0 o1 o2 o4 o5 o6 o7 o8 o9 o10 o11 o12 o13 o14 : Option V} {H : Hp} {D : Ends} {tz : TS} {us : List V} {js : List Kd} (hl : us.length = 4) (hp : Paired (Kdv K H 2) us js) (hx : H q = some (.lst us))
    (k : ∀ r (xs : List Addr) H', Ex H H' → Paired (fun (x : Addr) k => Kin c H' k x) xs js → H' r = some (.lst (xs.map V.ref)) → tz D [o0, o1, o2, some (.ref q), some (.ref r), o5, o6, o7, o8, o9, o10, o11, o12, o13, o14] H') :
    tSeq (tAsg (tLc (iList K (tVar 3)) (gName 6) tYes (tCallD (spBuilt K c 4) (tCons (tVar 6) tNil)) [6]) (gName 4)) tz D [o0, o1, o2, some (.ref q), o4, o5, o6, o7, o8, o9, o10, o11, o12, o13, o14] H := by
  refine ⟨_, rfl, q, rfl, ⟨us, SqL.of hx⟩, fun Dl hD => ?_⟩
  have hDp : Dl ≠ q := fun e => by
    rw [e, hx] at hD
    cases hD
  let Pv : Nat → Hp → Prop := fun i H' => Ex H H' ∧ ∃ xs : List Addr, xs.length = i ∧ (∀ (j : Nat) (x : Addr), xs[j]? = some x → ∃ k, js[j]? = some k ∧ Kin c (W [Dl] H') k x) ∧ H' Dl = some (.lst (xs.map V.ref))
  refine lc_list (xs := us) Pv ⟨Ex.new hD, [], rfl, (fun j x z => by simp at z), upd_same⟩ (fun i H2 hi pv => SqL.of (pv.1 q _ hx)) (fun i v H2 hi pv => ?_) (fun H2 pv => ?_)
  · obtain ⟨e2, xs, hxs, hk, hl2⟩ := pv
    obtain ⟨kd, hkd, hk1, ⟨p, ok, p1, p3⟩, hdk⟩ := LiI.paired_get hp hi
    refine ⟨rfl, ?_⟩
    refine yes_lc (B := fun H3 => Pv (i + 1) H3) ?_
    have eW : Ex H (W [Dl] H2) := fun a o h => w_of (by
      have : a ≠ Dl := ne_of_none h hD
      simp [this]) (e2 a o h)
    have hid2 : Hid [Dl] H2 := fun a m => by
      rw [List.mem_singleton.mp m, hl2]
      simp
    refine ⟨_, rfl, v, kd, p, [Dl], rfl, hid2, hk1.up eW, ok, p1, p3, by omega, fun x H3 hx3 e3 kin => ?_⟩
    refine ⟨xs.map V.ref, e3 _ _ hl2, by
      have : i < 4 := by rw [← hl]; exact (List.getElem?_eq_some_iff.mp hi).1
      rw [List.length_map, hxs, sizeLine_eq]; omega, ?_, xs ++ [x], by rw [List.length_append, hxs]; rfl, fun j y hj => ?_, by rw [upd_same, List.map_append]; rfl⟩
    · intro b o hbo
      have nb : b ≠ Dl := ne_of_none hbo hD
      rw [upd_ne nb]
      exact e3 _ _ (e2 b o hbo)
    · rw [w_upd_in (by simp)]
      rcases Nat.lt_trichotomy j xs.length with g | g | g
      · rw [List.getElem?_append_left g] at hj
        obtain ⟨k', q1, q2⟩ := hk j y hj
        exact ⟨k', q1, q2.up (w_ex e3)⟩
      · subst g
        have : x = y := by simpa using hj
        subst this
        exact ⟨kd, by rw [hxs]; exact hkd, kin⟩
      · rw [List.getElem?_eq_none (by rw [List.length_append, List.length_singleton]; omega)] at hj
        cases hj
  · obtain ⟨e2, xs, hxs, hk, hl2⟩ := pv
    have hjl : xs.length = js.length := hxs.trans (Paired.length hp)
    have go : ∀ (xs : List Addr) (js : List Kd), xs.length = js.length → (∀ (j : Nat) (x : Addr), xs[j]? = some x → ∃ k, js[j]? = some k ∧ Kin c (W [Dl] H2) k x) → Paired (fun (x : Addr) k => Kin c H2 k x) xs js := by
      intro xs
      induction xs with
      | nil =>
        intro js e _
        cases js with
        | nil => exact .nil
        | cons _ _ => cases e
      | cons x xs ih =>
        intro js e q
        cases js with
        | nil => cases e
        | cons k js =>
          obtain ⟨k', q1, q2⟩ := q 0 x rfl
          have : k = k' := by simpa using q1
          subst this
          exact .cons (q2.up w_sub) (ih js (Nat.succ.inj e) fun j y hy => q (j + 1) y (by simpa using hy))
    exact k Dl xs H2 e2 (go xs js hjl hk) hl2
end
end U

set_option Elab.async false
set_option linter.all false
set_option maxRecDepth 100000
set_option maxHeartbeats 4000000
/-! the law -/
namespace U
open PySem PySem.Spec PyProof.Rows L2
open Evl (Ex)
open C8 (Met Mak pe_mt pe_mt0 pe_mk)
abbrev s_law : Stmt := top 36
abbrev sc_law_N : List Str := ["_law_script", "_law_turn", "_law_draws", "_law_specs", "_law_kinds", "_law_one", "_law_spec_here", "_law_two", "_law_other", "_law_due", "_law_odd", "_law_most", "_law_k", "_law_kind", "_law_thing"]
theorem sc_law : FnScope sc_law_N ["_law_script"] (defScope s_law) := ⟨rfl, rfl, rfl, by decide +kernel, rfl, by decide +kernel, by decide +kernel⟩
structure TxL (mg : Str → Option Value) : Prop extends TxR mg where
  m_any : mg "any" = none
abbrev lawQ : Str := (envOfC "law" (defScope s_law) 0 0 .none).qual ++ "<lambda>"
section
variable {P : Program} {w : World} {K : PySem.W.Frag} {mg : Str → Option Value} {base : Heap} {c : KC} {CP CM CU : Addr}
theorem law_try {f cA PT : Addr} {TT : List (Addr × Str)} {A : Around} {outer : List Env} {E : XK} {s : Shared} {H : Hp} {a : Addr} {ns : List Int} {Q0 : VK} (T : TxL mg) (S : KCl K c) (NE : KEq K mg c) (M : ExM K CP CM CU) (hr : Room 14 (A.deeper (envOfC "law" (defScope s_law) s.heap.objs.size f (.ref cA))))
    (DE : EndL P w K mg base CP CM CU) (TBl : LamX.TabB base mg cA PT) (hmT : (PT, lawQ) ∈ TT) (hu : ∀ p ∈ TT, p.1 = PT → p.2 = lawQ) (EM : EqM P w K mg base c 4) (N : KMk P w K mg base c) (O : KOp P w K mg base c) (N_TurnsX : MakX P w K mg base 4 "Turns" (c .tu) (spITX K CM (c .tu)) [])
    (D_source : DefAt P w K mg base "_law_source" 1 ["_law_script", "_law_at"] (spSource K)) (D_draw : DefAt P w K mg base "_law_draw" 1 ["_law_draws", "_law_many"] spDraw) (D_pick : DefAt P w K mg base "_law_pick" 2 ["_law_draws", "_law_things"] (spPickV K))
    (D_spec : DefAt P w K mg base "_law_spec" 8 ["_law_draws", "_law_places_here", "_law_deep"] (spJoint K 2)) (D_built : DefAt P w K mg base "_law_built" 11 ["_law_spec_here"] (spBuilt K c 4)) (D_places : DefAt P w K mg base "_law_places" 5 ["_law_spec_here"] (spPl K 4))
    (D_same : DefAt P w K mg base "_law_same" 6 ["_law_found", "_law_due"] (spSameQ K 5)) (D_ends : DefAt P w K mg base "_law_ends" 9 ["_law_one", "_law_other"] (spEnds K c TT)) (D_refused : DefAt P w K mg base "_law_refused" 9 ["_law_odd"] (spRefused K TT))
    (hS : SqL K H a (ns.map V.int)) (hlen : ns.length ≤ 63) (ht0 : LamX.Tabs TT H) (k0 : ∀ H', Q0 (.bl true) H') :
    ∃ t, PSs (cxOf CX0 P w K mg base sc_law_N "law" (defScope s_law) f (.ref cA) A outer s H E).nox (defBody s_law) t ∧
        t { nx := fun _ H' => Q0 .non H', rt := Q0 } (L2.start sc_law_N [V.ref a]) H := by
  refine ⟨_, (pss_cons (ps_for PassesOwn.never rfl (pi_range1 (by rfl) T.m_range (pa_cons pe_int pa_nil)) (pg_name (i := 1) sc_law.nd rfl (by first | exact Or.inl rfl | exact Or.inr rfl))
      (pss_cons (ps_set (i := 2) sc_law.nd rfl (by first | exact Or.inl rfl | exact Or.inr rfl) (pe_callD D_source (by first | exact hr | exact hr.mono (by decide) | exact hr.mono (by omega)) (by rfl) (pa_cons (pv 0) (pa_cons (pv 1) pa_nil))))
      (pss_cons (ps_setLc (i := 3) (own := [("_law_k", 12)]) (g := gName 12) (tt := tYes) (by rfl) sc_law.nd rfl rfl (sw_true rfl rfl rfl (by decide +kernel)) (pi_range1 (by rfl) T.m_range (pa_cons pe_int pa_nil)) (blkOk_by (N := sc_law_N) (sc := defScope s_law) (by decide +kernel)) (fun _ _ _ _ _ => (pg_name (i := 12) sc_law.nd rfl (by first | exact Or.inl rfl | exact Or.inr rfl))) (fun _ _ _ _ _ => pts_nil) (fun _ _ _ _ _ => (pe_callD D_spec (by first | exact hr | exact hr.mono (by decide) | exact hr.mono (by omega)) (by rfl) (pa_cons (pv 2) (pa_cons (pe_op op_add pe_int (pe_callD D_draw (by first | exact hr | exact hr.mono (by decide) | exact hr.mono (by omega)) (by rfl) (pa_cons (pv 2) (pa_cons pe_int pa_nil)))) (pa_cons pe_int pa_nil))))))
      (pss_cons (ps_setLc (i := 4) (own := [("_law_spec_here", 6)]) (g := gName 6) (tt := tYes) (by rfl) sc_law.nd rfl rfl (sw_true rfl rfl rfl (by decide +kernel)) (pi_list (pv 3)) (blkOk_by (N := sc_law_N) (sc := defScope s_law) (by decide +kernel)) (fun _ _ _ _ _ => (pg_name (i := 6) sc_law.nd rfl (by first | exact Or.inl rfl | exact Or.inr rfl))) (fun _ _ _ _ _ => pts_nil) (fun _ _ _ _ _ => (pe_callD D_built (by first | exact hr | exact hr.mono (by decide) | exact hr.mono (by omega)) (by rfl) (pa_cons (pv 6) pa_nil))))
      (pss_cons (ps_if (pt_not (pt_val (pe_callD D_same (by first | exact hr | exact hr.mono (by decide) | exact hr.mono (by omega)) (by rfl) (pa_cons (pe_lc (own := [("_law_kind", 13)]) (g := gName 13) (tt := tYes) (te := tFld K (tVar 13) "places") (by rfl) sc_law.nd (pi_list (pv 4)) (blkOk_by (N := sc_law_N) (sc := defScope s_law) (by decide +kernel)) (fun _ _ _ _ _ => (pg_name (i := 13) sc_law.nd rfl (by first | exact Or.inl rfl | exact Or.inr rfl))) (fun _ _ _ _ _ => pts_nil) (fun _ _ _ _ _ => (pe_fld (pv 13) rfl))) (pa_cons (pe_lc (own := [("_law_spec_here", 6)]) (g := gName 6) (tt := tYes) (by rfl) sc_law.nd (pi_list (pv 3)) (blkOk_by (N := sc_law_N) (sc := defScope s_law) (by decide +kernel)) (fun _ _ _ _ _ => (pg_name (i := 6) sc_law.nd rfl (by first | exact Or.inl rfl | exact Or.inr rfl))) (fun _ _ _ _ _ => pts_nil) (fun _ _ _ _ _ => (pe_callD D_places (by first | exact hr | exact hr.mono (by decide) | exact hr.mono (by omega)) (by rfl) (pa_cons (pv 6) pa_nil)))) pa_nil))))) (pss_one (ps_ret pe_bl)) pss_nil)
      (pss_cons (ps_for PassesOwn.never rfl (RZ.pi_zipA (by rfl) T.m_zip (pa_cons (pv 4) (pa_cons (pv 3) pa_nil))) (pg_tup (by rfl) (pgs_cons (pg_name (i := 5) sc_law.nd rfl (by first | exact Or.inl rfl | exact Or.inr rfl)) (pgs_cons (pg_name (i := 6) sc_law.nd rfl (by first | exact Or.inl rfl | exact Or.inr rfl)) pgs_nil)))
        (pss_cons (ps_for PassesOwn.never rfl (RZ.pi_zipA (by rfl) T.m_zip (pa_cons (pv 4) (pa_cons (pv 3) pa_nil))) (pg_tup (by rfl) (pgs_cons (pg_name (i := 7) sc_law.nd rfl (by first | exact Or.inl rfl | exact Or.inr rfl)) (pgs_cons (pg_name (i := 8) sc_law.nd rfl (by first | exact Or.inl rfl | exact Or.inr rfl)) pgs_nil)))
          (pss_cons (ps_if (PW.pt (pw_or (pt_cmpR op_ne (pe_keq EM hr (by omega) (pv 5) (pv 7)) (pe_cmpR (op_eqD hr.units) (pv 6) (pv 8) (nomark _)) (nomark _)) (pw_or1 (pt_cmpR op_ne (pe_kne EM hr (by omega) (pv 5) (pv 7)) (pe_cmpR (op_neD hr.units) (pv 6) (pv 8) (nomark _)) (nomark _))))) (pss_one (ps_ret pe_bl)) pss_nil)
          (pss_cons (ps_set (i := 9) sc_law.nd rfl (by first | exact Or.inl rfl | exact Or.inr rfl) (pe_ifExp (pt_cmpR op_eq (pe_fld (pv 5) rfl) (pe_fld (pv 7) rfl) (nomark _)) (pe_tup (pa_cons pe_str (pa_cons (pe_fld (pv 5) rfl) pa_nil))) (pe_tup (pa_cons pe_str (pa_cons pe_non pa_nil)))))
          (pss_one (ps_if (pt_not (pt_val (pe_callD D_same (by first | exact hr | exact hr.mono (by decide) | exact hr.mono (by omega)) (by rfl) (pa_cons (pe_callD D_ends (by first | exact hr | exact hr.mono (by decide) | exact hr.mono (by omega)) (by rfl) (pa_cons (pv 5) (pa_cons (pv 7) pa_nil))) (pa_cons (pe_lst (pa_cons (pv 9) (pa_cons (pv 9) (pa_cons (pv 9) pa_nil)))) pa_nil))))) (pss_one (ps_ret pe_bl)) pss_nil)))))
        (pss_cons (ps_if (PW.pt (pw_or (pt_not (pt_keq EM hr (by omega) (pv 5) (pe_callD D_built (hr.mono (by omega)) (by rfl) (pa_cons (pv 6) pa_nil)))) (pw_or1 (pt_val (pe_callB (cr_any rfl) (by rfl) T.m_any (by decide +kernel) (pa_cons (pe_lc (own := [("_law_thing", 14)]) (g := gName 14) (tt := tYes) (te := tKeq K c 4 id (tVar 5) (tVar 14)) (by rfl) sc_law.nd (pi_tup (pe_tup (pa_cons pe_non (pa_cons pe_int (pa_cons (pv 6) (pa_cons pe_str (pa_cons (pe_lst (pa_cons (pv 5) pa_nil)) pa_nil))))))) (blkOk_by (N := sc_law_N) (sc := defScope s_law) (by decide +kernel)) (fun _ _ _ _ _ => (pg_name (i := 14) sc_law.nd rfl (by first | exact Or.inl rfl | exact Or.inr rfl))) (fun _ _ _ _ _ => pts_nil) (fun _ _ _ _ _ => (pe_keq EM hr (by omega) (pv 5) (pv 14)))) pa_nil)))))) (pss_one (ps_ret pe_bl)) pss_nil)
        (pss_one (ps_if (PW.pt (pw_or (pt_cmpR op_ne (pe_fld (pe_k1 O.inv hr (by omega) (pv 5)) rfl) (pe_fld (pv 5) rfl) (nomark _)) (pw_or (pt_keq EM hr (by omega) (pe_k1 O.inv hr (by omega) (pv 5)) (pv 5)) (pw_or1 (pt_not (pt_keq EM hr (by omega) (pe_k1 O.inv hr (by omega) (pv 5)) (pe_k1 O.inv hr (by omega) (pe_callD D_built (hr.mono (by omega)) (by rfl) (pa_cons (pv 6) pa_nil))))))))) (pss_one (ps_ret pe_bl)) pss_nil)))))
      (pss_cons (ps_set (i := 10) sc_law.nd rfl (by first | exact Or.inl rfl | exact Or.inr rfl) (pe_callD D_pick (by first | exact hr | exact hr.mono (by decide) | exact hr.mono (by omega)) (by rfl) (pa_cons (pv 2) (pa_cons (pe_lst (pa_cons pe_int (pa_cons pe_int (pa_cons (pe_un un_neg pe_int) (pa_cons pe_non (pa_cons pe_bl (pa_cons pe_str (pa_cons (pe_tup (pa_cons pe_int pa_nil)) (pa_cons (pe_lst pa_nil) (pa_cons (pe_op op_pow pe_int pe_int) (pa_cons (pe_dnewK) pa_nil))))))))))) pa_nil))))
      (pss_cons (ps_if (pt_not (pt_val (pe_callD D_same (by first | exact hr | exact hr.mono (by decide) | exact hr.mono (by omega)) (by rfl) (pa_cons (pe_callD D_refused (by first | exact hr | exact hr.mono (by decide) | exact hr.mono (by omega)) (by rfl) (pa_cons (pv 10) pa_nil)) (pa_cons (pe_op op_rep (pe_lst (pa_cons (pe_tup (pa_cons pe_str (pa_cons (pv 10) pa_nil))) pa_nil)) pe_int) pa_nil))))) (pss_one (ps_ret pe_bl)) pss_nil)
      (pss_cons (ps_set (i := 10) sc_law.nd rfl (by first | exact Or.inl rfl | exact Or.inr rfl) (pe_callD D_pick (by first | exact hr | exact hr.mono (by decide) | exact hr.mono (by omega)) (by rfl) (pa_cons (pv 2) (pa_cons (pe_lst (pa_cons pe_int (pa_cons (pe_un un_neg pe_int) (pa_cons pe_non (pa_cons pe_bl (pa_cons pe_bl (pa_cons pe_str (pa_cons (pe_tup (pa_cons pe_int pa_nil)) (pa_cons (pe_lst pa_nil) (pa_cons (pe_op op_pow pe_int pe_int) (pa_cons (pe_dnewK) pa_nil))))))))))) pa_nil))))
      (pss_cons (ps_if (pt_not (pt_val (pe_callD D_same (by first | exact hr | exact hr.mono (by decide) | exact hr.mono (by omega)) (by rfl) (pa_cons (pe_end (k := 6) (t := fun E => tFld K (tMake (c .tu) (spITX K CM (c .tu)) [] E (tCons (tVar 10) tNil)) "places") DE TBl (by rfl) rfl hmT hu (hr.mono (by omega)) (LamX.lamS_by (sc := defScope s_law) (by decide +kernel)) (fun A outer s H E f c' hr2 => pe_fld (pe_mkX N_TurnsX hr2 (by decide) (Passes.of (takes_of rfl rfl rfl rfl)) (by rfl) (pa_cons (pv 10) pa_nil)) rfl)) (pa_cons (pe_tup (pa_cons pe_str (pa_cons (pv 10) pa_nil))) pa_nil))))) (pss_one (ps_ret pe_bl)) pss_nil)
      (pss_cons (ps_set (i := 11) sc_law.nd rfl (by first | exact Or.inl rfl | exact Or.inr rfl) (pe_callD D_draw (by first | exact hr | exact hr.mono (by decide) | exact hr.mono (by omega)) (by rfl) (pa_cons (pv 2) (pa_cons pe_int pa_nil))))
      (pss_one (ps_if (PW.pt (pw_or (pt_cmpR op_ne (pe_fld (pe_mk N.tu hr (by omega) (by rfl) (pa_cons (pv 11) pa_nil)) rfl) pe_int (nomark _)) (pw_or1 (pt_cmpR op_ne (pe_keq EM hr (by omega) (pe_mk N.tu hr (by omega) (by rfl) (pa_cons (pv 11) pa_nil)) (pe_mk N.tu hr (by omega) (by rfl) (pa_cons pe_int pa_nil))) (pe_cmpR op_eq (pv 11) pe_int (nomark _)) (nomark _))))) (pss_one (ps_ret pe_bl)) pss_nil)))))))))))))
    (pss_one (ps_ret pe_bl))), ?_⟩
  refine Evl.q_forR1 (n := 5) (Evl.ea_cons Evl.ev_c Evl.ea_nil) (by decide) (fun _ σ' H' => LamX.ExtN H H' ∧ LamX.Tabs TT H' ∧ ∃ o1 o2 o3 o4 o5 o6 o7 o8 o9 o10 o11 o12 o13 o14, σ' = [some (.ref a), o1, o2, o3, o4, o5, o6, o7, o8, o9, o10, o11, o12, o13, o14])
    (fun H1 e => ⟨LamX.ExtN.of e, ht0.ext e, _, _, _, _, _, _, _, _, _, _, _, _, _, _, rfl⟩) ?_ ?_
  · rintro i σ' H1 hi ⟨x1, t1, o1, o2, o3, o4, o5, o6, o7, o8, o9, o10, o11, o12, o13, o14, rfl⟩
    refine ⟨_, rfl, _, rfl, a, ns, i, rfl, (sqto_of x1).l _ _ hS, hlen, by omega, fun l o hl hd => ?_⟩
    have ml : l ∈ [l] := List.mem_singleton.mpr rfl
    have hid0 : ∀ H : Hp, Hid [] H := fun H a m => nomatch m
    have s2 : Sg TT l H 0 (upd H1 l o) := ⟨x1.trans (LamX.ExtN.of (Ex.new hl)), t1.ext (Ex.new hl), hd, ntb_of x1 hl⟩
    generalize upd H1 l o = H2 at hd s2 ⊢
    clear hd x1 t1
    -- what is said of four kinds
    refine q_specs (K := K) (l := l) (n := 0) s2.d (by decide) fun p vs ks H3 hpl hp0 b3 d3 hv hpk hpx => ?_
    have s3 := s2.b b3 d3
    obtain ⟨vf, kf, rfl, rfl, hkd⟩ := paired4 hpk hv
    have hkd3 : ∀ i, i < 4 → Kdv K H3 2 (vf i) (kf i) := fun i hi => (hkd i hi).up w_sub
    -- the kinds
    refine q_kinds (K := K) (c := c) (us := [vf 0, vf 1, vf 2, vf 3]) (js := [kf 0, kf 1, kf 2, kf 3]) rfl (.cons (hkd3 0 (by decide)) (.cons (hkd3 1 (by decide)) (.cons (hkd3 2 (by decide)) (.cons (hkd3 3 (by decide)) .nil)))) hpx fun r xs H4 e4 hkin hxr => ?_
    have s4 := s3.e e4
    obtain ⟨xf, kf', rfl, hk', hki⟩ := paired4 hkin (by have := Paired.length hkin; simpa using this)
    have stand : Stand K c p r vf kf xf H4 := ⟨fun i hi => (hkd3 i hi).up e4, fun i hi => by
      have q := hki i hi
      have z : kf' i = kf i := by
        simp only [List.cons.injEq, and_true] at hk'
        obtain ⟨z0, z1, z2, z3⟩ := hk'
        have ci : i = 0 ∨ i = 1 ∨ i = 2 ∨ i = 3 := by omega
        rcases ci with rfl | rfl | rfl | rfl
        · exact z0.symm
        · exact z1.symm
        · exact z2.symm
        · exact z3.symm
      rw [z] at q
      exact q, e4 _ _ hpx, hxr⟩
    clear hki hk' hkin hxr hkd hkd3 hpk hv hpx b3 d3 s3 s2 e4
    -- their places
    dsimp only [gName, List.set]
    refine Evl.q_when (b := false) (Evl.et_is (Evl.et_not (a := true) (Evl.et_B (sameq_ev (K := K) (d := .list (([placesK (kf 0), placesK (kf 1), placesK (kf 2), placesK (kf 3)] : List Int).map PyData.int)) (evq_ints ?pl1) (evq_ints ?pl2) ?plf))) rfl) (fun z => nomatch z) (fun _ H5 e5 => ?_)
    case plf =>
      exact ⟨by show 4 ≤ 40000; omega, fun e he => by
        simp only [List.map_cons, List.map_nil, List.mem_cons, List.not_mem_nil, or_false] at he
        rcases he with rfl | rfl | rfl | rfl <;> trivial⟩
    case pl1 =>
      show Evl.EvL _ _ _ (Evl.given 4 (fun _ => true) (fun i => V.int (placesK (kf i))))
      exact Evl.el_lcL (fun _ => true) (fun i => V.int (placesK (kf i))) (Evl.ev_var (v := .ref r) rfl) (SqL.of stand.hr) (by show 4 ≤ 40000; omega) (fun _ => rfl) (fun i z H1 e1 hz H2 e2 Q q => q H2 (Ex.refl _)) (fun i z H1 e1 hz _ => by
        have hi4 : i < 4 := (List.getElem?_eq_some_iff.mp hz).1
        have ez := get4 (f := fun i => V.ref (xf i)) hi4 hz
        exact ev_fldI S (evi_of (x := xf i) (Evl.ev_var (by rw [ez]; rfl)) ((stand.ki i hi4).up e1)))
    case pl2 =>
      show Evl.EvL _ _ _ (Evl.given 4 (fun _ => true) (fun i => V.int (placesK (kf i))))
      exact Evl.el_lcL (fun _ => true) (fun i => V.int (placesK (kf i))) (Evl.ev_var (v := .ref p) rfl) (SqL.of stand.hp) (by show 4 ≤ 40000; omega) (fun _ => rfl) (fun i z H1 e1 hz H2 e2 Q q => q H2 (Ex.refl _)) (fun i z H1 e1 hz _ => by
        have hi4 : i < 4 := (List.getElem?_eq_some_iff.mp hz).1
        have ez := get4 (f := vf) hi4 hz
        have kd := (stand.kd i hi4).up e1
        exact ev_pl (Evl.ev_var (v := vf i) (by rw [ez]; rfl)) kd.1 (by have := kd.2.2; omega))
    have s5 := s4.e e5
    replace stand := stand.n (ExtN_of e5)
    clear e5 s4
    -- each with each
    refine ⟨_, rfl, _, rfl, r, p, [.ref (xf 0), .ref (xf 1), .ref (xf 2), .ref (xf 3)], [vf 0, vf 1, vf 2, vf 3], rfl, .inl ⟨SqL.of stand.hr, SqL.of stand.hp, ?_⟩⟩
    refine for_it (walk_zip (n := 4) rfl) (fun _ σ' H' => LamX.ExtN H5 H' ∧ LamX.Tabs TT H' ∧ ∃ o5 o6 o7 o8 o9 o10 o11 o12 o13 o14, σ' = [some (.ref a), some (.int (i : Int)), some (.ref l), some (.ref p), some (.ref r), o5, o6, o7, o8, o9, o10, o11, o12, o13, o14]) ⟨LamX.ExtN.refl _, s5.t, _, _, _, _, _, _, _, _, _, _, rfl⟩
      (fun j σ' H' _ pv => ⟨SqL.of (stand.n pv.1).hr, SqL.of (stand.n pv.1).hp⟩) ?_ ?_
    · rintro j X σ' H6 H7 hj ⟨x6, t6, o5, o6, o7, o8, o9, o10, o11, o12, o13, o14, rfl⟩ ⟨T0, u, v, rfl, hT, rfl, hu1, hv1⟩
      obtain rfl := get4 (f := fun i => V.ref (xf i)) hj hu1
      obtain rfl := get4 (f := vf) hj hv1
      have x7 : LamX.ExtN H5 (upd H6 T0 (.tup [.ref (xf j), vf j])) := x6.trans (ExtN_of (Ex.new hT))
      have t7 := t6.ext (Ex.new (o := .tup [.ref (xf j), vf j]) hT)
      refine ⟨T0, [.ref (xf j), vf j], rfl, SqT.of upd_same, rfl, _, [vf j], rfl, vf j, [], rfl, rfl, ?_⟩
      dsimp only [gName, List.set]
      generalize upd H6 T0 (.tup [.ref (xf j), vf j]) = H7 at x7 t7 ⊢
      clear x6 t6 hT hu1 hv1
      have st7 := stand.n x7
      -- the inner loop
      refine ⟨_, rfl, _, rfl, r, p, [.ref (xf 0), .ref (xf 1), .ref (xf 2), .ref (xf 3)], [vf 0, vf 1, vf 2, vf 3], rfl, .inl ⟨SqL.of st7.hr, SqL.of st7.hp, ?_⟩⟩
      refine for_it (walk_zip (n := 4) rfl) (fun _ σ' H' => LamX.ExtN H7 H' ∧ LamX.Tabs TT H' ∧ ∃ o7 o8 o9, σ' = [some (.ref a), some (.int (i : Int)), some (.ref l), some (.ref p), some (.ref r), some (.ref (xf j)), some (vf j), o7, o8, o9, o10, o11, o12, o13, o14]) ⟨LamX.ExtN.refl _, t7, _, _, _, rfl⟩
        (fun j σ' H' _ pv => ⟨SqL.of (st7.n pv.1).hr, SqL.of (st7.n pv.1).hp⟩) ?_ ?_
      · rintro m X σ' H8 H9 hm ⟨x8, t8, o7, o8, o9, rfl⟩ ⟨T0, u, v, rfl, hT, rfl, hu1, hv1⟩
        obtain rfl := get4 (f := fun i => V.ref (xf i)) hm hu1
        obtain rfl := get4 (f := vf) hm hv1
        have x9 : LamX.ExtN H7 (upd H8 T0 (.tup [.ref (xf m), vf m])) := x8.trans (ExtN_of (Ex.new hT))
        have t9 := t8.ext (Ex.new (o := .tup [.ref (xf m), vf m]) hT)
        refine ⟨T0, [.ref (xf m), vf m], rfl, SqT.of upd_same, rfl, _, [vf m], rfl, vf m, [], rfl, rfl, ?_⟩
        dsimp only [gName, List.set]
        generalize upd H8 T0 (.tup [.ref (xf m), vf m]) = H9 at x9 t9 ⊢
        clear x8 t8 hT hu1 hv1
        have st9 := st7.n x9
        obtain ⟨dj, _, wj⟩ := st9.kd j hj
        obtain ⟨dm, _, wm⟩ := st9.kd m hm
        have kj := st9.ki j hj
        have km := st9.ki m hm
        have shj := kd_shaped (k := kf j) (by omega)
        have shm := kd_shaped (k := kf m) (by omega)
        refine Evl.q_when (b := false) (Evl.et_is (Evl.et_or (a := false) (b := false)
          (Evl.et_is (Evl.et_test (ev_neB (ev_keqI (g := id) NE (evi_of (x := xf j) (Evl.ev_var rfl) kj) (evi_of (x := xf m) (Evl.ev_var rfl) km) (by omega)) (ev_eqD (Evl.ev_var (v := vf j) rfl) (Evl.ev_var (v := vf m) rfl) dj dm shj shm))) ?q1) fun _ =>
          (Evl.et_is (Evl.et_test (ev_neB (ev_keqI (g := not) NE (evi_of (x := xf j) (Evl.ev_var rfl) kj) (evi_of (x := xf m) (Evl.ev_var rfl) km) (by omega)) (ev_neD (Evl.ev_var (v := vf j) rfl) (Evl.ev_var (v := vf m) rfl) dj dm shj shm))) ?q2)) rfl) (fun z => nomatch z) (fun _ H10 e10 => ?_)
        case q1 =>
          rw [kd_eqv]
          simp
        case q2 =>
          rw [kd_eqv]
          simp
        -- what is due
        have st10 := st9.n (ExtN_of e10)
        have kj10 := st10.ki j hj
        have km10 := st10.ki m hm
        have fj : ∀ {H1 : Hp} {q9 : Option V}, Ex H10 H1 → Evl.Ev (tFld K (tVar 5) "places") [some (.ref a), some (.int (i : Int)), some (.ref l), some (.ref p), some (.ref r), some (.ref (xf j)), some (vf j), some (.ref (xf m)), some (vf m), q9, o10, o11, o12, o13, o14] H1 (.int (placesK (kf j))) := fun e => ev_fldI S (evi_of (x := xf j) (Evl.ev_var rfl) (kj10.up e))
        have fm : ∀ {H1 : Hp} {q9 : Option V}, Ex H10 H1 → Evl.Ev (tFld K (tVar 7) "places") [some (.ref a), some (.int (i : Int)), some (.ref l), some (.ref p), some (.ref r), some (.ref (xf j)), some (vf j), some (.ref (xf m)), some (vf m), q9, o10, o11, o12, o13, o14] H1 (.int (placesK (kf m))) := fun e => ev_fldI S (evi_of (x := xf m) (Evl.ev_var rfl) (km10.up e))
        refine qq_asg (K := K) (L := []) (d := dueK (kf j) (kf m)) ?due fun v9 H11 e11 hv9 => ?_
        case due =>
          unfold dueK
          by_cases e : placesK (kf j) = placesK (kf m)
          · rw [if_pos e]
            exact evq_ift (Evl.et_is (Evl.et_test (Evl.ev_op (fj (Ex.refl _)) (fm (Ex.refl _)) (Evl.rv_eq rfl))) (by rw [e]; simp)) (evq_tup (hid0 _) (evqs_cons evq_str (evqs_cons (evq_evI (fj (Ex.refl _))) evqs_nil)) (by show 2 ≤ 100000; omega))
          · rw [if_neg e]
            exact evq_iff (Evl.et_is (Evl.et_test (Evl.ev_op (fj (Ex.refl _)) (fm (Ex.refl _)) (Evl.rv_eq rfl))) (by simp [e])) (evq_tup (hid0 _) (evqs_cons evq_str (evqs_cons evq_non evqs_nil)) (by show 2 ≤ 100000; omega))
        dsimp only [List.set]
        have x11 : LamX.ExtN H7 H11 := x9.trans (ExtN_of (e10.trans e11))
        have t11 := t9.ext (e10.trans e11)
        refine s_sameQ (K := K) (d := .list [dueK (kf j) (kf m), dueK (kf j) (kf m), dueK (kf j) (kf m)]) (fun Q q => ?_) (fun H1 e1 => ?_) (due_fits _ _) (fun H12 x12 t12 => ⟨x11.trans x12, t12, _, _, _, rfl⟩)
        · refine ⟨_, rfl, _, rfl, xf j, xf m, kf j, kf m, rfl, kj10.up e11, km10.up e11, t11, fun v' H' x' t' hd' => q v' H' x' t' (by rw [w_nil]; exact hd')⟩
        · have dv : ∀ {H2 : Hp}, Ex H1 H2 → EvQ K [] (tVar 9) [some (.ref a), some (.int (i : Int)), some (.ref l), some (.ref p), some (.ref r), some (.ref (xf j)), some (vf j), some (.ref (xf m)), some (vf m), some v9, o10, o11, o12, o13, o14] H1 (dueK (kf j) (kf m)) := fun e => evq_of (Evl.ev_var rfl) (dq_extN hv9 e1)
          exact evq_lst (hid0 _) (evqs_cons (dv (Ex.refl _)) (evqs_cons (dv (Ex.refl _)) (evqs_cons (dv (Ex.refl _)) evqs_nil))) (by show 3 ≤ 100000; omega)
      · rintro σ' H8 ⟨x8, t8, o7, o8, o9, rfl⟩
        have st8 := st7.n x8
        obtain ⟨dj, ⟨pj, okj, p1, p3⟩, wj⟩ := st8.kd j hj
        have kj := st8.ki j hj
        have one : ∀ {H1 : Hp}, Ex H8 H1 → EvI c (tVar 5) [some (.ref a), some (.int (i : Int)), some (.ref l), some (.ref p), some (.ref r), some (.ref (xf j)), some (vf j), o7, o8, o9, o10, o11, o12, o13, o14] H1 (kf j) := fun e => evi_of (x := xf j) (Evl.ev_var rfl) (kj.up e)
        have blt : ∀ {H1 : Hp}, Ex H8 H1 → EvI c (tCallD (spBuilt K c 4) (tCons (tVar 6) tNil)) [some (.ref a), some (.int (i : Int)), some (.ref l), some (.ref p), some (.ref r), some (.ref (xf j)), some (vf j), o7, o8, o9, o10, o11, o12, o13, o14] H1 (kf j) := fun e => evi_built (Evl.ev_var (v := vf j) rfl) (dj.up e) okj p1 p3 (by omega)
        have ng : (kf j).no ≠ kf j := fun e => by
          have := congrArg sizeOf e
          simp at this
        -- made anew; other things
        refine Evl.q_when (b := false) (Evl.et_is (Evl.et_or (a := false) (b := false) (Evl.et_is (Evl.et_not (a := true) (et_keq (Evl.ev_is (ev_keqI (g := id) NE (one (Ex.refl _)) (blt (Ex.refl _)) (by omega)) (congrArg V.bl (decide_eq_true rfl))))) rfl) fun _ =>
          Evl.et_is (Evl.et_B (ev_any (bs := List.replicate 5 false) ?any)) (by decide)) rfl) (fun z => nomatch z) (fun _ H9 e9 => ?_)
        case any =>
          show Evl.EvL _ _ _ ((List.range 5).map fun _ => V.bl false)
          refine el_new (fun H1 e1 Q q => ?_) (by decide) (fun _ => rfl)
          refine ⟨_, rfl, _, rfl, by show 1 ≤ sizeLine; decide, fun t ht => ?_⟩
          refine q _ _ (Ex.new ht) rfl fun i x H3 e3 hx => ?_
          have e13 := (e1.trans (Ex.new (o := .lst [.ref (xf j)]) ht)).trans e3
          have ho : Oth K c H3 x none := by
            rcases i with _ | _ | _ | _ | _ | i
            · obtain rfl := Option.some.inj hx
              exact oth_data (d := .none) .non
            · obtain rfl := Option.some.inj hx
              exact oth_data (d := .int 5) (.int 5)
            · obtain rfl := Option.some.inj hx
              exact oth_data (dj.up e13).q
            · obtain rfl := Option.some.inj hx
              exact oth_data (d := .str "ab") (.str "ab")
            · obtain rfl := Option.some.inj hx
              exact oth_lst (e3 _ _ upd_same)
            · cases hx
          exact Evl.ev_is (ev_keq (g := id) (o := none) NE (Evl.ev_var (v := .ref (xf j)) rfl) (Evl.ev_var (v := x) rfl) (kj.up e13) (by omega) ho) rfl
        -- the contrary one
        refine Evl.s_when (b := false) (Evl.et_is (Evl.et_or (a := false) (b := false) (Evl.et_is (Evl.et_test (Evl.ev_op (ev_fldI S (evi_inv (one e9))) (ev_fldI S (one e9)) (Evl.rv_ne rfl))) (by simp [placesK])) fun _ =>
          Evl.et_or (a := false) (b := false) (et_keq (Evl.ev_is (ev_keqI (g := id) NE (evi_inv (one e9)) (one e9) (by simp only [depK]; omega)) (congrArg V.bl (decide_eq_false ng)))) fun _ =>
          Evl.et_is (Evl.et_not (a := true) (et_keq (Evl.ev_is (ev_keqI (g := id) NE (evi_inv (one e9)) (evi_inv (blt e9)) (by simp only [depK]; omega)) (congrArg V.bl (decide_eq_true rfl))))) rfl) rfl) (fun z => nomatch z) (fun _ H10 e10 => ?_)
        have e910 := e9.trans e10
        exact ⟨(x7.trans x8).trans (ExtN_of e910), t8.ext e910, _, _, _, _, _, _, _, _, _, _, rfl⟩
    · rintro σ' H6 ⟨x6, t6, o5, o6, o7, o8, o9, o10, o11, o12, o13, o14, rfl⟩
      have s6 := s5.x' x6 t6
      clear stand x6 t6 s5
      -- an odd number of places
      refine pickq_run (K := K) (L := [l]) (j := 2) (n := 160) (ds := oddPl) rfl s6.d (by decide) ml (evq_lst s6.hid (evqs_cons evq_int (evqs_cons evq_int (evqs_cons (evq_evI (fun H1 e Q q => ⟨1, rfl, q H1 (Ex.refl _)⟩)) (evqs_cons evq_non (evqs_cons evq_bl (evqs_cons evq_str (evqs_cons (evq_tup s6.hid (evqs_cons evq_int evqs_nil) (by simp)) (evqs_cons (evq_lst s6.hid evqs_nil (by simp)) (evqs_cons (evq_evI (Evl.ev_op Evl.ev_c Evl.ev_c (Evl.rv_I (g := fun i j => .int (i ^ j.toNat)) (i := 10) (j := 20) ⟨by decide, by decide, by decide⟩))) (evqs_cons (evq_dnew s6.hid) evqs_nil)))))))))) (by show 10 ≤ 100000; omega)) (by show 0 < 10; decide) (by show 10 < 1000000; decide) fun v7 d7 H7 hm7 b7 dr7 hv7 => ?_
      obtain ⟨hN7, hf7⟩ := oddPl_ok hm7
      have s7 := s6.b b7 dr7
      have dq7 : ∀ {H1 : Hp}, LamX.ExtN H7 H1 → Dq K H1 v7 d7 := fun e => (dq_extN hv7 e).up w_sub
      dsimp only [gName, List.set]
      refine q_sameQ (K := K) (d := .list [.tuple [.str "places", d7], .tuple [.str "places", d7], .tuple [.str "places", d7], .tuple [.str "places", d7]]) (fun Q q => ⟨_, rfl, v7, d7, rfl, dq7 (LamX.ExtN.refl _), hN7, s7.t, fun v' H' x' t' hd' => q v' H' x' t' (by rw [w_nil]; exact hd')⟩)
        (fun H1 e1 => evq_rep4 (hid0 _) (evq_tup (hid0 _) (evqs_cons evq_str (evqs_cons (evq_of (Evl.ev_var rfl) (by rw [w_nil]; exact dq7 e1)) evqs_nil)) (by show 2 ≤ 100000; omega)))
        ⟨by show 4 ≤ 40000; omega, fun e he => by
          simp only [List.mem_cons, List.not_mem_nil, or_false] at he
          rcases he with rfl | rfl | rfl | rfl <;> exact ⟨by show 2 ≤ 40000; omega, fun e he => by
            simp only [List.mem_cons, List.not_mem_nil, or_false] at he
            rcases he with rfl | rfl
            · trivial
            · exact hf7⟩⟩ (fun H8 x8 t8 => ?_)
      have s8 := s7.x' x8 t8
      clear dq7 hv7 hN7 hf7 hm7 x8 t8 s7 b7 dr7 s6
      -- an odd number of changes
      refine pickq_run (K := K) (L := [l]) (j := 2) (n := 161) (ds := [.int 7, .int (-1), .none, .bool false, .bool true, .str "2", .tuple [.int 1], .list [], .int (10 ^ 20), .dict []]) rfl s8.d (by decide) ml (evq_lst s8.hid (evqs_cons evq_int (evqs_cons (evq_evI (fun H1 e Q q => ⟨1, rfl, q H1 (Ex.refl _)⟩)) (evqs_cons evq_non (evqs_cons evq_bl (evqs_cons evq_bl (evqs_cons evq_str (evqs_cons (evq_tup s8.hid (evqs_cons evq_int evqs_nil) (by simp)) (evqs_cons (evq_lst s8.hid evqs_nil (by simp)) (evqs_cons (evq_evI (Evl.ev_op Evl.ev_c Evl.ev_c (Evl.rv_I (g := fun i j => .int (i ^ j.toNat)) (i := 10) (j := 20) ⟨by decide, by decide, by decide⟩))) (evqs_cons (evq_dnew s8.hid) evqs_nil)))))))))) (by show 10 ≤ 100000; omega)) (by show 0 < 10; decide) (by show 10 < 1000000; decide) fun v9 d9 H9 hm9 b9 dr9 hv9 => ?_
      obtain ⟨hM9, hf9⟩ := isMo_odd hm9
      have s9 := s8.b b9 dr9
      have dq9 : ∀ {H1 : Hp}, LamX.ExtN H9 H1 → Dq K H1 v9 d9 := fun e => (dq_extN hv9 e).up w_sub
      dsimp only [gName, List.set]
      refine q_sameQ (K := K) (d := .tuple [.str "most", d9]) (endq_m (K := K) (L := []) (v := v9) (d := d9) (X := fun E => tFld K (tMake (c .tu) (spITX K CM (c .tu)) [] E (tCons (tVar 10) tNil)) "places") M s9.t (fun _ m => nomatch m) (by rw [w_nil]; exact dq9 (LamX.ExtN.refl _)) (fun H1 e1 E k hE => fld_badT (Evl.ev_var rfl) (dq9 e1) hM9 hE))
        (fun H1 e1 => evq_tup (hid0 _) (evqs_cons evq_str (evqs_cons (evq_of (Evl.ev_var rfl) (by rw [w_nil]; exact dq9 e1)) evqs_nil)) (by show 2 ≤ 100000; omega)) (fits_two (fits_up (by decide) hf9)) (fun H10 x10 t10 => ?_)
      have s10 := s9.x' x10 t10
      clear dq9 hv9 hM9 hf9 hm9 x10 t10 s9 b9 dr9 s8
      -- a number of changes
      refine draw_runJ (j := 2) (n := 162) (l := l) (many := 7) (by rfl) s10.d (by decide) Evl.ev_c (by decide) (by decide) fun q H11 q0 q1 d11 b11 => ?_
      have s11 := s10.b b11 d11
      dsimp only [gName, List.set]
      have tq : ∀ {σ : L2.St} {H1 : Hp}, σ[11]? = some (some (.int q)) → EvI c (tMake (c .tu) (spIT (c .tu)) [] E0 (tCons (tVar 11) tNil)) σ H1 (.turns q) := fun h => EvK.i (mk_T (Evl.ev_var h) (fun _ m => nomatch m) q0 (by omega))
      have t6 : ∀ {σ : L2.St} {H1 : Hp}, EvI c (tMake (c .tu) (spIT (c .tu)) [] E0 (tCons (tC (.int 6)) tNil)) σ H1 (.turns 6) := EvK.i (mk_T Evl.ev_c (fun _ m => nomatch m) (by decide) (by decide))
      refine Evl.s_when (b := false) (Evl.et_is (Evl.et_or (a := false) (b := false) (Evl.et_is (Evl.et_test (Evl.ev_op (ev_fldI S (tq rfl)) Evl.ev_c (Evl.rv_ne rfl))) (by simp [placesK])) fun _ =>
        Evl.et_is (Evl.et_test (ev_neB (ev_keqI (g := id) NE (tq rfl) t6 (by simp [depK])) (Evl.ev_op (Evl.ev_var (v := .int q) rfl) Evl.ev_c (Evl.rv_eq rfl)))) (by simp)) rfl) (fun z => nomatch z) (fun _ H12 e12 => ?_)
      have s12 := s11.e e12
      exact ⟨s12.x, s12.t, _, _, _, _, _, _, _, _, _, _, _, _, _, _, rfl⟩
  · rintro σ' H' _
    exact Evl.s_ret Evl.ev_c fun _ _ => k0 _
end
end U

set_option Elab.async false
set_option linter.all false
set_option maxRecDepth 100000
set_option maxHeartbeats 8000000
namespace U
open PySem L2
open Evl (Ex)
/-! ### a class of errors -/
abbrev veL : List Value := [.type "ValueError", .type "Exception", .type "BaseException", .type "object"]
theorem clsIn_of {K : PySem.W.Frag} {nm q : Str} {C N : Addr} {bs bm : List Value} {hd : Bool} {sn : List Str} {sub : List Value} {ab : Bool} {col : Option Bool} {dd : Option Addr} {k0 k1 k2 k3 k5 : Option Value} {nid : String}
    (l : K.lookup C = some (excClassObj nm q C N bs bm hd sn sub ab col dd k0 k1 k2 k3 k5 nid)) : PySem.W.clsIn K C = some { name := nm, bases := bs, mro := .ref C :: bm, ns := N, qualname := q, hasDict := hd, slotNames := sn, subclasses := sub, abstract := ab, collection := col, hasDel := false } := by
  unfold PySem.W.clsIn
  rw [l]
/-- at C a class of errors whose bases' row is bm -/
def IsErr (K : PySem.W.Frag) (C : Addr) (bm : List Value) : Prop := ∃ (nm q : Str) (N : Addr) (bs : List Value) (sn : List Str) (sub : List Value) (ab : Bool) (col : Option Bool) (dd : Option Addr) (k0 k1 k2 k3 k5 : Option Value),
  K.lookup C = some (excClassObj nm q C N bs bm true sn sub ab col dd k0 k1 k2 k3 k5 "ValueError.__new__")
section
variable {K : PySem.W.Frag} {C D : Addr} {bm bm2 : List Value}
theorem IsErr.mro (h : IsErr K C bm) (c : Value) : PySem.W.mroIn K C c = some ((Value.ref C :: bm).contains c) := by
  obtain ⟨nm, q, N, bs, sn, sub, ab, col, dd, k0, k1, k2, k3, k5, l⟩ := h
  unfold PySem.W.mroIn
  rw [clsIn_of l]
  rfl
theorem IsErr.ty (h : IsErr K C bm) : PySem.W.typeIn K (.ref C) = some (.type "type") := by
  obtain ⟨nm, q, N, bs, sn, sub, ab, col, dd, k0, k1, k2, k3, k5, l⟩ := h
  show (K.lookup C).map (fun o => o.cls) = some (.type "type")
  rw [l]
  rfl
theorem IsErr.isSm (h : IsErr K C bm) : (PySem.W.clsIn K C).isSome = true := by
  obtain ⟨nm, q, N, bs, sn, sub, ab, col, dd, k0, k1, k2, k3, k5, l⟩ := h
  rw [clsIn_of l]
  rfl
theorem IsErr.dct (h : IsErr K C bm) : PySem.W.hasDictIn K C = true := by
  obtain ⟨nm, q, N, bs, sn, sub, ab, col, dd, k0, k1, k2, k3, k5, l⟩ := h
  unfold PySem.W.hasDictIn
  rw [clsIn_of l]
  rfl
theorem IsErr.kit (h : IsErr K C bm) (h2 : IsErr K D bm2) : PySem.W.kitOne K (.ref C) (.ref D) = some ((Value.ref C :: bm).contains (.ref D)) := by
  unfold PySem.W.kitOne
  by_cases e : C = D
  · subst e
    rw [if_pos (by simp)]
    simp
  · rw [if_neg (by simpa using e)]
    unfold PySem.W.kitCls
    have z : ((PySem.W.clsIn K D).isSome && PySem.W.typeIn K (.ref D) == some (.type "type")) = true := by
      rw [h2.isSm, h2.ty]
      rfl
    show (if _ then _ else _) = _
    rw [if_pos z]
    exact h.mro _
theorem IsErr.kitV (h : IsErr K C bm) : PySem.W.kitOne K (.ref C) (.type "ValueError") = some ((Value.ref C :: bm).contains (.type "ValueError")) := by
  unfold PySem.W.kitOne
  rw [if_neg (by simp)]
  unfold PySem.W.kitCls
  show (if _ then _ else _) = _
  rw [if_pos (by decide +kernel)]
  exact h.mro _
/-- what the look at the written part gives of such a class -/
structure ErrF (K : PySem.W.Frag) (C : Addr) : Prop where
  sa : PySem.W.findIn K (.ref C) "__setattr__" = some (some (.builtin "object.__setattr__"))
  ga : PySem.W.findIn K (.ref C) "__getattribute__" = some (some (.builtin "BaseException.__getattribute__"))
  gg : PySem.W.findIn K (.ref C) "__getattr__" = some none
  ha : PySem.W.findIn K (.ref C) "__class__" = some (some (.builtin "object.__class__"))
  kC : PySem.W.keepIn K (.ref C) = true
theorem isi_of (h : IsErr K C bm) (F : ErrF K C) (hv : PySem.HandSPX.refsVE bm = true) (hn : PySem.W.specialIn K (.builtin "object.__class__") "__get__" = some (some (.builtin "getset_descriptor.__get__"))) (ht : PySem.W.takesIn K (.builtin "object.__class__") = some true) : IsiC K C :=
  { cl := h.isSm, hg := F.ga, hk := F.gg, hs := (h.mro _).trans (congrArg _ ((List.contains_cons ..).trans (by rw [PySem.HandSPX.refsVE_contains _ _ hv]; exact (Bool.or_eq_true_iff.mpr (.inr (by decide +kernel)))))), ha := F.ha, hn := hn, ht := ht,
    hm := (h.mro _).trans (congrArg _ ((List.contains_cons ..).trans (by rw [PySem.HandSPX.refsVE_contains _ _ hv]; exact (Bool.or_eq_true_iff.mpr (.inr (by decide +kernel)))))) }
theorem oex_of (h : IsErr K C bm) (F : ErrF K C) (hv : PySem.HandSPX.refsVE bm = true) (Z : IsiC K C) : OexC K C := by
  obtain ⟨nm, q, N, bs, sn, sub, ab, col, dd, k0, k1, k2, k3, k5, l⟩ := id h
  exact { cls := ⟨nm, q, N, bs, bm, sn, sub, ab, col, dd, k0, k1, k2, k3, k5, l, hv⟩, sa := F.sa, exC := Z.hs, tyC := h.ty, kC := F.kC }
theorem xf_of (h : IsErr K C bm) (F : ErrF K C) (Z : IsiC K C) : XfC K C := { ga := F.ga, gg := F.gg, exC := Z.hs, hdC := h.dct }
end
theorem exm_of {K : PySem.W.Frag} {A B : Addr} {b : Bool} (h1 : PySem.W.subIn K (.ref B) (.type "BaseException") = some true) (h2 : PySem.W.isClsIn K B = true) (h3 : PySem.W.typeIn K (.ref B) = some (.type "type")) (h4 : PySem.W.subIn K (.ref A) (.ref B) = some b) : PySem.W.exmOne K (.ref A) (.ref B) = some b := by
  have a : (PySem.W.subIn K (.ref B) (.type "BaseException") == some true) = true := by rw [h1]; rfl
  have h2' : (PySem.W.clsIn K B).isSome = true := h2
  have c : ((PySem.W.clsIn K B).isSome && PySem.W.typeIn K (.ref B) == some (.type "type")) = true := by rw [h2', h3]; rfl
  unfold PySem.W.exmOne
  simp only [a, if_true]
  show (if ((PySem.W.clsIn K B).isSome && PySem.W.typeIn K (.ref B) == some (.type "type")) = true then PySem.W.subIn K (.ref A) (.ref B) else none) = _
  rw [if_pos c]
  exact h4
abbrev s_BadPlaces_init : Stmt := inClass (top 3) 0
abbrev sc_BadPlaces_init_N : List Str := ["self", "places"]
theorem sc_BadPlaces_init : FnScope sc_BadPlaces_init_N ["self", "places"] (defScope s_BadPlaces_init) := ⟨rfl, rfl, rfl, by decide +kernel, rfl, by decide +kernel, by decide +kernel⟩
theorem ok_BadPlaces {P : Program} {w : World} {K : PySem.W.Frag} {mg : Str → Option Value} {base : Heap} {C fI : Addr} {fd : FuncData} (gC : mg "BadPlaces" = some (.ref C)) (T : OexC K C) (x : XfC K C) (no : PySem.W.findIn K (.ref C) "places" = some none) (iC : PySem.W.findIn K (.ref C) "__init__" = some (some (.ref fI))) (tI : PySem.W.typeIn K (.ref fI) = some (.type "function"))
    (F : Fun K "__init__" "BadPlaces.__init__" s_BadPlaces_init fI fd) (hb : Binds K fd ["self", "places"] []) (hi : ∀ (s : Shared) (u v : Value), BindsTo s fd ⟨[u], [("places", v)]⟩ [("self", u), ("places", v)]) : ErrC P w K mg base "BadPlaces" C "places" := by
  refine ⟨T, gC, x, no, fI, _, iC, tI, ?_, hb, hi⟩
  refine F.ok sc_BadPlaces_init (fun vs H Q E h => ?_) (fun cdv A outer s H vs Q E hr h => ?_)
  · obtain ⟨_, _, rfl, _⟩ := h
    rfl
  · obtain ⟨a, v, rfl, ha, k⟩ := h
    exact ⟨_, pss_one (ps_ost (pv 0) (pv 1)), ⟨_, rfl, _, rfl, a, C, rfl, T, no, .inl ⟨ha, fun dx hd n => k dx hd n⟩⟩⟩
abbrev s_BadMost_init : Stmt := inClass (top 5) 0
abbrev sc_BadMost_init_N : List Str := ["self", "most"]
theorem sc_BadMost_init : FnScope sc_BadMost_init_N ["self", "most"] (defScope s_BadMost_init) := ⟨rfl, rfl, rfl, by decide +kernel, rfl, by decide +kernel, by decide +kernel⟩
theorem ok_BadMost {P : Program} {w : World} {K : PySem.W.Frag} {mg : Str → Option Value} {base : Heap} {C fI : Addr} {fd : FuncData} (gC : mg "BadMost" = some (.ref C)) (T : OexC K C) (x : XfC K C) (no : PySem.W.findIn K (.ref C) "most" = some none) (iC : PySem.W.findIn K (.ref C) "__init__" = some (some (.ref fI))) (tI : PySem.W.typeIn K (.ref fI) = some (.type "function"))
    (F : Fun K "__init__" "BadMost.__init__" s_BadMost_init fI fd) (hb : Binds K fd ["self", "most"] []) (hi : ∀ (s : Shared) (u v : Value), BindsTo s fd ⟨[u], [("most", v)]⟩ [("self", u), ("most", v)]) : ErrC P w K mg base "BadMost" C "most" := by
  refine ⟨T, gC, x, no, fI, _, iC, tI, ?_, hb, hi⟩
  refine F.ok sc_BadMost_init (fun vs H Q E h => ?_) (fun cdv A outer s H vs Q E hr h => ?_)
  · obtain ⟨_, _, rfl, _⟩ := h
    rfl
  · obtain ⟨a, v, rfl, ha, k⟩ := h
    exact ⟨_, pss_one (ps_ost (pv 0) (pv 1)), ⟨_, rfl, _, rfl, a, C, rfl, T, no, .inl ⟨ha, fun dx hd n => k dx hd n⟩⟩⟩
end U

set_option Elab.async false
set_option linter.all false
set_option maxRecDepth 100000
set_option maxHeartbeats 8000000
namespace U
open PySem PySem.Spec PyProof.Rows L2
open Evl (Ex)
open C8 (Met Mak)
theorem dn_and : PySem.dunder Operator.BitAnd.info.2 = "__and__" ∧ dunderR Operator.BitAnd.info.2 = "__rand__" := by decide +kernel
theorem dn_or : PySem.dunder Operator.BitOr.info.2 = "__or__" ∧ dunderR Operator.BitOr.info.2 = "__ror__" := by decide +kernel
theorem dn_add : PySem.dunder Operator.Add.info.2 = "__add__" ∧ dunderR Operator.Add.info.2 = "__radd__" := by decide +kernel
def spLaw05 (K : PySem.W.Frag) (TT : List (Addr × Str)) : Sp := fun vs H Q _ => ∃ (a : Addr) (ns : List Int), vs = [.ref a] ∧ SqL K H a (ns.map V.int) ∧ ns.length ≤ 63 ∧ LamX.Tabs TT H ∧ ∀ H', Q (.bl true) H'
theorem all_mk {l : PySem.W.OpenLaw} {w : World} {K : PySem.W.Frag} {h : Heap} {mg : Str → Option Value} {fa fF_is_integer fF_is_number_of_places fF_check_number_of_places fL_source fL_draw fL_pick fL_same fL_plain fL_spec fL_built fL_part fL_joint fL_pair fL_end fL_places fL_ends cAe PTe fL_refused cAr PTr fL_law cAl PTl Cha fMha_init fMha_invert fMha_and fMha_or fMha_add fMha_eq Cbo fMbo_init fMbo_invert fMbo_and fMbo_or fMbo_add fMbo_eq Cri fMri_init fMri_invert fMri_and fMri_or fMri_add fMri_eq Cfl fMfl_init fMfl_invert fMfl_and fMfl_or fMfl_add fMfl_eq Ctu fMtu_init fMtu_invert fMtu_and fMtu_or fMtu_add fMtu_eq Cco fMco_init fMco_invert fMco_and fMco_or fMco_add fMco_eq Cpa fMpa_init fMpa_invert fMpa_and fMpa_or fMpa_add fMpa_eq Tc CP NCP fCP CM NCM fCM CU : Addr} {tLEAST_PLACES tMOST_PLACES tGREATEST_MOST : Tok}
   {ocF_is_integer kVF_is_integer dcF_is_integer pmF_is_integer cdF_is_integer ctF_is_integer : Value} {odF_is_integer anF_is_integer : Option Addr} {slF_is_integer : Array (Option Value)} {ocF_is_number_of_places kVF_is_number_of_places dcF_is_number_of_places pmF_is_number_of_places cdF_is_number_of_places ctF_is_number_of_places : Value} {odF_is_number_of_places anF_is_number_of_places : Option Addr} {slF_is_number_of_places : Array (Option Value)} {ocF_check_number_of_places kVF_check_number_of_places dcF_check_number_of_places pmF_check_number_of_places cdF_check_number_of_places ctF_check_number_of_places : Value} {odF_check_number_of_places anF_check_number_of_places : Option Addr} {slF_check_number_of_places : Array (Option Value)} {ocL_source kVL_source dcL_source pmL_source cdL_source ctL_source : Value} {odL_source anL_source : Option Addr} {slL_source : Array (Option Value)} {ocL_draw kVL_draw dcL_draw pmL_draw cdL_draw ctL_draw : Value} {odL_draw anL_draw : Option Addr} {slL_draw : Array (Option Value)} {ocL_pick kVL_pick dcL_pick pmL_pick cdL_pick ctL_pick : Value} {odL_pick anL_pick : Option Addr} {slL_pick : Array (Option Value)} {ocL_same kVL_same dcL_same pmL_same cdL_same ctL_same : Value} {odL_same anL_same : Option Addr} {slL_same : Array (Option Value)} {ocL_plain kVL_plain dcL_plain pmL_plain cdL_plain ctL_plain : Value} {odL_plain anL_plain : Option Addr} {slL_plain : Array (Option Value)} {ocL_spec kVL_spec dcL_spec pmL_spec cdL_spec ctL_spec : Value} {odL_spec anL_spec : Option Addr} {slL_spec : Array (Option Value)} {ocL_built kVL_built dcL_built pmL_built cdL_built ctL_built : Value} {odL_built anL_built : Option Addr} {slL_built : Array (Option Value)} {ocL_part kVL_part dcL_part pmL_part cdL_part ctL_part : Value} {odL_part anL_part : Option Addr} {slL_part : Array (Option Value)} {ocL_joint kVL_joint dcL_joint pmL_joint cdL_joint ctL_joint : Value} {odL_joint anL_joint : Option Addr} {slL_joint : Array (Option Value)} {ocL_pair kVL_pair dcL_pair pmL_pair cdL_pair ctL_pair : Value} {odL_pair anL_pair : Option Addr} {slL_pair : Array (Option Value)} {ocL_end kVL_end dcL_end pmL_end cdL_end ctL_end : Value} {odL_end anL_end : Option Addr} {slL_end : Array (Option Value)} {ocL_places kVL_places dcL_places pmL_places cdL_places ctL_places : Value} {odL_places anL_places : Option Addr} {slL_places : Array (Option Value)} {ocL_ends kVL_ends dcL_ends pmL_ends ctL_ends eAe : Value} {odL_ends anL_ends dAe : Option Addr} {slL_ends slAe : Array (Option Value)} {vsAe : Array Value} {ocL_refused kVL_refused dcL_refused pmL_refused ctL_refused eAr : Value} {odL_refused anL_refused dAr : Option Addr} {slL_refused slAr : Array (Option Value)} {vsAr : Array Value} {ocL_law kVL_law dcL_law pmL_law ctL_law eAl : Value} {odL_law anL_law dAl : Option Addr} {slL_law slAl : Array (Option Value)} {vsAl : Array Value} {ocMha_init kVMha_init dcMha_init pmMha_init cdMha_init ctMha_init : Value} {odMha_init anMha_init : Option Addr} {slMha_init : Array (Option Value)} {ocMha_invert kVMha_invert dcMha_invert pmMha_invert cdMha_invert ctMha_invert : Value} {odMha_invert anMha_invert : Option Addr} {slMha_invert : Array (Option Value)} {ocMha_and kVMha_and dcMha_and pmMha_and cdMha_and ctMha_and : Value} {odMha_and anMha_and : Option Addr} {slMha_and : Array (Option Value)} {ocMha_or kVMha_or dcMha_or pmMha_or cdMha_or ctMha_or : Value} {odMha_or anMha_or : Option Addr} {slMha_or : Array (Option Value)} {ocMha_add kVMha_add dcMha_add pmMha_add cdMha_add ctMha_add : Value} {odMha_add anMha_add : Option Addr} {slMha_add : Array (Option Value)} {ocMha_eq kVMha_eq dcMha_eq pmMha_eq cdMha_eq ctMha_eq : Value} {odMha_eq anMha_eq : Option Addr} {slMha_eq : Array (Option Value)} {ocMbo_init kVMbo_init dcMbo_init pmMbo_init cdMbo_init ctMbo_init : Value} {odMbo_init anMbo_init : Option Addr} {slMbo_init : Array (Option Value)} {ocMbo_invert kVMbo_invert dcMbo_invert pmMbo_invert cdMbo_invert ctMbo_invert : Value} {odMbo_invert anMbo_invert : Option Addr} {slMbo_invert : Array (Option Value)} {ocMbo_and kVMbo_and dcMbo_and pmMbo_and cdMbo_and ctMbo_and : Value} {odMbo_and anMbo_and : Option Addr} {slMbo_and : Array (Option Value)} {ocMbo_or kVMbo_or dcMbo_or pmMbo_or cdMbo_or ctMbo_or : Value} {odMbo_or anMbo_or : Option Addr} {slMbo_or : Array (Option Value)} {ocMbo_add kVMbo_add dcMbo_add pmMbo_add cdMbo_add ctMbo_add : Value} {odMbo_add anMbo_add : Option Addr} {slMbo_add : Array (Option Value)} {ocMbo_eq kVMbo_eq dcMbo_eq pmMbo_eq cdMbo_eq ctMbo_eq : Value} {odMbo_eq anMbo_eq : Option Addr} {slMbo_eq : Array (Option Value)} {ocMri_init kVMri_init dcMri_init pmMri_init cdMri_init ctMri_init : Value} {odMri_init anMri_init : Option Addr} {slMri_init : Array (Option Value)} {ocMri_invert kVMri_invert dcMri_invert pmMri_invert cdMri_invert ctMri_invert : Value} {odMri_invert anMri_invert : Option Addr} {slMri_invert : Array (Option Value)} {ocMri_and kVMri_and dcMri_and pmMri_and cdMri_and ctMri_and : Value} {odMri_and anMri_and : Option Addr} {slMri_and : Array (Option Value)} {ocMri_or kVMri_or dcMri_or pmMri_or cdMri_or ctMri_or : Value} {odMri_or anMri_or : Option Addr} {slMri_or : Array (Option Value)} {ocMri_add kVMri_add dcMri_add pmMri_add cdMri_add ctMri_add : Value} {odMri_add anMri_add : Option Addr} {slMri_add : Array (Option Value)} {ocMri_eq kVMri_eq dcMri_eq pmMri_eq cdMri_eq ctMri_eq : Value} {odMri_eq anMri_eq : Option Addr} {slMri_eq : Array (Option Value)} {ocMfl_init kVMfl_init dcMfl_init pmMfl_init cdMfl_init ctMfl_init : Value} {odMfl_init anMfl_init : Option Addr} {slMfl_init : Array (Option Value)} {ocMfl_invert kVMfl_invert dcMfl_invert pmMfl_invert cdMfl_invert ctMfl_invert : Value} {odMfl_invert anMfl_invert : Option Addr} {slMfl_invert : Array (Option Value)} {ocMfl_and kVMfl_and dcMfl_and pmMfl_and cdMfl_and ctMfl_and : Value} {odMfl_and anMfl_and : Option Addr} {slMfl_and : Array (Option Value)} {ocMfl_or kVMfl_or dcMfl_or pmMfl_or cdMfl_or ctMfl_or : Value} {odMfl_or anMfl_or : Option Addr} {slMfl_or : Array (Option Value)} {ocMfl_add kVMfl_add dcMfl_add pmMfl_add cdMfl_add ctMfl_add : Value} {odMfl_add anMfl_add : Option Addr} {slMfl_add : Array (Option Value)} {ocMfl_eq kVMfl_eq dcMfl_eq pmMfl_eq cdMfl_eq ctMfl_eq : Value} {odMfl_eq anMfl_eq : Option Addr} {slMfl_eq : Array (Option Value)} {ocMtu_init kVMtu_init dcMtu_init pmMtu_init cdMtu_init ctMtu_init : Value} {odMtu_init anMtu_init : Option Addr} {slMtu_init : Array (Option Value)} {ocMtu_invert kVMtu_invert dcMtu_invert pmMtu_invert cdMtu_invert ctMtu_invert : Value} {odMtu_invert anMtu_invert : Option Addr} {slMtu_invert : Array (Option Value)} {ocMtu_and kVMtu_and dcMtu_and pmMtu_and cdMtu_and ctMtu_and : Value} {odMtu_and anMtu_and : Option Addr} {slMtu_and : Array (Option Value)} {ocMtu_or kVMtu_or dcMtu_or pmMtu_or cdMtu_or ctMtu_or : Value} {odMtu_or anMtu_or : Option Addr} {slMtu_or : Array (Option Value)} {ocMtu_add kVMtu_add dcMtu_add pmMtu_add cdMtu_add ctMtu_add : Value} {odMtu_add anMtu_add : Option Addr} {slMtu_add : Array (Option Value)} {ocMtu_eq kVMtu_eq dcMtu_eq pmMtu_eq cdMtu_eq ctMtu_eq : Value} {odMtu_eq anMtu_eq : Option Addr} {slMtu_eq : Array (Option Value)} {ocMco_init kVMco_init dcMco_init pmMco_init cdMco_init ctMco_init : Value} {odMco_init anMco_init : Option Addr} {slMco_init : Array (Option Value)} {ocMco_invert kVMco_invert dcMco_invert pmMco_invert cdMco_invert ctMco_invert : Value} {odMco_invert anMco_invert : Option Addr} {slMco_invert : Array (Option Value)} {ocMco_and kVMco_and dcMco_and pmMco_and cdMco_and ctMco_and : Value} {odMco_and anMco_and : Option Addr} {slMco_and : Array (Option Value)} {ocMco_or kVMco_or dcMco_or pmMco_or cdMco_or ctMco_or : Value} {odMco_or anMco_or : Option Addr} {slMco_or : Array (Option Value)} {ocMco_add kVMco_add dcMco_add pmMco_add cdMco_add ctMco_add : Value} {odMco_add anMco_add : Option Addr} {slMco_add : Array (Option Value)} {ocMco_eq kVMco_eq dcMco_eq pmMco_eq cdMco_eq ctMco_eq : Value} {odMco_eq anMco_eq : Option Addr} {slMco_eq : Array (Option Value)} {ocMpa_init kVMpa_init dcMpa_init pmMpa_init cdMpa_init ctMpa_init : Value} {odMpa_init anMpa_init : Option Addr} {slMpa_init : Array (Option Value)} {ocMpa_invert kVMpa_invert dcMpa_invert pmMpa_invert cdMpa_invert ctMpa_invert : Value} {odMpa_invert anMpa_invert : Option Addr} {slMpa_invert : Array (Option Value)} {ocMpa_and kVMpa_and dcMpa_and pmMpa_and cdMpa_and ctMpa_and : Value} {odMpa_and anMpa_and : Option Addr} {slMpa_and : Array (Option Value)} {ocMpa_or kVMpa_or dcMpa_or pmMpa_or cdMpa_or ctMpa_or : Value} {odMpa_or anMpa_or : Option Addr} {slMpa_or : Array (Option Value)} {ocMpa_add kVMpa_add dcMpa_add pmMpa_add cdMpa_add ctMpa_add : Value} {odMpa_add anMpa_add : Option Addr} {slMpa_add : Array (Option Value)} {ocMpa_eq kVMpa_eq dcMpa_eq pmMpa_eq cdMpa_eq ctMpa_eq : Value} {odMpa_eq anMpa_eq : Option Addr} {slMpa_eq : Array (Option Value)} {nmCP qnCP : Str} {bsCP : List Value} {snCP : List Str} {sbCP : List Value} {abCP : Bool} {coCP : Option Bool} {ddCP : Option Addr} {p0CP p1CP p2CP p3CP p5CP : Option Value} {ocCP kVCP dcCP pmCP cdCP ctCP : Value} {odCP anCP : Option Addr} {slCP : Array (Option Value)} {nmCM qnCM : Str} {bsCM : List Value} {snCM : List Str} {sbCM : List Value} {abCM : Bool} {coCM : Option Bool} {ddCM : Option Addr} {p0CM p1CM p2CM p3CM p5CM : Option Value} {ocCM kVCM dcCM pmCM cdCM ctCM : Value} {odCM anCM : Option Addr} {slCM : Array (Option Value)} (X : K.In h) (G : h.Ns mainGlobals mg) (hfa : mg "law" = some (.ref fa)) (own : LamX.OwnTab K fa h)
    (aF_is_integer : PySem.W.nsIn K mainGlobals "is_integer" = some (some (.ref fF_is_integer)))
    (lF_is_integer : K.lookup fF_is_integer = some ⟨ocF_is_integer, odF_is_integer, .func (PySem.W.fnOf "is_integer" "is_integer" (defArgs s_is_integer) (defBody s_is_integer) (defScope s_is_integer) .none kVF_is_integer dcF_is_integer pmF_is_integer anF_is_integer cdF_is_integer ctF_is_integer), slF_is_integer⟩)
    (cF_is_integer : PySem.W.codeIn K cdF_is_integer "is_integer" = true)
    (kF_is_integer : PySem.W.keepIn K (.ref fF_is_integer) = true)
    (aF_is_number_of_places : PySem.W.nsIn K mainGlobals "is_number_of_places" = some (some (.ref fF_is_number_of_places)))
    (lF_is_number_of_places : K.lookup fF_is_number_of_places = some ⟨ocF_is_number_of_places, odF_is_number_of_places, .func (PySem.W.fnOf "is_number_of_places" "is_number_of_places" (defArgs s_is_number_of_places) (defBody s_is_number_of_places) (defScope s_is_number_of_places) .none kVF_is_number_of_places dcF_is_number_of_places pmF_is_number_of_places anF_is_number_of_places cdF_is_number_of_places ctF_is_number_of_places), slF_is_number_of_places⟩)
    (cF_is_number_of_places : PySem.W.codeIn K cdF_is_number_of_places "is_number_of_places" = true)
    (kF_is_number_of_places : PySem.W.keepIn K (.ref fF_is_number_of_places) = true)
    (aF_check_number_of_places : PySem.W.nsIn K mainGlobals "_check_number_of_places" = some (some (.ref fF_check_number_of_places)))
    (lF_check_number_of_places : K.lookup fF_check_number_of_places = some ⟨ocF_check_number_of_places, odF_check_number_of_places, .func (PySem.W.fnOf "_check_number_of_places" "_check_number_of_places" (defArgs s_check_number_of_places) (defBody s_check_number_of_places) (defScope s_check_number_of_places) .none kVF_check_number_of_places dcF_check_number_of_places pmF_check_number_of_places anF_check_number_of_places cdF_check_number_of_places ctF_check_number_of_places), slF_check_number_of_places⟩)
    (cF_check_number_of_places : PySem.W.codeIn K cdF_check_number_of_places "_check_number_of_places" = true)
    (kF_check_number_of_places : PySem.W.keepIn K (.ref fF_check_number_of_places) = true)
    (aL_source : PySem.W.nsIn K mainGlobals "_law_source" = some (some (.ref fL_source)))
    (lL_source : K.lookup fL_source = some ⟨ocL_source, odL_source, .func (PySem.W.fnOf "_law_source" "_law_source" (defArgs s_source) (defBody s_source) (defScope s_source) .none kVL_source dcL_source pmL_source anL_source cdL_source ctL_source), slL_source⟩)
    (cL_source : PySem.W.codeIn K cdL_source "_law_source" = true)
    (kL_source : PySem.W.keepIn K (.ref fL_source) = true)
    (aL_draw : PySem.W.nsIn K mainGlobals "_law_draw" = some (some (.ref fL_draw)))
    (lL_draw : K.lookup fL_draw = some ⟨ocL_draw, odL_draw, .func (PySem.W.fnOf "_law_draw" "_law_draw" (defArgs s_draw) (defBody s_draw) (defScope s_draw) .none kVL_draw dcL_draw pmL_draw anL_draw cdL_draw ctL_draw), slL_draw⟩)
    (cL_draw : PySem.W.codeIn K cdL_draw "_law_draw" = true)
    (kL_draw : PySem.W.keepIn K (.ref fL_draw) = true)
    (aL_pick : PySem.W.nsIn K mainGlobals "_law_pick" = some (some (.ref fL_pick)))
    (lL_pick : K.lookup fL_pick = some ⟨ocL_pick, odL_pick, .func (PySem.W.fnOf "_law_pick" "_law_pick" (defArgs s_pick) (defBody s_pick) (defScope s_pick) .none kVL_pick dcL_pick pmL_pick anL_pick cdL_pick ctL_pick), slL_pick⟩)
    (cL_pick : PySem.W.codeIn K cdL_pick "_law_pick" = true)
    (kL_pick : PySem.W.keepIn K (.ref fL_pick) = true)
    (aL_same : PySem.W.nsIn K mainGlobals "_law_same" = some (some (.ref fL_same)))
    (lL_same : K.lookup fL_same = some ⟨ocL_same, odL_same, .func (PySem.W.fnOf "_law_same" "_law_same" (defArgs s_same) (defBody s_same) (defScope s_same) .none kVL_same dcL_same pmL_same anL_same cdL_same ctL_same), slL_same⟩)
    (cL_same : PySem.W.codeIn K cdL_same "_law_same" = true)
    (kL_same : PySem.W.keepIn K (.ref fL_same) = true)
    (aL_plain : PySem.W.nsIn K mainGlobals "_law_plain" = some (some (.ref fL_plain)))
    (lL_plain : K.lookup fL_plain = some ⟨ocL_plain, odL_plain, .func (PySem.W.fnOf "_law_plain" "_law_plain" (defArgs s_plain) (defBody s_plain) (defScope s_plain) .none kVL_plain dcL_plain pmL_plain anL_plain cdL_plain ctL_plain), slL_plain⟩)
    (cL_plain : PySem.W.codeIn K cdL_plain "_law_plain" = true)
    (kL_plain : PySem.W.keepIn K (.ref fL_plain) = true)
    (aL_spec : PySem.W.nsIn K mainGlobals "_law_spec" = some (some (.ref fL_spec)))
    (lL_spec : K.lookup fL_spec = some ⟨ocL_spec, odL_spec, .func (PySem.W.fnOf "_law_spec" "_law_spec" (defArgs s_spec) (defBody s_spec) (defScope s_spec) .none kVL_spec dcL_spec pmL_spec anL_spec cdL_spec ctL_spec), slL_spec⟩)
    (cL_spec : PySem.W.codeIn K cdL_spec "_law_spec" = true)
    (kL_spec : PySem.W.keepIn K (.ref fL_spec) = true)
    (aL_built : PySem.W.nsIn K mainGlobals "_law_built" = some (some (.ref fL_built)))
    (lL_built : K.lookup fL_built = some ⟨ocL_built, odL_built, .func (PySem.W.fnOf "_law_built" "_law_built" (defArgs s_built) (defBody s_built) (defScope s_built) .none kVL_built dcL_built pmL_built anL_built cdL_built ctL_built), slL_built⟩)
    (cL_built : PySem.W.codeIn K cdL_built "_law_built" = true)
    (kL_built : PySem.W.keepIn K (.ref fL_built) = true)
    (aL_part : PySem.W.nsIn K mainGlobals "_law_part" = some (some (.ref fL_part)))
    (lL_part : K.lookup fL_part = some ⟨ocL_part, odL_part, .func (PySem.W.fnOf "_law_part" "_law_part" (defArgs s_part) (defBody s_part) (defScope s_part) .none kVL_part dcL_part pmL_part anL_part cdL_part ctL_part), slL_part⟩)
    (cL_part : PySem.W.codeIn K cdL_part "_law_part" = true)
    (kL_part : PySem.W.keepIn K (.ref fL_part) = true)
    (aL_joint : PySem.W.nsIn K mainGlobals "_law_joint" = some (some (.ref fL_joint)))
    (lL_joint : K.lookup fL_joint = some ⟨ocL_joint, odL_joint, .func (PySem.W.fnOf "_law_joint" "_law_joint" (defArgs s_joint) (defBody s_joint) (defScope s_joint) .none kVL_joint dcL_joint pmL_joint anL_joint cdL_joint ctL_joint), slL_joint⟩)
    (cL_joint : PySem.W.codeIn K cdL_joint "_law_joint" = true)
    (kL_joint : PySem.W.keepIn K (.ref fL_joint) = true)
    (aL_pair : PySem.W.nsIn K mainGlobals "_law_pair" = some (some (.ref fL_pair)))
    (lL_pair : K.lookup fL_pair = some ⟨ocL_pair, odL_pair, .func (PySem.W.fnOf "_law_pair" "_law_pair" (defArgs s_pair) (defBody s_pair) (defScope s_pair) .none kVL_pair dcL_pair pmL_pair anL_pair cdL_pair ctL_pair), slL_pair⟩)
    (cL_pair : PySem.W.codeIn K cdL_pair "_law_pair" = true)
    (kL_pair : PySem.W.keepIn K (.ref fL_pair) = true)
    (aL_end : PySem.W.nsIn K mainGlobals "_law_end" = some (some (.ref fL_end)))
    (lL_end : K.lookup fL_end = some ⟨ocL_end, odL_end, .func (PySem.W.fnOf "_law_end" "_law_end" (defArgs s_end) (defBody s_end) (defScope s_end) .none kVL_end dcL_end pmL_end anL_end cdL_end ctL_end), slL_end⟩)
    (cL_end : PySem.W.codeIn K cdL_end "_law_end" = true)
    (kL_end : PySem.W.keepIn K (.ref fL_end) = true)
    (aL_places : PySem.W.nsIn K mainGlobals "_law_places" = some (some (.ref fL_places)))
    (lL_places : K.lookup fL_places = some ⟨ocL_places, odL_places, .func (PySem.W.fnOf "_law_places" "_law_places" (defArgs s_places) (defBody s_places) (defScope s_places) .none kVL_places dcL_places pmL_places anL_places cdL_places ctL_places), slL_places⟩)
    (cL_places : PySem.W.codeIn K cdL_places "_law_places" = true)
    (kL_places : PySem.W.keepIn K (.ref fL_places) = true)
    (aL_ends : PySem.W.nsIn K mainGlobals "_law_ends" = some (some (.ref fL_ends)))
    (lL_ends : K.lookup fL_ends = some ⟨ocL_ends, odL_ends, .func (PySem.W.fnOf "_law_ends" "_law_ends" (defArgs s_ends) (defBody s_ends) (defScope s_ends) .none kVL_ends dcL_ends pmL_ends anL_ends (.ref cAe) ctL_ends), slL_ends⟩)
    (cL_ends : PySem.W.codeIn K (.ref cAe) "_law_ends" = true)
    (kL_ends : PySem.W.keepIn K (.ref fL_ends) = true)
    (lAe : K.lookup cAe = some ⟨eAe, dAe, .fields vsAe, slAe⟩)
    (ve : vsAe[11]? = some (.ref PTe))
    (hdAe : PySem.W.codeHdIn K cAe PTe = true)
    (nPTe : K.lookup PTe = none)
    (aL_refused : PySem.W.nsIn K mainGlobals "_law_refused" = some (some (.ref fL_refused)))
    (lL_refused : K.lookup fL_refused = some ⟨ocL_refused, odL_refused, .func (PySem.W.fnOf "_law_refused" "_law_refused" (defArgs s_refused) (defBody s_refused) (defScope s_refused) .none kVL_refused dcL_refused pmL_refused anL_refused (.ref cAr) ctL_refused), slL_refused⟩)
    (cL_refused : PySem.W.codeIn K (.ref cAr) "_law_refused" = true)
    (kL_refused : PySem.W.keepIn K (.ref fL_refused) = true)
    (lAr : K.lookup cAr = some ⟨eAr, dAr, .fields vsAr, slAr⟩)
    (vr : vsAr[11]? = some (.ref PTr))
    (hdAr : PySem.W.codeHdIn K cAr PTr = true)
    (nPTr : K.lookup PTr = none)
    (aL_law : PySem.W.nsIn K mainGlobals "law" = some (some (.ref fL_law)))
    (lL_law : K.lookup fL_law = some ⟨ocL_law, odL_law, .func (PySem.W.fnOf "law" "law" (defArgs s_law) (defBody s_law) (defScope s_law) .none kVL_law dcL_law pmL_law anL_law (.ref cAl) ctL_law), slL_law⟩)
    (cL_law : PySem.W.codeIn K (.ref cAl) "law" = true)
    (kL_law : PySem.W.keepIn K (.ref fL_law) = true)
    (lAl : K.lookup cAl = some ⟨eAl, dAl, .fields vsAl, slAl⟩)
    (vl : vsAl[11]? = some (.ref PTl))
    (hdAl : PySem.W.codeHdIn K cAl PTl = true)
    (nPTl : K.lookup PTl = none)
    (aCha : PySem.W.nsIn K mainGlobals "Halves" = some (some (.ref Cha)))
    (pgha : PySem.W.plainGet K Cha Str.empty = true)
    (hdha : PySem.W.hasDictIn K Cha = true)
    (poha : PySem.W.plainOver K Cha = true)
    (saha : PySem.W.findIn K (.ref Cha) "__setattr__" = some (some (.builtin "object.__setattr__")))
    (mkha : PySem.W.makesIn K Cha = true)
    (kcha : PySem.W.keepIn K (.ref Cha) = true)
    (sfha : PySem.W.selfFirst K Cha = true)
    (nha_places : PySem.W.findIn K (.ref Cha) "places" = some none)
    (nha_most : PySem.W.findIn K (.ref Cha) "most" = some none)
    (nha_kind : PySem.W.findIn K (.ref Cha) "kind" = some none)
    (nha_word : PySem.W.findIn K (.ref Cha) "word" = some none)
    (nha_one : PySem.W.findIn K (.ref Cha) "one" = some none)
    (nha_other : PySem.W.findIn K (.ref Cha) "other" = some none)
    (rha_rand : PySem.W.findIn K (.ref Cha) "__rand__" = some none)
    (rha_ror : PySem.W.findIn K (.ref Cha) "__ror__" = some none)
    (rha_radd : PySem.W.findIn K (.ref Cha) "__radd__" = some none)
    (qhha : PySem.W.findIn K (.ref Cha) "__class__" = some (some (.builtin "object.__class__")))
    (qnha : PySem.W.findIn K (.ref Cha) "__ne__" = some (some (.builtin "object.__ne__")))
    (qmha : PySem.W.mroIn K Cha (.type "object") = some true)
    (qcha : PySem.W.isClsIn K Cha = true)
    (qtha : PySem.W.typeIn K (.ref Cha) = some (.type "type"))
    (qsha : PySem.W.subIn K (.ref Cha) (.ref Cha) = some true)
    (qoha : PySem.W.subIn K (.ref Cha) (.type "object") = some true)
    (aMha_init : PySem.W.findIn K (.ref Cha) "__init__" = some (some (.ref fMha_init)))
    (iMha_init : PySem.W.isFn K (.ref fMha_init) = true)
    (lMha_init : K.lookup fMha_init = some ⟨ocMha_init, odMha_init, .func (PySem.W.fnOf "__init__" "Halves.__init__" (defArgs s_Halves_init) (defBody s_Halves_init) (defScope s_Halves_init) .none kVMha_init dcMha_init pmMha_init anMha_init cdMha_init ctMha_init), slMha_init⟩)
    (cMha_init : PySem.W.codeIn K cdMha_init "Halves.__init__" = true)
    (kMha_init : PySem.W.keepIn K (.ref fMha_init) = true)
    (aMha_invert : PySem.W.findIn K (.ref Cha) "__invert__" = some (some (.ref fMha_invert)))
    (iMha_invert : PySem.W.isFn K (.ref fMha_invert) = true)
    (lMha_invert : K.lookup fMha_invert = some ⟨ocMha_invert, odMha_invert, .func (PySem.W.fnOf "__invert__" "Halves.__invert__" (defArgs s_Halves_invert) (defBody s_Halves_invert) (defScope s_Halves_invert) .none kVMha_invert dcMha_invert pmMha_invert anMha_invert cdMha_invert ctMha_invert), slMha_invert⟩)
    (cMha_invert : PySem.W.codeIn K cdMha_invert "Halves.__invert__" = true)
    (kMha_invert : PySem.W.keepIn K (.ref fMha_invert) = true)
    (aMha_and : PySem.W.findIn K (.ref Cha) "__and__" = some (some (.ref fMha_and)))
    (iMha_and : PySem.W.isFn K (.ref fMha_and) = true)
    (lMha_and : K.lookup fMha_and = some ⟨ocMha_and, odMha_and, .func (PySem.W.fnOf "__and__" "Halves.__and__" (defArgs s_Halves_and) (defBody s_Halves_and) (defScope s_Halves_and) .none kVMha_and dcMha_and pmMha_and anMha_and cdMha_and ctMha_and), slMha_and⟩)
    (cMha_and : PySem.W.codeIn K cdMha_and "Halves.__and__" = true)
    (kMha_and : PySem.W.keepIn K (.ref fMha_and) = true)
    (aMha_or : PySem.W.findIn K (.ref Cha) "__or__" = some (some (.ref fMha_or)))
    (iMha_or : PySem.W.isFn K (.ref fMha_or) = true)
    (lMha_or : K.lookup fMha_or = some ⟨ocMha_or, odMha_or, .func (PySem.W.fnOf "__or__" "Halves.__or__" (defArgs s_Halves_or) (defBody s_Halves_or) (defScope s_Halves_or) .none kVMha_or dcMha_or pmMha_or anMha_or cdMha_or ctMha_or), slMha_or⟩)
    (cMha_or : PySem.W.codeIn K cdMha_or "Halves.__or__" = true)
    (kMha_or : PySem.W.keepIn K (.ref fMha_or) = true)
    (aMha_add : PySem.W.findIn K (.ref Cha) "__add__" = some (some (.ref fMha_add)))
    (iMha_add : PySem.W.isFn K (.ref fMha_add) = true)
    (lMha_add : K.lookup fMha_add = some ⟨ocMha_add, odMha_add, .func (PySem.W.fnOf "__add__" "Halves.__add__" (defArgs s_Halves_add) (defBody s_Halves_add) (defScope s_Halves_add) .none kVMha_add dcMha_add pmMha_add anMha_add cdMha_add ctMha_add), slMha_add⟩)
    (cMha_add : PySem.W.codeIn K cdMha_add "Halves.__add__" = true)
    (kMha_add : PySem.W.keepIn K (.ref fMha_add) = true)
    (aMha_eq : PySem.W.findIn K (.ref Cha) "__eq__" = some (some (.ref fMha_eq)))
    (iMha_eq : PySem.W.isFn K (.ref fMha_eq) = true)
    (lMha_eq : K.lookup fMha_eq = some ⟨ocMha_eq, odMha_eq, .func (PySem.W.fnOf "__eq__" "Halves.__eq__" (defArgs s_Halves_eq) (defBody s_Halves_eq) (defScope s_Halves_eq) .none kVMha_eq dcMha_eq pmMha_eq anMha_eq cdMha_eq ctMha_eq), slMha_eq⟩)
    (cMha_eq : PySem.W.codeIn K cdMha_eq "Halves.__eq__" = true)
    (kMha_eq : PySem.W.keepIn K (.ref fMha_eq) = true)
    (aCbo : PySem.W.nsIn K mainGlobals "Boxes" = some (some (.ref Cbo)))
    (pgbo : PySem.W.plainGet K Cbo Str.empty = true)
    (hdbo : PySem.W.hasDictIn K Cbo = true)
    (pobo : PySem.W.plainOver K Cbo = true)
    (sabo : PySem.W.findIn K (.ref Cbo) "__setattr__" = some (some (.builtin "object.__setattr__")))
    (mkbo : PySem.W.makesIn K Cbo = true)
    (kcbo : PySem.W.keepIn K (.ref Cbo) = true)
    (sfbo : PySem.W.selfFirst K Cbo = true)
    (nbo_places : PySem.W.findIn K (.ref Cbo) "places" = some none)
    (nbo_most : PySem.W.findIn K (.ref Cbo) "most" = some none)
    (nbo_kind : PySem.W.findIn K (.ref Cbo) "kind" = some none)
    (nbo_word : PySem.W.findIn K (.ref Cbo) "word" = some none)
    (nbo_one : PySem.W.findIn K (.ref Cbo) "one" = some none)
    (nbo_other : PySem.W.findIn K (.ref Cbo) "other" = some none)
    (rbo_rand : PySem.W.findIn K (.ref Cbo) "__rand__" = some none)
    (rbo_ror : PySem.W.findIn K (.ref Cbo) "__ror__" = some none)
    (rbo_radd : PySem.W.findIn K (.ref Cbo) "__radd__" = some none)
    (qhbo : PySem.W.findIn K (.ref Cbo) "__class__" = some (some (.builtin "object.__class__")))
    (qnbo : PySem.W.findIn K (.ref Cbo) "__ne__" = some (some (.builtin "object.__ne__")))
    (qmbo : PySem.W.mroIn K Cbo (.type "object") = some true)
    (qcbo : PySem.W.isClsIn K Cbo = true)
    (qtbo : PySem.W.typeIn K (.ref Cbo) = some (.type "type"))
    (qsbo : PySem.W.subIn K (.ref Cbo) (.ref Cbo) = some true)
    (qobo : PySem.W.subIn K (.ref Cbo) (.type "object") = some true)
    (aMbo_init : PySem.W.findIn K (.ref Cbo) "__init__" = some (some (.ref fMbo_init)))
    (iMbo_init : PySem.W.isFn K (.ref fMbo_init) = true)
    (lMbo_init : K.lookup fMbo_init = some ⟨ocMbo_init, odMbo_init, .func (PySem.W.fnOf "__init__" "Boxes.__init__" (defArgs s_Boxes_init) (defBody s_Boxes_init) (defScope s_Boxes_init) .none kVMbo_init dcMbo_init pmMbo_init anMbo_init cdMbo_init ctMbo_init), slMbo_init⟩)
    (cMbo_init : PySem.W.codeIn K cdMbo_init "Boxes.__init__" = true)
    (kMbo_init : PySem.W.keepIn K (.ref fMbo_init) = true)
    (aMbo_invert : PySem.W.findIn K (.ref Cbo) "__invert__" = some (some (.ref fMbo_invert)))
    (iMbo_invert : PySem.W.isFn K (.ref fMbo_invert) = true)
    (lMbo_invert : K.lookup fMbo_invert = some ⟨ocMbo_invert, odMbo_invert, .func (PySem.W.fnOf "__invert__" "Boxes.__invert__" (defArgs s_Boxes_invert) (defBody s_Boxes_invert) (defScope s_Boxes_invert) .none kVMbo_invert dcMbo_invert pmMbo_invert anMbo_invert cdMbo_invert ctMbo_invert), slMbo_invert⟩)
    (cMbo_invert : PySem.W.codeIn K cdMbo_invert "Boxes.__invert__" = true)
    (kMbo_invert : PySem.W.keepIn K (.ref fMbo_invert) = true)
    (aMbo_and : PySem.W.findIn K (.ref Cbo) "__and__" = some (some (.ref fMbo_and)))
    (iMbo_and : PySem.W.isFn K (.ref fMbo_and) = true)
    (lMbo_and : K.lookup fMbo_and = some ⟨ocMbo_and, odMbo_and, .func (PySem.W.fnOf "__and__" "Boxes.__and__" (defArgs s_Boxes_and) (defBody s_Boxes_and) (defScope s_Boxes_and) .none kVMbo_and dcMbo_and pmMbo_and anMbo_and cdMbo_and ctMbo_and), slMbo_and⟩)
    (cMbo_and : PySem.W.codeIn K cdMbo_and "Boxes.__and__" = true)
    (kMbo_and : PySem.W.keepIn K (.ref fMbo_and) = true)
    (aMbo_or : PySem.W.findIn K (.ref Cbo) "__or__" = some (some (.ref fMbo_or)))
    (iMbo_or : PySem.W.isFn K (.ref fMbo_or) = true)
    (lMbo_or : K.lookup fMbo_or = some ⟨ocMbo_or, odMbo_or, .func (PySem.W.fnOf "__or__" "Boxes.__or__" (defArgs s_Boxes_or) (defBody s_Boxes_or) (defScope s_Boxes_or) .none kVMbo_or dcMbo_or pmMbo_or anMbo_or cdMbo_or ctMbo_or), slMbo_or⟩)
    (cMbo_or : PySem.W.codeIn K cdMbo_or "Boxes.__or__" = true)
    (kMbo_or : PySem.W.keepIn K (.ref fMbo_or) = true)
    (aMbo_add : PySem.W.findIn K (.ref Cbo) "__add__" = some (some (.ref fMbo_add)))
    (iMbo_add : PySem.W.isFn K (.ref fMbo_add) = true)
    (lMbo_add : K.lookup fMbo_add = some ⟨ocMbo_add, odMbo_add, .func (PySem.W.fnOf "__add__" "Boxes.__add__" (defArgs s_Boxes_add) (defBody s_Boxes_add) (defScope s_Boxes_add) .none kVMbo_add dcMbo_add pmMbo_add anMbo_add cdMbo_add ctMbo_add), slMbo_add⟩)
    (cMbo_add : PySem.W.codeIn K cdMbo_add "Boxes.__add__" = true)
    (kMbo_add : PySem.W.keepIn K (.ref fMbo_add) = true)
    (aMbo_eq : PySem.W.findIn K (.ref Cbo) "__eq__" = some (some (.ref fMbo_eq)))
    (iMbo_eq : PySem.W.isFn K (.ref fMbo_eq) = true)
    (lMbo_eq : K.lookup fMbo_eq = some ⟨ocMbo_eq, odMbo_eq, .func (PySem.W.fnOf "__eq__" "Boxes.__eq__" (defArgs s_Boxes_eq) (defBody s_Boxes_eq) (defScope s_Boxes_eq) .none kVMbo_eq dcMbo_eq pmMbo_eq anMbo_eq cdMbo_eq ctMbo_eq), slMbo_eq⟩)
    (cMbo_eq : PySem.W.codeIn K cdMbo_eq "Boxes.__eq__" = true)
    (kMbo_eq : PySem.W.keepIn K (.ref fMbo_eq) = true)
    (aCri : PySem.W.nsIn K mainGlobals "Rising" = some (some (.ref Cri)))
    (pgri : PySem.W.plainGet K Cri Str.empty = true)
    (hdri : PySem.W.hasDictIn K Cri = true)
    (pori : PySem.W.plainOver K Cri = true)
    (sari : PySem.W.findIn K (.ref Cri) "__setattr__" = some (some (.builtin "object.__setattr__")))
    (mkri : PySem.W.makesIn K Cri = true)
    (kcri : PySem.W.keepIn K (.ref Cri) = true)
    (sfri : PySem.W.selfFirst K Cri = true)
    (nri_places : PySem.W.findIn K (.ref Cri) "places" = some none)
    (nri_most : PySem.W.findIn K (.ref Cri) "most" = some none)
    (nri_kind : PySem.W.findIn K (.ref Cri) "kind" = some none)
    (nri_word : PySem.W.findIn K (.ref Cri) "word" = some none)
    (nri_one : PySem.W.findIn K (.ref Cri) "one" = some none)
    (nri_other : PySem.W.findIn K (.ref Cri) "other" = some none)
    (rri_rand : PySem.W.findIn K (.ref Cri) "__rand__" = some none)
    (rri_ror : PySem.W.findIn K (.ref Cri) "__ror__" = some none)
    (rri_radd : PySem.W.findIn K (.ref Cri) "__radd__" = some none)
    (qhri : PySem.W.findIn K (.ref Cri) "__class__" = some (some (.builtin "object.__class__")))
    (qnri : PySem.W.findIn K (.ref Cri) "__ne__" = some (some (.builtin "object.__ne__")))
    (qmri : PySem.W.mroIn K Cri (.type "object") = some true)
    (qcri : PySem.W.isClsIn K Cri = true)
    (qtri : PySem.W.typeIn K (.ref Cri) = some (.type "type"))
    (qsri : PySem.W.subIn K (.ref Cri) (.ref Cri) = some true)
    (qori : PySem.W.subIn K (.ref Cri) (.type "object") = some true)
    (aMri_init : PySem.W.findIn K (.ref Cri) "__init__" = some (some (.ref fMri_init)))
    (iMri_init : PySem.W.isFn K (.ref fMri_init) = true)
    (lMri_init : K.lookup fMri_init = some ⟨ocMri_init, odMri_init, .func (PySem.W.fnOf "__init__" "Rising.__init__" (defArgs s_Rising_init) (defBody s_Rising_init) (defScope s_Rising_init) .none kVMri_init dcMri_init pmMri_init anMri_init cdMri_init ctMri_init), slMri_init⟩)
    (cMri_init : PySem.W.codeIn K cdMri_init "Rising.__init__" = true)
    (kMri_init : PySem.W.keepIn K (.ref fMri_init) = true)
    (aMri_invert : PySem.W.findIn K (.ref Cri) "__invert__" = some (some (.ref fMri_invert)))
    (iMri_invert : PySem.W.isFn K (.ref fMri_invert) = true)
    (lMri_invert : K.lookup fMri_invert = some ⟨ocMri_invert, odMri_invert, .func (PySem.W.fnOf "__invert__" "Rising.__invert__" (defArgs s_Rising_invert) (defBody s_Rising_invert) (defScope s_Rising_invert) .none kVMri_invert dcMri_invert pmMri_invert anMri_invert cdMri_invert ctMri_invert), slMri_invert⟩)
    (cMri_invert : PySem.W.codeIn K cdMri_invert "Rising.__invert__" = true)
    (kMri_invert : PySem.W.keepIn K (.ref fMri_invert) = true)
    (aMri_and : PySem.W.findIn K (.ref Cri) "__and__" = some (some (.ref fMri_and)))
    (iMri_and : PySem.W.isFn K (.ref fMri_and) = true)
    (lMri_and : K.lookup fMri_and = some ⟨ocMri_and, odMri_and, .func (PySem.W.fnOf "__and__" "Rising.__and__" (defArgs s_Rising_and) (defBody s_Rising_and) (defScope s_Rising_and) .none kVMri_and dcMri_and pmMri_and anMri_and cdMri_and ctMri_and), slMri_and⟩)
    (cMri_and : PySem.W.codeIn K cdMri_and "Rising.__and__" = true)
    (kMri_and : PySem.W.keepIn K (.ref fMri_and) = true)
    (aMri_or : PySem.W.findIn K (.ref Cri) "__or__" = some (some (.ref fMri_or)))
    (iMri_or : PySem.W.isFn K (.ref fMri_or) = true)
    (lMri_or : K.lookup fMri_or = some ⟨ocMri_or, odMri_or, .func (PySem.W.fnOf "__or__" "Rising.__or__" (defArgs s_Rising_or) (defBody s_Rising_or) (defScope s_Rising_or) .none kVMri_or dcMri_or pmMri_or anMri_or cdMri_or ctMri_or), slMri_or⟩)
    (cMri_or : PySem.W.codeIn K cdMri_or "Rising.__or__" = true)
    (kMri_or : PySem.W.keepIn K (.ref fMri_or) = true)
    (aMri_add : PySem.W.findIn K (.ref Cri) "__add__" = some (some (.ref fMri_add)))
    (iMri_add : PySem.W.isFn K (.ref fMri_add) = true)
    (lMri_add : K.lookup fMri_add = some ⟨ocMri_add, odMri_add, .func (PySem.W.fnOf "__add__" "Rising.__add__" (defArgs s_Rising_add) (defBody s_Rising_add) (defScope s_Rising_add) .none kVMri_add dcMri_add pmMri_add anMri_add cdMri_add ctMri_add), slMri_add⟩)
    (cMri_add : PySem.W.codeIn K cdMri_add "Rising.__add__" = true)
    (kMri_add : PySem.W.keepIn K (.ref fMri_add) = true)
    (aMri_eq : PySem.W.findIn K (.ref Cri) "__eq__" = some (some (.ref fMri_eq)))
    (iMri_eq : PySem.W.isFn K (.ref fMri_eq) = true)
    (lMri_eq : K.lookup fMri_eq = some ⟨ocMri_eq, odMri_eq, .func (PySem.W.fnOf "__eq__" "Rising.__eq__" (defArgs s_Rising_eq) (defBody s_Rising_eq) (defScope s_Rising_eq) .none kVMri_eq dcMri_eq pmMri_eq anMri_eq cdMri_eq ctMri_eq), slMri_eq⟩)
    (cMri_eq : PySem.W.codeIn K cdMri_eq "Rising.__eq__" = true)
    (kMri_eq : PySem.W.keepIn K (.ref fMri_eq) = true)
    (aCfl : PySem.W.nsIn K mainGlobals "Flats" = some (some (.ref Cfl)))
    (pgfl : PySem.W.plainGet K Cfl Str.empty = true)
    (hdfl : PySem.W.hasDictIn K Cfl = true)
    (pofl : PySem.W.plainOver K Cfl = true)
    (safl : PySem.W.findIn K (.ref Cfl) "__setattr__" = some (some (.builtin "object.__setattr__")))
    (mkfl : PySem.W.makesIn K Cfl = true)
    (kcfl : PySem.W.keepIn K (.ref Cfl) = true)
    (sffl : PySem.W.selfFirst K Cfl = true)
    (nfl_places : PySem.W.findIn K (.ref Cfl) "places" = some none)
    (nfl_most : PySem.W.findIn K (.ref Cfl) "most" = some none)
    (nfl_kind : PySem.W.findIn K (.ref Cfl) "kind" = some none)
    (nfl_word : PySem.W.findIn K (.ref Cfl) "word" = some none)
    (nfl_one : PySem.W.findIn K (.ref Cfl) "one" = some none)
    (nfl_other : PySem.W.findIn K (.ref Cfl) "other" = some none)
    (rfl_rand : PySem.W.findIn K (.ref Cfl) "__rand__" = some none)
    (rfl_ror : PySem.W.findIn K (.ref Cfl) "__ror__" = some none)
    (rfl_radd : PySem.W.findIn K (.ref Cfl) "__radd__" = some none)
    (qhfl : PySem.W.findIn K (.ref Cfl) "__class__" = some (some (.builtin "object.__class__")))
    (qnfl : PySem.W.findIn K (.ref Cfl) "__ne__" = some (some (.builtin "object.__ne__")))
    (qmfl : PySem.W.mroIn K Cfl (.type "object") = some true)
    (qcfl : PySem.W.isClsIn K Cfl = true)
    (qtfl : PySem.W.typeIn K (.ref Cfl) = some (.type "type"))
    (qsfl : PySem.W.subIn K (.ref Cfl) (.ref Cfl) = some true)
    (qofl : PySem.W.subIn K (.ref Cfl) (.type "object") = some true)
    (aMfl_init : PySem.W.findIn K (.ref Cfl) "__init__" = some (some (.ref fMfl_init)))
    (iMfl_init : PySem.W.isFn K (.ref fMfl_init) = true)
    (lMfl_init : K.lookup fMfl_init = some ⟨ocMfl_init, odMfl_init, .func (PySem.W.fnOf "__init__" "Flats.__init__" (defArgs s_Flats_init) (defBody s_Flats_init) (defScope s_Flats_init) .none kVMfl_init dcMfl_init pmMfl_init anMfl_init cdMfl_init ctMfl_init), slMfl_init⟩)
    (cMfl_init : PySem.W.codeIn K cdMfl_init "Flats.__init__" = true)
    (kMfl_init : PySem.W.keepIn K (.ref fMfl_init) = true)
    (aMfl_invert : PySem.W.findIn K (.ref Cfl) "__invert__" = some (some (.ref fMfl_invert)))
    (iMfl_invert : PySem.W.isFn K (.ref fMfl_invert) = true)
    (lMfl_invert : K.lookup fMfl_invert = some ⟨ocMfl_invert, odMfl_invert, .func (PySem.W.fnOf "__invert__" "Flats.__invert__" (defArgs s_Flats_invert) (defBody s_Flats_invert) (defScope s_Flats_invert) .none kVMfl_invert dcMfl_invert pmMfl_invert anMfl_invert cdMfl_invert ctMfl_invert), slMfl_invert⟩)
    (cMfl_invert : PySem.W.codeIn K cdMfl_invert "Flats.__invert__" = true)
    (kMfl_invert : PySem.W.keepIn K (.ref fMfl_invert) = true)
    (aMfl_and : PySem.W.findIn K (.ref Cfl) "__and__" = some (some (.ref fMfl_and)))
    (iMfl_and : PySem.W.isFn K (.ref fMfl_and) = true)
    (lMfl_and : K.lookup fMfl_and = some ⟨ocMfl_and, odMfl_and, .func (PySem.W.fnOf "__and__" "Flats.__and__" (defArgs s_Flats_and) (defBody s_Flats_and) (defScope s_Flats_and) .none kVMfl_and dcMfl_and pmMfl_and anMfl_and cdMfl_and ctMfl_and), slMfl_and⟩)
    (cMfl_and : PySem.W.codeIn K cdMfl_and "Flats.__and__" = true)
    (kMfl_and : PySem.W.keepIn K (.ref fMfl_and) = true)
    (aMfl_or : PySem.W.findIn K (.ref Cfl) "__or__" = some (some (.ref fMfl_or)))
    (iMfl_or : PySem.W.isFn K (.ref fMfl_or) = true)
    (lMfl_or : K.lookup fMfl_or = some ⟨ocMfl_or, odMfl_or, .func (PySem.W.fnOf "__or__" "Flats.__or__" (defArgs s_Flats_or) (defBody s_Flats_or) (defScope s_Flats_or) .none kVMfl_or dcMfl_or pmMfl_or anMfl_or cdMfl_or ctMfl_or), slMfl_or⟩)
    (cMfl_or : PySem.W.codeIn K cdMfl_or "Flats.__or__" = true)
    (kMfl_or : PySem.W.keepIn K (.ref fMfl_or) = true)
    (aMfl_add : PySem.W.findIn K (.ref Cfl) "__add__" = some (some (.ref fMfl_add)))
    (iMfl_add : PySem.W.isFn K (.ref fMfl_add) = true)
    (lMfl_add : K.lookup fMfl_add = some ⟨ocMfl_add, odMfl_add, .func (PySem.W.fnOf "__add__" "Flats.__add__" (defArgs s_Flats_add) (defBody s_Flats_add) (defScope s_Flats_add) .none kVMfl_add dcMfl_add pmMfl_add anMfl_add cdMfl_add ctMfl_add), slMfl_add⟩)
    (cMfl_add : PySem.W.codeIn K cdMfl_add "Flats.__add__" = true)
    (kMfl_add : PySem.W.keepIn K (.ref fMfl_add) = true)
    (aMfl_eq : PySem.W.findIn K (.ref Cfl) "__eq__" = some (some (.ref fMfl_eq)))
    (iMfl_eq : PySem.W.isFn K (.ref fMfl_eq) = true)
    (lMfl_eq : K.lookup fMfl_eq = some ⟨ocMfl_eq, odMfl_eq, .func (PySem.W.fnOf "__eq__" "Flats.__eq__" (defArgs s_Flats_eq) (defBody s_Flats_eq) (defScope s_Flats_eq) .none kVMfl_eq dcMfl_eq pmMfl_eq anMfl_eq cdMfl_eq ctMfl_eq), slMfl_eq⟩)
    (cMfl_eq : PySem.W.codeIn K cdMfl_eq "Flats.__eq__" = true)
    (kMfl_eq : PySem.W.keepIn K (.ref fMfl_eq) = true)
    (aCtu : PySem.W.nsIn K mainGlobals "Turns" = some (some (.ref Ctu)))
    (pgtu : PySem.W.plainGet K Ctu Str.empty = true)
    (hdtu : PySem.W.hasDictIn K Ctu = true)
    (potu : PySem.W.plainOver K Ctu = true)
    (satu : PySem.W.findIn K (.ref Ctu) "__setattr__" = some (some (.builtin "object.__setattr__")))
    (mktu : PySem.W.makesIn K Ctu = true)
    (kctu : PySem.W.keepIn K (.ref Ctu) = true)
    (sftu : PySem.W.selfFirst K Ctu = true)
    (ntu_places : PySem.W.findIn K (.ref Ctu) "places" = some none)
    (ntu_most : PySem.W.findIn K (.ref Ctu) "most" = some none)
    (ntu_kind : PySem.W.findIn K (.ref Ctu) "kind" = some none)
    (ntu_word : PySem.W.findIn K (.ref Ctu) "word" = some none)
    (ntu_one : PySem.W.findIn K (.ref Ctu) "one" = some none)
    (ntu_other : PySem.W.findIn K (.ref Ctu) "other" = some none)
    (rtu_rand : PySem.W.findIn K (.ref Ctu) "__rand__" = some none)
    (rtu_ror : PySem.W.findIn K (.ref Ctu) "__ror__" = some none)
    (rtu_radd : PySem.W.findIn K (.ref Ctu) "__radd__" = some none)
    (qhtu : PySem.W.findIn K (.ref Ctu) "__class__" = some (some (.builtin "object.__class__")))
    (qntu : PySem.W.findIn K (.ref Ctu) "__ne__" = some (some (.builtin "object.__ne__")))
    (qmtu : PySem.W.mroIn K Ctu (.type "object") = some true)
    (qctu : PySem.W.isClsIn K Ctu = true)
    (qttu : PySem.W.typeIn K (.ref Ctu) = some (.type "type"))
    (qstu : PySem.W.subIn K (.ref Ctu) (.ref Ctu) = some true)
    (qotu : PySem.W.subIn K (.ref Ctu) (.type "object") = some true)
    (aMtu_init : PySem.W.findIn K (.ref Ctu) "__init__" = some (some (.ref fMtu_init)))
    (iMtu_init : PySem.W.isFn K (.ref fMtu_init) = true)
    (lMtu_init : K.lookup fMtu_init = some ⟨ocMtu_init, odMtu_init, .func (PySem.W.fnOf "__init__" "Turns.__init__" (defArgs s_Turns_init) (defBody s_Turns_init) (defScope s_Turns_init) .none kVMtu_init dcMtu_init pmMtu_init anMtu_init cdMtu_init ctMtu_init), slMtu_init⟩)
    (cMtu_init : PySem.W.codeIn K cdMtu_init "Turns.__init__" = true)
    (kMtu_init : PySem.W.keepIn K (.ref fMtu_init) = true)
    (aMtu_invert : PySem.W.findIn K (.ref Ctu) "__invert__" = some (some (.ref fMtu_invert)))
    (iMtu_invert : PySem.W.isFn K (.ref fMtu_invert) = true)
    (lMtu_invert : K.lookup fMtu_invert = some ⟨ocMtu_invert, odMtu_invert, .func (PySem.W.fnOf "__invert__" "Turns.__invert__" (defArgs s_Turns_invert) (defBody s_Turns_invert) (defScope s_Turns_invert) .none kVMtu_invert dcMtu_invert pmMtu_invert anMtu_invert cdMtu_invert ctMtu_invert), slMtu_invert⟩)
    (cMtu_invert : PySem.W.codeIn K cdMtu_invert "Turns.__invert__" = true)
    (kMtu_invert : PySem.W.keepIn K (.ref fMtu_invert) = true)
    (aMtu_and : PySem.W.findIn K (.ref Ctu) "__and__" = some (some (.ref fMtu_and)))
    (iMtu_and : PySem.W.isFn K (.ref fMtu_and) = true)
    (lMtu_and : K.lookup fMtu_and = some ⟨ocMtu_and, odMtu_and, .func (PySem.W.fnOf "__and__" "Turns.__and__" (defArgs s_Turns_and) (defBody s_Turns_and) (defScope s_Turns_and) .none kVMtu_and dcMtu_and pmMtu_and anMtu_and cdMtu_and ctMtu_and), slMtu_and⟩)
    (cMtu_and : PySem.W.codeIn K cdMtu_and "Turns.__and__" = true)
    (kMtu_and : PySem.W.keepIn K (.ref fMtu_and) = true)
    (aMtu_or : PySem.W.findIn K (.ref Ctu) "__or__" = some (some (.ref fMtu_or)))
    (iMtu_or : PySem.W.isFn K (.ref fMtu_or) = true)
    (lMtu_or : K.lookup fMtu_or = some ⟨ocMtu_or, odMtu_or, .func (PySem.W.fnOf "__or__" "Turns.__or__" (defArgs s_Turns_or) (defBody s_Turns_or) (defScope s_Turns_or) .none kVMtu_or dcMtu_or pmMtu_or anMtu_or cdMtu_or ctMtu_or), slMtu_or⟩)
    (cMtu_or : PySem.W.codeIn K cdMtu_or "Turns.__or__" = true)
    (kMtu_or : PySem.W.keepIn K (.ref fMtu_or) = true)
    (aMtu_add : PySem.W.findIn K (.ref Ctu) "__add__" = some (some (.ref fMtu_add)))
    (iMtu_add : PySem.W.isFn K (.ref fMtu_add) = true)
    (lMtu_add : K.lookup fMtu_add = some ⟨ocMtu_add, odMtu_add, .func (PySem.W.fnOf "__add__" "Turns.__add__" (defArgs s_Turns_add) (defBody s_Turns_add) (defScope s_Turns_add) .none kVMtu_add dcMtu_add pmMtu_add anMtu_add cdMtu_add ctMtu_add), slMtu_add⟩)
    (cMtu_add : PySem.W.codeIn K cdMtu_add "Turns.__add__" = true)
    (kMtu_add : PySem.W.keepIn K (.ref fMtu_add) = true)
    (aMtu_eq : PySem.W.findIn K (.ref Ctu) "__eq__" = some (some (.ref fMtu_eq)))
    (iMtu_eq : PySem.W.isFn K (.ref fMtu_eq) = true)
    (lMtu_eq : K.lookup fMtu_eq = some ⟨ocMtu_eq, odMtu_eq, .func (PySem.W.fnOf "__eq__" "Turns.__eq__" (defArgs s_Turns_eq) (defBody s_Turns_eq) (defScope s_Turns_eq) .none kVMtu_eq dcMtu_eq pmMtu_eq anMtu_eq cdMtu_eq ctMtu_eq), slMtu_eq⟩)
    (cMtu_eq : PySem.W.codeIn K cdMtu_eq "Turns.__eq__" = true)
    (kMtu_eq : PySem.W.keepIn K (.ref fMtu_eq) = true)
    (aCco : PySem.W.nsIn K mainGlobals "Contrary" = some (some (.ref Cco)))
    (pgco : PySem.W.plainGet K Cco Str.empty = true)
    (hdco : PySem.W.hasDictIn K Cco = true)
    (poco : PySem.W.plainOver K Cco = true)
    (saco : PySem.W.findIn K (.ref Cco) "__setattr__" = some (some (.builtin "object.__setattr__")))
    (mkco : PySem.W.makesIn K Cco = true)
    (kcco : PySem.W.keepIn K (.ref Cco) = true)
    (sfco : PySem.W.selfFirst K Cco = true)
    (nco_places : PySem.W.findIn K (.ref Cco) "places" = some none)
    (nco_most : PySem.W.findIn K (.ref Cco) "most" = some none)
    (nco_kind : PySem.W.findIn K (.ref Cco) "kind" = some none)
    (nco_word : PySem.W.findIn K (.ref Cco) "word" = some none)
    (nco_one : PySem.W.findIn K (.ref Cco) "one" = some none)
    (nco_other : PySem.W.findIn K (.ref Cco) "other" = some none)
    (rco_rand : PySem.W.findIn K (.ref Cco) "__rand__" = some none)
    (rco_ror : PySem.W.findIn K (.ref Cco) "__ror__" = some none)
    (rco_radd : PySem.W.findIn K (.ref Cco) "__radd__" = some none)
    (qhco : PySem.W.findIn K (.ref Cco) "__class__" = some (some (.builtin "object.__class__")))
    (qnco : PySem.W.findIn K (.ref Cco) "__ne__" = some (some (.builtin "object.__ne__")))
    (qmco : PySem.W.mroIn K Cco (.type "object") = some true)
    (qcco : PySem.W.isClsIn K Cco = true)
    (qtco : PySem.W.typeIn K (.ref Cco) = some (.type "type"))
    (qsco : PySem.W.subIn K (.ref Cco) (.ref Cco) = some true)
    (qoco : PySem.W.subIn K (.ref Cco) (.type "object") = some true)
    (aMco_init : PySem.W.findIn K (.ref Cco) "__init__" = some (some (.ref fMco_init)))
    (iMco_init : PySem.W.isFn K (.ref fMco_init) = true)
    (lMco_init : K.lookup fMco_init = some ⟨ocMco_init, odMco_init, .func (PySem.W.fnOf "__init__" "Contrary.__init__" (defArgs s_Contrary_init) (defBody s_Contrary_init) (defScope s_Contrary_init) .none kVMco_init dcMco_init pmMco_init anMco_init cdMco_init ctMco_init), slMco_init⟩)
    (cMco_init : PySem.W.codeIn K cdMco_init "Contrary.__init__" = true)
    (kMco_init : PySem.W.keepIn K (.ref fMco_init) = true)
    (aMco_invert : PySem.W.findIn K (.ref Cco) "__invert__" = some (some (.ref fMco_invert)))
    (iMco_invert : PySem.W.isFn K (.ref fMco_invert) = true)
    (lMco_invert : K.lookup fMco_invert = some ⟨ocMco_invert, odMco_invert, .func (PySem.W.fnOf "__invert__" "Contrary.__invert__" (defArgs s_Contrary_invert) (defBody s_Contrary_invert) (defScope s_Contrary_invert) .none kVMco_invert dcMco_invert pmMco_invert anMco_invert cdMco_invert ctMco_invert), slMco_invert⟩)
    (cMco_invert : PySem.W.codeIn K cdMco_invert "Contrary.__invert__" = true)
    (kMco_invert : PySem.W.keepIn K (.ref fMco_invert) = true)
    (aMco_and : PySem.W.findIn K (.ref Cco) "__and__" = some (some (.ref fMco_and)))
    (iMco_and : PySem.W.isFn K (.ref fMco_and) = true)
    (lMco_and : K.lookup fMco_and = some ⟨ocMco_and, odMco_and, .func (PySem.W.fnOf "__and__" "Contrary.__and__" (defArgs s_Contrary_and) (defBody s_Contrary_and) (defScope s_Contrary_and) .none kVMco_and dcMco_and pmMco_and anMco_and cdMco_and ctMco_and), slMco_and⟩)
    (cMco_and : PySem.W.codeIn K cdMco_and "Contrary.__and__" = true)
    (kMco_and : PySem.W.keepIn K (.ref fMco_and) = true)
    (aMco_or : PySem.W.findIn K (.ref Cco) "__or__" = some (some (.ref fMco_or)))
    (iMco_or : PySem.W.isFn K (.ref fMco_or) = true)
    (lMco_or : K.lookup fMco_or = some ⟨ocMco_or, odMco_or, .func (PySem.W.fnOf "__or__" "Contrary.__or__" (defArgs s_Contrary_or) (defBody s_Contrary_or) (defScope s_Contrary_or) .none kVMco_or dcMco_or pmMco_or anMco_or cdMco_or ctMco_or), slMco_or⟩)
    (cMco_or : PySem.W.codeIn K cdMco_or "Contrary.__or__" = true)
    (kMco_or : PySem.W.keepIn K (.ref fMco_or) = true)
    (aMco_add : PySem.W.findIn K (.ref Cco) "__add__" = some (some (.ref fMco_add)))
    (iMco_add : PySem.W.isFn K (.ref fMco_add) = true)
    (lMco_add : K.lookup fMco_add = some ⟨ocMco_add, odMco_add, .func (PySem.W.fnOf "__add__" "Contrary.__add__" (defArgs s_Contrary_add) (defBody s_Contrary_add) (defScope s_Contrary_add) .none kVMco_add dcMco_add pmMco_add anMco_add cdMco_add ctMco_add), slMco_add⟩)
    (cMco_add : PySem.W.codeIn K cdMco_add "Contrary.__add__" = true)
    (kMco_add : PySem.W.keepIn K (.ref fMco_add) = true)
    (aMco_eq : PySem.W.findIn K (.ref Cco) "__eq__" = some (some (.ref fMco_eq)))
    (iMco_eq : PySem.W.isFn K (.ref fMco_eq) = true)
    (lMco_eq : K.lookup fMco_eq = some ⟨ocMco_eq, odMco_eq, .func (PySem.W.fnOf "__eq__" "Contrary.__eq__" (defArgs s_Contrary_eq) (defBody s_Contrary_eq) (defScope s_Contrary_eq) .none kVMco_eq dcMco_eq pmMco_eq anMco_eq cdMco_eq ctMco_eq), slMco_eq⟩)
    (cMco_eq : PySem.W.codeIn K cdMco_eq "Contrary.__eq__" = true)
    (kMco_eq : PySem.W.keepIn K (.ref fMco_eq) = true)
    (aCpa : PySem.W.nsIn K mainGlobals "Pair" = some (some (.ref Cpa)))
    (pgpa : PySem.W.plainGet K Cpa Str.empty = true)
    (hdpa : PySem.W.hasDictIn K Cpa = true)
    (popa : PySem.W.plainOver K Cpa = true)
    (sapa : PySem.W.findIn K (.ref Cpa) "__setattr__" = some (some (.builtin "object.__setattr__")))
    (mkpa : PySem.W.makesIn K Cpa = true)
    (kcpa : PySem.W.keepIn K (.ref Cpa) = true)
    (sfpa : PySem.W.selfFirst K Cpa = true)
    (npa_places : PySem.W.findIn K (.ref Cpa) "places" = some none)
    (npa_most : PySem.W.findIn K (.ref Cpa) "most" = some none)
    (npa_kind : PySem.W.findIn K (.ref Cpa) "kind" = some none)
    (npa_word : PySem.W.findIn K (.ref Cpa) "word" = some none)
    (npa_one : PySem.W.findIn K (.ref Cpa) "one" = some none)
    (npa_other : PySem.W.findIn K (.ref Cpa) "other" = some none)
    (rpa_rand : PySem.W.findIn K (.ref Cpa) "__rand__" = some none)
    (rpa_ror : PySem.W.findIn K (.ref Cpa) "__ror__" = some none)
    (rpa_radd : PySem.W.findIn K (.ref Cpa) "__radd__" = some none)
    (qhpa : PySem.W.findIn K (.ref Cpa) "__class__" = some (some (.builtin "object.__class__")))
    (qnpa : PySem.W.findIn K (.ref Cpa) "__ne__" = some (some (.builtin "object.__ne__")))
    (qmpa : PySem.W.mroIn K Cpa (.type "object") = some true)
    (qcpa : PySem.W.isClsIn K Cpa = true)
    (qtpa : PySem.W.typeIn K (.ref Cpa) = some (.type "type"))
    (qspa : PySem.W.subIn K (.ref Cpa) (.ref Cpa) = some true)
    (qopa : PySem.W.subIn K (.ref Cpa) (.type "object") = some true)
    (aMpa_init : PySem.W.findIn K (.ref Cpa) "__init__" = some (some (.ref fMpa_init)))
    (iMpa_init : PySem.W.isFn K (.ref fMpa_init) = true)
    (lMpa_init : K.lookup fMpa_init = some ⟨ocMpa_init, odMpa_init, .func (PySem.W.fnOf "__init__" "Pair.__init__" (defArgs s_Pair_init) (defBody s_Pair_init) (defScope s_Pair_init) .none kVMpa_init dcMpa_init pmMpa_init anMpa_init cdMpa_init ctMpa_init), slMpa_init⟩)
    (cMpa_init : PySem.W.codeIn K cdMpa_init "Pair.__init__" = true)
    (kMpa_init : PySem.W.keepIn K (.ref fMpa_init) = true)
    (aMpa_invert : PySem.W.findIn K (.ref Cpa) "__invert__" = some (some (.ref fMpa_invert)))
    (iMpa_invert : PySem.W.isFn K (.ref fMpa_invert) = true)
    (lMpa_invert : K.lookup fMpa_invert = some ⟨ocMpa_invert, odMpa_invert, .func (PySem.W.fnOf "__invert__" "Pair.__invert__" (defArgs s_Pair_invert) (defBody s_Pair_invert) (defScope s_Pair_invert) .none kVMpa_invert dcMpa_invert pmMpa_invert anMpa_invert cdMpa_invert ctMpa_invert), slMpa_invert⟩)
    (cMpa_invert : PySem.W.codeIn K cdMpa_invert "Pair.__invert__" = true)
    (kMpa_invert : PySem.W.keepIn K (.ref fMpa_invert) = true)
    (aMpa_and : PySem.W.findIn K (.ref Cpa) "__and__" = some (some (.ref fMpa_and)))
    (iMpa_and : PySem.W.isFn K (.ref fMpa_and) = true)
    (lMpa_and : K.lookup fMpa_and = some ⟨ocMpa_and, odMpa_and, .func (PySem.W.fnOf "__and__" "Pair.__and__" (defArgs s_Pair_and) (defBody s_Pair_and) (defScope s_Pair_and) .none kVMpa_and dcMpa_and pmMpa_and anMpa_and cdMpa_and ctMpa_and), slMpa_and⟩)
    (cMpa_and : PySem.W.codeIn K cdMpa_and "Pair.__and__" = true)
    (kMpa_and : PySem.W.keepIn K (.ref fMpa_and) = true)
    (aMpa_or : PySem.W.findIn K (.ref Cpa) "__or__" = some (some (.ref fMpa_or)))
    (iMpa_or : PySem.W.isFn K (.ref fMpa_or) = true)
    (lMpa_or : K.lookup fMpa_or = some ⟨ocMpa_or, odMpa_or, .func (PySem.W.fnOf "__or__" "Pair.__or__" (defArgs s_Pair_or) (defBody s_Pair_or) (defScope s_Pair_or) .none kVMpa_or dcMpa_or pmMpa_or anMpa_or cdMpa_or ctMpa_or), slMpa_or⟩)
    (cMpa_or : PySem.W.codeIn K cdMpa_or "Pair.__or__" = true)
    (kMpa_or : PySem.W.keepIn K (.ref fMpa_or) = true)
    (aMpa_add : PySem.W.findIn K (.ref Cpa) "__add__" = some (some (.ref fMpa_add)))
    (iMpa_add : PySem.W.isFn K (.ref fMpa_add) = true)
    (lMpa_add : K.lookup fMpa_add = some ⟨ocMpa_add, odMpa_add, .func (PySem.W.fnOf "__add__" "Pair.__add__" (defArgs s_Pair_add) (defBody s_Pair_add) (defScope s_Pair_add) .none kVMpa_add dcMpa_add pmMpa_add anMpa_add cdMpa_add ctMpa_add), slMpa_add⟩)
    (cMpa_add : PySem.W.codeIn K cdMpa_add "Pair.__add__" = true)
    (kMpa_add : PySem.W.keepIn K (.ref fMpa_add) = true)
    (aMpa_eq : PySem.W.findIn K (.ref Cpa) "__eq__" = some (some (.ref fMpa_eq)))
    (iMpa_eq : PySem.W.isFn K (.ref fMpa_eq) = true)
    (lMpa_eq : K.lookup fMpa_eq = some ⟨ocMpa_eq, odMpa_eq, .func (PySem.W.fnOf "__eq__" "Pair.__eq__" (defArgs s_Pair_eq) (defBody s_Pair_eq) (defScope s_Pair_eq) .none kVMpa_eq dcMpa_eq pmMpa_eq anMpa_eq cdMpa_eq ctMpa_eq), slMpa_eq⟩)
    (cMpa_eq : PySem.W.codeIn K cdMpa_eq "Pair.__eq__" = true)
    (kMpa_eq : PySem.W.keepIn K (.ref fMpa_eq) = true)
    (uha_bo : PySem.W.subIn K (.ref Cha) (.ref Cbo) = some false)
    (uha_ri : PySem.W.subIn K (.ref Cha) (.ref Cri) = some false)
    (uha_fl : PySem.W.subIn K (.ref Cha) (.ref Cfl) = some false)
    (uha_tu : PySem.W.subIn K (.ref Cha) (.ref Ctu) = some false)
    (uha_co : PySem.W.subIn K (.ref Cha) (.ref Cco) = some false)
    (uha_pa : PySem.W.subIn K (.ref Cha) (.ref Cpa) = some false)
    (ubo_ha : PySem.W.subIn K (.ref Cbo) (.ref Cha) = some false)
    (ubo_ri : PySem.W.subIn K (.ref Cbo) (.ref Cri) = some false)
    (ubo_fl : PySem.W.subIn K (.ref Cbo) (.ref Cfl) = some false)
    (ubo_tu : PySem.W.subIn K (.ref Cbo) (.ref Ctu) = some false)
    (ubo_co : PySem.W.subIn K (.ref Cbo) (.ref Cco) = some false)
    (ubo_pa : PySem.W.subIn K (.ref Cbo) (.ref Cpa) = some false)
    (uri_ha : PySem.W.subIn K (.ref Cri) (.ref Cha) = some false)
    (uri_bo : PySem.W.subIn K (.ref Cri) (.ref Cbo) = some false)
    (uri_fl : PySem.W.subIn K (.ref Cri) (.ref Cfl) = some false)
    (uri_tu : PySem.W.subIn K (.ref Cri) (.ref Ctu) = some false)
    (uri_co : PySem.W.subIn K (.ref Cri) (.ref Cco) = some false)
    (uri_pa : PySem.W.subIn K (.ref Cri) (.ref Cpa) = some false)
    (ufl_ha : PySem.W.subIn K (.ref Cfl) (.ref Cha) = some false)
    (ufl_bo : PySem.W.subIn K (.ref Cfl) (.ref Cbo) = some false)
    (ufl_ri : PySem.W.subIn K (.ref Cfl) (.ref Cri) = some false)
    (ufl_tu : PySem.W.subIn K (.ref Cfl) (.ref Ctu) = some false)
    (ufl_co : PySem.W.subIn K (.ref Cfl) (.ref Cco) = some false)
    (ufl_pa : PySem.W.subIn K (.ref Cfl) (.ref Cpa) = some false)
    (utu_ha : PySem.W.subIn K (.ref Ctu) (.ref Cha) = some false)
    (utu_bo : PySem.W.subIn K (.ref Ctu) (.ref Cbo) = some false)
    (utu_ri : PySem.W.subIn K (.ref Ctu) (.ref Cri) = some false)
    (utu_fl : PySem.W.subIn K (.ref Ctu) (.ref Cfl) = some false)
    (utu_co : PySem.W.subIn K (.ref Ctu) (.ref Cco) = some false)
    (utu_pa : PySem.W.subIn K (.ref Ctu) (.ref Cpa) = some false)
    (uco_ha : PySem.W.subIn K (.ref Cco) (.ref Cha) = some false)
    (uco_bo : PySem.W.subIn K (.ref Cco) (.ref Cbo) = some false)
    (uco_ri : PySem.W.subIn K (.ref Cco) (.ref Cri) = some false)
    (uco_fl : PySem.W.subIn K (.ref Cco) (.ref Cfl) = some false)
    (uco_tu : PySem.W.subIn K (.ref Cco) (.ref Ctu) = some false)
    (uco_pa : PySem.W.subIn K (.ref Cco) (.ref Cpa) = some false)
    (upa_ha : PySem.W.subIn K (.ref Cpa) (.ref Cha) = some false)
    (upa_bo : PySem.W.subIn K (.ref Cpa) (.ref Cbo) = some false)
    (upa_ri : PySem.W.subIn K (.ref Cpa) (.ref Cri) = some false)
    (upa_fl : PySem.W.subIn K (.ref Cpa) (.ref Cfl) = some false)
    (upa_tu : PySem.W.subIn K (.ref Cpa) (.ref Ctu) = some false)
    (upa_co : PySem.W.subIn K (.ref Cpa) (.ref Cco) = some false)
    (hn : PySem.W.specialIn K (.builtin "object.__class__") "__get__" = some (some (.builtin "getset_descriptor.__get__")))
    (ht : PySem.W.takesIn K (.builtin "object.__class__") = some true)
    (aCP : PySem.W.nsIn K mainGlobals "BadPlaces" = some (some (.ref CP)))
    (xLCP : K.lookup CP = some (excClassObj nmCP qnCP CP NCP bsCP (.ref Tc :: veL) true snCP sbCP abCP coCP ddCP p0CP p1CP p2CP p3CP p5CP "ValueError.__new__"))
    (saCP : PySem.W.findIn K (.ref CP) "__setattr__" = some (some (.builtin "object.__setattr__")))
    (gaCP : PySem.W.findIn K (.ref CP) "__getattribute__" = some (some (.builtin "BaseException.__getattribute__")))
    (ggCP : PySem.W.findIn K (.ref CP) "__getattr__" = some none)
    (haCP : PySem.W.findIn K (.ref CP) "__class__" = some (some (.builtin "object.__class__")))
    (kCCP : PySem.W.keepIn K (.ref CP) = true)
    (nbCP : PySem.W.findIn K (.ref CP) "places" = some none)
    (aiCP : PySem.W.findIn K (.ref CP) "__init__" = some (some (.ref fCP)))
    (tiCP : PySem.W.typeIn K (.ref fCP) = some (.type "function"))
    (lCP : K.lookup fCP = some ⟨ocCP, odCP, .func (PySem.W.fnOf "__init__" "BadPlaces.__init__" (defArgs s_BadPlaces_init) (defBody s_BadPlaces_init) (defScope s_BadPlaces_init) .none kVCP dcCP pmCP anCP cdCP ctCP), slCP⟩)
    (cCP : PySem.W.codeIn K cdCP "BadPlaces.__init__" = true)
    (kCP : PySem.W.keepIn K (.ref fCP) = true)
    (aCM : PySem.W.nsIn K mainGlobals "BadMost" = some (some (.ref CM)))
    (xLCM : K.lookup CM = some (excClassObj nmCM qnCM CM NCM bsCM (.ref Tc :: veL) true snCM sbCM abCM coCM ddCM p0CM p1CM p2CM p3CM p5CM "ValueError.__new__"))
    (saCM : PySem.W.findIn K (.ref CM) "__setattr__" = some (some (.builtin "object.__setattr__")))
    (gaCM : PySem.W.findIn K (.ref CM) "__getattribute__" = some (some (.builtin "BaseException.__getattribute__")))
    (ggCM : PySem.W.findIn K (.ref CM) "__getattr__" = some none)
    (haCM : PySem.W.findIn K (.ref CM) "__class__" = some (some (.builtin "object.__class__")))
    (kCCM : PySem.W.keepIn K (.ref CM) = true)
    (nbCM : PySem.W.findIn K (.ref CM) "most" = some none)
    (aiCM : PySem.W.findIn K (.ref CM) "__init__" = some (some (.ref fCM)))
    (tiCM : PySem.W.typeIn K (.ref fCM) = some (.type "function"))
    (lCM : K.lookup fCM = some ⟨ocCM, odCM, .func (PySem.W.fnOf "__init__" "BadMost.__init__" (defArgs s_BadMost_init) (defBody s_BadMost_init) (defScope s_BadMost_init) .none kVCM dcCM pmCM anCM cdCM ctCM), slCM⟩)
    (cCM : PySem.W.codeIn K cdCM "BadMost.__init__" = true)
    (kCM : PySem.W.keepIn K (.ref fCM) = true)
    (aCU : PySem.W.nsIn K mainGlobals "UnlikePlaces" = some (some (.ref CU)))
    (xCU : PySem.W.excIn K CU [.type "ValueError", .type "Exception", .type "BaseException", .type "object"] "ValueError.__new__" = true)
    (kCU : PySem.W.keepIn K (.ref CU) = true)
    (exCP : PySem.W.subIn K (.ref CP) (.type "BaseException") = some true)
    (icCP : PySem.W.isClsIn K CP = true)
    (tyCP : PySem.W.typeIn K (.ref CP) = some (.type "type"))
    (exCM : PySem.W.subIn K (.ref CM) (.type "BaseException") = some true)
    (icCM : PySem.W.isClsIn K CM = true)
    (tyCM : PySem.W.typeIn K (.ref CM) = some (.type "type"))
    (exCU : PySem.W.subIn K (.ref CU) (.type "BaseException") = some true)
    (icCU : PySem.W.isClsIn K CU = true)
    (tyCU : PySem.W.typeIn K (.ref CU) = some (.type "type"))
    (sCPCP : PySem.W.subIn K (.ref CP) (.ref CP) = some true)
    (sCMCP : PySem.W.subIn K (.ref CM) (.ref CP) = some false)
    (sCMCM : PySem.W.subIn K (.ref CM) (.ref CM) = some true)
    (sCUCP : PySem.W.subIn K (.ref CU) (.ref CP) = some false)
    (sCUCM : PySem.W.subIn K (.ref CU) (.ref CM) = some false)
    (sCUCU : PySem.W.subIn K (.ref CU) (.ref CU) = some true)
    (cLEAST_PLACES : PySem.W.nsIn K mainGlobals "LEAST_PLACES" = some (some (.int 1 tLEAST_PLACES)))
    (cMOST_PLACES : PySem.W.nsIn K mainGlobals "MOST_PLACES" = some (some (.int 3 tMOST_PLACES)))
    (cGREATEST_MOST : PySem.W.nsIn K mainGlobals "GREATEST_MOST" = some (some (.int 6 tGREATEST_MOST)))
    (z_len : PySem.W.nsIn K mainGlobals "len" = some none)
    (z_int : PySem.W.nsIn K mainGlobals "int" = some none)
    (z_isinstance : PySem.W.nsIn K mainGlobals "isinstance" = some none)
    (z_list : PySem.W.nsIn K mainGlobals "list" = some none)
    (z_tuple : PySem.W.nsIn K mainGlobals "tuple" = some none)
    (z_bool : PySem.W.nsIn K mainGlobals "bool" = some none)
    (z_all : PySem.W.nsIn K mainGlobals "all" = some none)
    (z_zip : PySem.W.nsIn K mainGlobals "zip" = some none)
    (z_range : PySem.W.nsIn K mainGlobals "range" = some none)
    (z_enumerate : PySem.W.nsIn K mainGlobals "enumerate" = some none)
    (z_any : PySem.W.nsIn K mainGlobals "any" = some none)
    (dle : PTl ≠ PTe)
    (dlr : PTl ≠ PTr)
    (der : PTe ≠ PTr)
    (ye : h.get? PTe = some { cls := .none, data := .fields #[] })
    (yr : h.get? PTr = some { cls := .none, data := .fields #[] }) :
    LamX.LawAtS l w K CX0 20 63 "_law_script" mg fa h := by
  have e := hfa.symm.trans (PySem.W.mg_of X G aL_law)
  cases e
  have M : ∀ {x : Str} {v : Value}, PySem.W.nsIn K mainGlobals x = some (some v) → mg x = some v := fun q => PySem.W.mg_of X G q
  have TF : TxF mg := { m_len := PySem.W.mg_none_of X G z_len, m_int := PySem.W.mg_none_of X G z_int, m_isinstance := PySem.W.mg_none_of X G z_isinstance, m_list := PySem.W.mg_none_of X G z_list, m_tuple := PySem.W.mg_none_of X G z_tuple, m_bool := PySem.W.mg_none_of X G z_bool, m_all := PySem.W.mg_none_of X G z_all, m_zip := PySem.W.mg_none_of X G z_zip, m_range := PySem.W.mg_none_of X G z_range, m_enumerate := PySem.W.mg_none_of X G z_enumerate, c_LEAST_PLACES := ⟨_, M cLEAST_PLACES⟩, c_MOST_PLACES := ⟨_, M cMOST_PLACES⟩ }
  have TK : TxK mg := { toTxF := TF, c_GREATEST_MOST := ⟨_, M cGREATEST_MOST⟩ }
  have TB := TF.toTxB
  have TR : TxR mg := { toTxF := TF }
  have T : TxL mg := { toTxR := TR, m_any := PySem.W.mg_none_of X G z_any }
  have GF_is_integer := fun_mk (st := s_is_integer) lF_is_integer cF_is_integer kF_is_integer
  have bF_is_integer := GF_is_integer.binds (ps := ["thing"]) fun _ _ _ _ _ _ us hl => match us, hl with | [_], _ => rfl
  have GF_is_number_of_places := fun_mk (st := s_is_number_of_places) lF_is_number_of_places cF_is_number_of_places kF_is_number_of_places
  have bF_is_number_of_places := GF_is_number_of_places.binds (ps := ["thing"]) fun _ _ _ _ _ _ us hl => match us, hl with | [_], _ => rfl
  have GF_check_number_of_places := fun_mk (st := s_check_number_of_places) lF_check_number_of_places cF_check_number_of_places kF_check_number_of_places
  have bF_check_number_of_places := GF_check_number_of_places.binds (ps := ["places"]) fun _ _ _ _ _ _ us hl => match us, hl with | [_], _ => rfl
  have GL_source := fun_mk (st := s_source) lL_source cL_source kL_source
  have bL_source := GL_source.binds (ps := ["_law_script", "_law_at"]) fun _ _ _ _ _ _ us hl => match us, hl with | [_, _], _ => rfl
  have GL_draw := fun_mk (st := s_draw) lL_draw cL_draw kL_draw
  have bL_draw := GL_draw.binds (ps := ["_law_draws", "_law_many"]) fun _ _ _ _ _ _ us hl => match us, hl with | [_, _], _ => rfl
  have GL_pick := fun_mk (st := s_pick) lL_pick cL_pick kL_pick
  have bL_pick := GL_pick.binds (ps := ["_law_draws", "_law_things"]) fun _ _ _ _ _ _ us hl => match us, hl with | [_, _], _ => rfl
  have GL_same := fun_mk (st := s_same) lL_same cL_same kL_same
  have bL_same := GL_same.binds (ps := ["_law_found", "_law_due"]) fun _ _ _ _ _ _ us hl => match us, hl with | [_, _], _ => rfl
  have GL_plain := fun_mk (st := s_plain) lL_plain cL_plain kL_plain
  have bL_plain := GL_plain.binds (ps := ["_law_draws", "_law_places_here"]) fun _ _ _ _ _ _ us hl => match us, hl with | [_, _], _ => rfl
  have GL_spec := fun_mk (st := s_spec) lL_spec cL_spec kL_spec
  have bL_spec := GL_spec.binds (ps := ["_law_draws", "_law_places_here", "_law_deep"]) fun _ _ _ _ _ _ us hl => match us, hl with | [_, _, _], _ => rfl
  have GL_built := fun_mk (st := s_built) lL_built cL_built kL_built
  have bL_built := GL_built.binds (ps := ["_law_spec_here"]) fun _ _ _ _ _ _ us hl => match us, hl with | [_], _ => rfl
  have GL_part := fun_mk (st := s_part) lL_part cL_part kL_part
  have bL_part := GL_part.binds (ps := ["_law_draws", "_law_places_here"]) fun _ _ _ _ _ _ us hl => match us, hl with | [_, _], _ => rfl
  have GL_joint := fun_mk (st := s_joint) lL_joint cL_joint kL_joint
  have bL_joint := GL_joint.binds (ps := ["_law_draws", "_law_places_here", "_law_deep"]) fun _ _ _ _ _ _ us hl => match us, hl with | [_, _, _], _ => rfl
  have GL_pair := fun_mk (st := s_pair) lL_pair cL_pair kL_pair
  have bL_pair := GL_pair.binds (ps := ["_law_draws", "_law_places_here", "_law_deep"]) fun _ _ _ _ _ _ us hl => match us, hl with | [_, _, _], _ => rfl
  have GL_end := fun_mk (st := s_end) lL_end cL_end kL_end
  have bL_end := GL_end.binds (ps := ["_law_ask"]) fun _ _ _ _ _ _ us hl => match us, hl with | [_], _ => rfl
  have GL_places := fun_mk (st := s_places) lL_places cL_places kL_places
  have bL_places := GL_places.binds (ps := ["_law_spec_here"]) fun _ _ _ _ _ _ us hl => match us, hl with | [_], _ => rfl
  have GL_ends := fun_mk (st := s_ends) lL_ends cL_ends kL_ends
  have bL_ends := GL_ends.binds (ps := ["_law_one", "_law_other"]) fun _ _ _ _ _ _ us hl => match us, hl with | [_, _], _ => rfl
  have GL_refused := fun_mk (st := s_refused) lL_refused cL_refused kL_refused
  have bL_refused := GL_refused.binds (ps := ["_law_odd"]) fun _ _ _ _ _ _ us hl => match us, hl with | [_], _ => rfl
  have GL_law := fun_mk (st := s_law) lL_law cL_law kL_law
  have GMha_init := fun_mk (st := s_Halves_init) lMha_init cMha_init kMha_init
  have bMha_init := GMha_init.binds (ps := ["self", "places"]) fun _ _ _ _ _ _ us hl => match us, hl with | [_, _], _ => rfl
  have GMha_invert := fun_mk (st := s_Halves_invert) lMha_invert cMha_invert kMha_invert
  have bMha_invert := GMha_invert.binds (ps := ["self"]) fun _ _ _ _ _ _ us hl => match us, hl with | [_], _ => rfl
  have GMha_and := fun_mk (st := s_Halves_and) lMha_and cMha_and kMha_and
  have bMha_and := GMha_and.binds (ps := ["self", "other"]) fun _ _ _ _ _ _ us hl => match us, hl with | [_, _], _ => rfl
  have GMha_or := fun_mk (st := s_Halves_or) lMha_or cMha_or kMha_or
  have bMha_or := GMha_or.binds (ps := ["self", "other"]) fun _ _ _ _ _ _ us hl => match us, hl with | [_, _], _ => rfl
  have GMha_add := fun_mk (st := s_Halves_add) lMha_add cMha_add kMha_add
  have bMha_add := GMha_add.binds (ps := ["self", "other"]) fun _ _ _ _ _ _ us hl => match us, hl with | [_, _], _ => rfl
  have GMha_eq := fun_mk (st := s_Halves_eq) lMha_eq cMha_eq kMha_eq
  have bMha_eq := GMha_eq.binds (ps := ["self", "other"]) fun _ _ _ _ _ _ us hl => match us, hl with | [_, _], _ => rfl
  have GMbo_init := fun_mk (st := s_Boxes_init) lMbo_init cMbo_init kMbo_init
  have bMbo_init := GMbo_init.binds (ps := ["self", "places"]) fun _ _ _ _ _ _ us hl => match us, hl with | [_, _], _ => rfl
  have GMbo_invert := fun_mk (st := s_Boxes_invert) lMbo_invert cMbo_invert kMbo_invert
  have bMbo_invert := GMbo_invert.binds (ps := ["self"]) fun _ _ _ _ _ _ us hl => match us, hl with | [_], _ => rfl
  have GMbo_and := fun_mk (st := s_Boxes_and) lMbo_and cMbo_and kMbo_and
  have bMbo_and := GMbo_and.binds (ps := ["self", "other"]) fun _ _ _ _ _ _ us hl => match us, hl with | [_, _], _ => rfl
  have GMbo_or := fun_mk (st := s_Boxes_or) lMbo_or cMbo_or kMbo_or
  have bMbo_or := GMbo_or.binds (ps := ["self", "other"]) fun _ _ _ _ _ _ us hl => match us, hl with | [_, _], _ => rfl
  have GMbo_add := fun_mk (st := s_Boxes_add) lMbo_add cMbo_add kMbo_add
  have bMbo_add := GMbo_add.binds (ps := ["self", "other"]) fun _ _ _ _ _ _ us hl => match us, hl with | [_, _], _ => rfl
  have GMbo_eq := fun_mk (st := s_Boxes_eq) lMbo_eq cMbo_eq kMbo_eq
  have bMbo_eq := GMbo_eq.binds (ps := ["self", "other"]) fun _ _ _ _ _ _ us hl => match us, hl with | [_, _], _ => rfl
  have GMri_init := fun_mk (st := s_Rising_init) lMri_init cMri_init kMri_init
  have bMri_init := GMri_init.binds (ps := ["self", "places"]) fun _ _ _ _ _ _ us hl => match us, hl with | [_, _], _ => rfl
  have GMri_invert := fun_mk (st := s_Rising_invert) lMri_invert cMri_invert kMri_invert
  have bMri_invert := GMri_invert.binds (ps := ["self"]) fun _ _ _ _ _ _ us hl => match us, hl with | [_], _ => rfl
  have GMri_and := fun_mk (st := s_Rising_and) lMri_and cMri_and kMri_and
  have bMri_and := GMri_and.binds (ps := ["self", "other"]) fun _ _ _ _ _ _ us hl => match us, hl with | [_, _], _ => rfl
  have GMri_or := fun_mk (st := s_Rising_or) lMri_or cMri_or kMri_or
  have bMri_or := GMri_or.binds (ps := ["self", "other"]) fun _ _ _ _ _ _ us hl => match us, hl with | [_, _], _ => rfl
  have GMri_add := fun_mk (st := s_Rising_add) lMri_add cMri_add kMri_add
  have bMri_add := GMri_add.binds (ps := ["self", "other"]) fun _ _ _ _ _ _ us hl => match us, hl with | [_, _], _ => rfl
  have GMri_eq := fun_mk (st := s_Rising_eq) lMri_eq cMri_eq kMri_eq
  have bMri_eq := GMri_eq.binds (ps := ["self", "other"]) fun _ _ _ _ _ _ us hl => match us, hl with | [_, _], _ => rfl
  have GMfl_init := fun_mk (st := s_Flats_init) lMfl_init cMfl_init kMfl_init
  have bMfl_init := GMfl_init.binds (ps := ["self", "places"]) fun _ _ _ _ _ _ us hl => match us, hl with | [_, _], _ => rfl
  have GMfl_invert := fun_mk (st := s_Flats_invert) lMfl_invert cMfl_invert kMfl_invert
  have bMfl_invert := GMfl_invert.binds (ps := ["self"]) fun _ _ _ _ _ _ us hl => match us, hl with | [_], _ => rfl
  have GMfl_and := fun_mk (st := s_Flats_and) lMfl_and cMfl_and kMfl_and
  have bMfl_and := GMfl_and.binds (ps := ["self", "other"]) fun _ _ _ _ _ _ us hl => match us, hl with | [_, _], _ => rfl
  have GMfl_or := fun_mk (st := s_Flats_or) lMfl_or cMfl_or kMfl_or
  have bMfl_or := GMfl_or.binds (ps := ["self", "other"]) fun _ _ _ _ _ _ us hl => match us, hl with | [_, _], _ => rfl
  have GMfl_add := fun_mk (st := s_Flats_add) lMfl_add cMfl_add kMfl_add
  have bMfl_add := GMfl_add.binds (ps := ["self", "other"]) fun _ _ _ _ _ _ us hl => match us, hl with | [_, _], _ => rfl
  have GMfl_eq := fun_mk (st := s_Flats_eq) lMfl_eq cMfl_eq kMfl_eq
  have bMfl_eq := GMfl_eq.binds (ps := ["self", "other"]) fun _ _ _ _ _ _ us hl => match us, hl with | [_, _], _ => rfl
  have GMtu_init := fun_mk (st := s_Turns_init) lMtu_init cMtu_init kMtu_init
  have bMtu_init := GMtu_init.binds (ps := ["self", "most"]) fun _ _ _ _ _ _ us hl => match us, hl with | [_, _], _ => rfl
  have GMtu_invert := fun_mk (st := s_Turns_invert) lMtu_invert cMtu_invert kMtu_invert
  have bMtu_invert := GMtu_invert.binds (ps := ["self"]) fun _ _ _ _ _ _ us hl => match us, hl with | [_], _ => rfl
  have GMtu_and := fun_mk (st := s_Turns_and) lMtu_and cMtu_and kMtu_and
  have bMtu_and := GMtu_and.binds (ps := ["self", "other"]) fun _ _ _ _ _ _ us hl => match us, hl with | [_, _], _ => rfl
  have GMtu_or := fun_mk (st := s_Turns_or) lMtu_or cMtu_or kMtu_or
  have bMtu_or := GMtu_or.binds (ps := ["self", "other"]) fun _ _ _ _ _ _ us hl => match us, hl with | [_, _], _ => rfl
  have GMtu_add := fun_mk (st := s_Turns_add) lMtu_add cMtu_add kMtu_add
  have bMtu_add := GMtu_add.binds (ps := ["self", "other"]) fun _ _ _ _ _ _ us hl => match us, hl with | [_, _], _ => rfl
  have GMtu_eq := fun_mk (st := s_Turns_eq) lMtu_eq cMtu_eq kMtu_eq
  have bMtu_eq := GMtu_eq.binds (ps := ["self", "other"]) fun _ _ _ _ _ _ us hl => match us, hl with | [_, _], _ => rfl
  have GMco_init := fun_mk (st := s_Contrary_init) lMco_init cMco_init kMco_init
  have bMco_init := GMco_init.binds (ps := ["self", "kind"]) fun _ _ _ _ _ _ us hl => match us, hl with | [_, _], _ => rfl
  have GMco_invert := fun_mk (st := s_Contrary_invert) lMco_invert cMco_invert kMco_invert
  have bMco_invert := GMco_invert.binds (ps := ["self"]) fun _ _ _ _ _ _ us hl => match us, hl with | [_], _ => rfl
  have GMco_and := fun_mk (st := s_Contrary_and) lMco_and cMco_and kMco_and
  have bMco_and := GMco_and.binds (ps := ["self", "other"]) fun _ _ _ _ _ _ us hl => match us, hl with | [_, _], _ => rfl
  have GMco_or := fun_mk (st := s_Contrary_or) lMco_or cMco_or kMco_or
  have bMco_or := GMco_or.binds (ps := ["self", "other"]) fun _ _ _ _ _ _ us hl => match us, hl with | [_, _], _ => rfl
  have GMco_add := fun_mk (st := s_Contrary_add) lMco_add cMco_add kMco_add
  have bMco_add := GMco_add.binds (ps := ["self", "other"]) fun _ _ _ _ _ _ us hl => match us, hl with | [_, _], _ => rfl
  have GMco_eq := fun_mk (st := s_Contrary_eq) lMco_eq cMco_eq kMco_eq
  have bMco_eq := GMco_eq.binds (ps := ["self", "other"]) fun _ _ _ _ _ _ us hl => match us, hl with | [_, _], _ => rfl
  have GMpa_init := fun_mk (st := s_Pair_init) lMpa_init cMpa_init kMpa_init
  have bMpa_init := GMpa_init.binds (ps := ["self", "word", "one", "other"]) fun _ _ _ _ _ _ us hl => match us, hl with | [_, _, _, _], _ => rfl
  have GMpa_invert := fun_mk (st := s_Pair_invert) lMpa_invert cMpa_invert kMpa_invert
  have bMpa_invert := GMpa_invert.binds (ps := ["self"]) fun _ _ _ _ _ _ us hl => match us, hl with | [_], _ => rfl
  have GMpa_and := fun_mk (st := s_Pair_and) lMpa_and cMpa_and kMpa_and
  have bMpa_and := GMpa_and.binds (ps := ["self", "other"]) fun _ _ _ _ _ _ us hl => match us, hl with | [_, _], _ => rfl
  have GMpa_or := fun_mk (st := s_Pair_or) lMpa_or cMpa_or kMpa_or
  have bMpa_or := GMpa_or.binds (ps := ["self", "other"]) fun _ _ _ _ _ _ us hl => match us, hl with | [_, _], _ => rfl
  have GMpa_add := fun_mk (st := s_Pair_add) lMpa_add cMpa_add kMpa_add
  have bMpa_add := GMpa_add.binds (ps := ["self", "other"]) fun _ _ _ _ _ _ us hl => match us, hl with | [_, _], _ => rfl
  have GMpa_eq := fun_mk (st := s_Pair_eq) lMpa_eq cMpa_eq kMpa_eq
  have bMpa_eq := GMpa_eq.binds (ps := ["self", "other"]) fun _ _ _ _ _ _ us hl => match us, hl with | [_, _], _ => rfl
  have GCP := fun_mk (st := s_BadPlaces_init) lCP cCP kCP
  have bCP := GCP.binds (ps := ["self", "places"]) fun _ _ _ _ _ _ us hl => match us, hl with | [_, _], _ => rfl
  have GCM := fun_mk (st := s_BadMost_init) lCM cCM kCM
  have bCM := GCM.binds (ps := ["self", "most"]) fun _ _ _ _ _ _ us hl => match us, hl with | [_, _], _ => rfl
  let c : KC := (fun i => match i with | .ha => Cha | .bo => Cbo | .ri => Cri | .fl => Cfl | .tu => Ctu | .co => Cco | .pa => Cpa)
  have S : KCl K c := ⟨fun i => by cases i <;> first | exact ⟨pgha, hdha, poha, saha⟩ | exact ⟨pgbo, hdbo, pobo, sabo⟩ | exact ⟨pgri, hdri, pori, sari⟩ | exact ⟨pgfl, hdfl, pofl, safl⟩ | exact ⟨pgtu, hdtu, potu, satu⟩ | exact ⟨pgco, hdco, poco, saco⟩ | exact ⟨pgpa, hdpa, popa, sapa⟩, fun i f hf => by
    simp only [List.mem_cons, List.not_mem_nil, or_false] at hf
    cases i <;> rcases hf with rfl | rfl | rfl | rfl | rfl | rfl <;> first | exact nha_places | exact nha_most | exact nha_kind | exact nha_word | exact nha_one | exact nha_other | exact nbo_places | exact nbo_most | exact nbo_kind | exact nbo_word | exact nbo_one | exact nbo_other | exact nri_places | exact nri_most | exact nri_kind | exact nri_word | exact nri_one | exact nri_other | exact nfl_places | exact nfl_most | exact nfl_kind | exact nfl_word | exact nfl_one | exact nfl_other | exact ntu_places | exact ntu_most | exact ntu_kind | exact ntu_word | exact ntu_one | exact ntu_other | exact nco_places | exact nco_most | exact nco_kind | exact nco_word | exact nco_one | exact nco_other | exact npa_places | exact npa_most | exact npa_kind | exact npa_word | exact npa_one | exact npa_other⟩
  have qcl : ∀ i, Cls K (c i) := S.cl
  have Aqh : ∀ i, PySem.W.findIn K (.ref (c i)) "__class__" = some (some (.builtin "object.__class__")) := fun i => by
    cases i
    · exact qhha
    · exact qhbo
    · exact qhri
    · exact qhfl
    · exact qhtu
    · exact qhco
    · exact qhpa
  have Aqm : ∀ i, PySem.W.mroIn K (c i) (.type "object") = some true := fun i => by
    cases i
    · exact qmha
    · exact qmbo
    · exact qmri
    · exact qmfl
    · exact qmtu
    · exact qmco
    · exact qmpa
  have Aqc : ∀ i, PySem.W.isClsIn K (c i) = true := fun i => by
    cases i
    · exact qcha
    · exact qcbo
    · exact qcri
    · exact qcfl
    · exact qctu
    · exact qcco
    · exact qcpa
  have Aqt : ∀ i, PySem.W.typeIn K (.ref (c i)) = some (.type "type") := fun i => by
    cases i
    · exact qtha
    · exact qtbo
    · exact qtri
    · exact qtfl
    · exact qttu
    · exact qtco
    · exact qtpa
  have Aqn : ∀ i, PySem.W.findIn K (.ref (c i)) "__ne__" = some (some (.builtin "object.__ne__")) := fun i => by
    cases i
    · exact qnha
    · exact qnbo
    · exact qnri
    · exact qnfl
    · exact qntu
    · exact qnco
    · exact qnpa
  have Aqs : ∀ i, PySem.W.subIn K (.ref (c i)) (.ref (c i)) = some true := fun i => by
    cases i
    · exact qsha
    · exact qsbo
    · exact qsri
    · exact qsfl
    · exact qstu
    · exact qsco
    · exact qspa
  have Aoth : ∀ i j, i ≠ j → PySem.W.subIn K (.ref (c j)) (.ref (c i)) = some false := fun i j hne => by
    cases i <;> cases j <;> first | exact absurd rfl hne | exact uha_bo | exact uha_ri | exact uha_fl | exact uha_tu | exact uha_co | exact uha_pa | exact ubo_ha | exact ubo_ri | exact ubo_fl | exact ubo_tu | exact ubo_co | exact ubo_pa | exact uri_ha | exact uri_bo | exact uri_fl | exact uri_tu | exact uri_co | exact uri_pa | exact ufl_ha | exact ufl_bo | exact ufl_ri | exact ufl_tu | exact ufl_co | exact ufl_pa | exact utu_ha | exact utu_bo | exact utu_ri | exact utu_fl | exact utu_co | exact utu_pa | exact uco_ha | exact uco_bo | exact uco_ri | exact uco_fl | exact uco_tu | exact uco_pa | exact upa_ha | exact upa_bo | exact upa_ri | exact upa_fl | exact upa_tu | exact upa_co
  have NE : KEq K mg c := ⟨qcl, Aqh, hn, ht, Aqm, Aqc, Aqt, Aqn, Aqs, Aoth, M aCha, M aCbo, M aCri, M aCfl, M aCtu, M aCco, M aCpa⟩
  have EBCP : IsErr K CP (.ref Tc :: veL) := ⟨_, _, _, _, _, _, _, _, _, _, _, _, _, _, xLCP⟩
  have FBCP : ErrF K CP := ⟨saCP, gaCP, ggCP, haCP, kCCP⟩
  have ZBCP : IsiC K CP := isi_of EBCP FBCP rfl hn ht
  have RECP : ∀ base : Heap, ErrC l.prog w K mg base "BadPlaces" CP "places" := fun base => ok_BadPlaces (M aCP) (oex_of EBCP FBCP rfl ZBCP) (xf_of EBCP FBCP ZBCP) nbCP aiCP tiCP GCP bCP fun s u v => .of_eq rfl
  have EBCM : IsErr K CM (.ref Tc :: veL) := ⟨_, _, _, _, _, _, _, _, _, _, _, _, _, _, xLCM⟩
  have FBCM : ErrF K CM := ⟨saCM, gaCM, ggCM, haCM, kCCM⟩
  have ZBCM : IsiC K CM := isi_of EBCM FBCM rfl hn ht
  have RECM : ∀ base : Heap, ErrC l.prog w K mg base "BadMost" CM "most" := fun base => ok_BadMost (M aCM) (oex_of EBCM FBCM rfl ZBCM) (xf_of EBCM FBCM ZBCM) nbCM aiCM tiCM GCM bCM fun s u v => .of_eq rfl
  have XM : ExM K CP CM CU := ⟨exm_of exCP icCP tyCP sCPCP, exm_of exCP icCP tyCP sCMCP, exm_of exCM icCM tyCM sCMCM, exm_of exCP icCP tyCP sCUCP, exm_of exCM icCM tyCM sCUCM, exm_of exCU icCU tyCU sCUCU⟩
  have Y : UnC K mg CU := ⟨M aCU, xCU, kCU, exCU, tyCU, sCUCU, icCU⟩
  refine ⟨PySem.W.fnOf "law" "law" (defArgs s_law) (defBody s_law) (defScope s_law) .none kVL_law dcL_law pmL_law anL_law (.ref cAl) ctL_law, [(cAl, PTl), (cAe, PTe), (cAr, PTr)], spLaw05 K [(PTl, lawQ), (PTe, endsQ), (PTr, refQ)], fun p hp => ?_, fun p hp => ?_, fun p hp => ?_, fun s v => .of_eq rfl, fun H a ns hl _ hTb hS => ⟨a, ns, rfl, hS, hl, fun p hp => ?_, fun _ => rfl⟩, fun base _ _ hTB => ?_⟩
  · simp only [List.mem_cons, List.not_mem_nil, or_false] at hp
    rcases hp with rfl | rfl | rfl
    · exact own cAl PTl _ _ _ _ _ _ lL_law rfl rfl lAl vl
    · exact ye
    · exact yr
  · simp only [List.mem_cons, List.not_mem_nil, or_false] at hp
    rcases hp with rfl | rfl | rfl
    · exact nPTl
    · exact nPTe
    · exact nPTr
  · simp only [List.mem_cons, List.not_mem_nil, or_false] at hp
    rcases hp with rfl | rfl | rfl
    · exact PySem.W.codeHd_of_K X hdAl
    · exact PySem.W.codeHd_of_K X hdAe
    · exact PySem.W.codeHd_of_K X hdAr
  · simp only [List.mem_cons, List.not_mem_nil, or_false] at hp
    rcases hp with rfl | rfl | rfl
    · exact LamX.TabS.nil (hTb (cAl, PTl) (by simp))
    · exact LamX.TabS.nil (hTb (cAe, PTe) (by simp))
    · exact LamX.TabS.nil (hTb (cAr, PTr) (by simp))
  have TBl := hTB (cAl, PTl) (by simp)
  have TBe := hTB (cAe, PTe) (by simp)
  have TBr := hTB (cAr, PTr) (by simp)
  have ml : (PTl, lawQ) ∈ [(PTl, lawQ), (PTe, endsQ), (PTr, refQ)] := by simp
  have me : (PTe, endsQ) ∈ [(PTl, lawQ), (PTe, endsQ), (PTr, refQ)] := by simp
  have mr : (PTr, refQ) ∈ [(PTl, lawQ), (PTe, endsQ), (PTr, refQ)] := by simp
  have hul : ∀ p ∈ [(PTl, lawQ), (PTe, endsQ), (PTr, refQ)], p.1 = PTl → p.2 = lawQ := fun p hp e => by
    simp only [List.mem_cons, List.not_mem_nil, or_false] at hp
    rcases hp with rfl | rfl | rfl
    · rfl
    · exact absurd e.symm dle
    · exact absurd e.symm dlr
  have hue : ∀ p ∈ [(PTl, lawQ), (PTe, endsQ), (PTr, refQ)], p.1 = PTe → p.2 = endsQ := fun p hp e => by
    simp only [List.mem_cons, List.not_mem_nil, or_false] at hp
    rcases hp with rfl | rfl | rfl
    · exact absurd e dle
    · rfl
    · exact absurd e.symm der
  have hur : ∀ p ∈ [(PTl, lawQ), (PTe, endsQ), (PTr, refQ)], p.1 = PTr → p.2 = refQ := fun p hp e => by
    simp only [List.mem_cons, List.not_mem_nil, or_false] at hp
    rcases hp with rfl | rfl | rfl
    · exact absurd e dlr
    · exact absurd e der
    · rfl
  have RP := RECP base
  have RM := RECM base
  have D_int : DefAt l.prog w K mg base "is_integer" 1 ["thing"] (spB K isI) := ⟨_, _, ok_is_integer GF_is_integer TF, M aF_is_integer, kF_is_integer, bF_is_integer⟩
  have D_num : DefAt l.prog w K mg base "is_number_of_places" 2 ["thing"] (spB K isN) := ⟨_, _, ok_is_number_of_places GF_is_number_of_places TF D_int, M aF_is_number_of_places, kF_is_number_of_places, bF_is_number_of_places⟩
  have D_chk : DefAt l.prog w K mg base "_check_number_of_places" 3 ["places"] (spCheckP) := ⟨_, _, ok_checkP GF_check_number_of_places TK D_num, M aF_check_number_of_places, kF_check_number_of_places, bF_check_number_of_places⟩
  have D_chkX : DefX l.prog w K mg base "_check_number_of_places" 3 ["places"] (spCheckBad K CP) := ⟨_, _, ok_checkBad GF_check_number_of_places TK RP D_num, M aF_check_number_of_places, kF_check_number_of_places, bF_check_number_of_places⟩
  have NC : Mak l.prog w K mg base 1 "Contrary" (c .co) (spIC c) [] := ⟨_, _, _, _, ⟨mkco, aMco_init, iMco_init, kcco⟩, ok_Contrary_init GMco_init S, M aCco, bMco_init, .nil⟩
  have NP : Mak l.prog w K mg base 1 "Pair" (c .pa) (spIP c) [] := ⟨_, _, _, _, ⟨mkpa, aMpa_init, iMpa_init, kcpa⟩, ok_Pair_init GMpa_init S, M aCpa, bMpa_init, .nil⟩
  have NPX : MakX l.prog w K mg base 1 "Pair" (c .pa) (spIPX c CU) [] := ⟨_, _, _, _, ⟨mkpa, aMpa_init, iMpa_init, kcpa⟩, fn_or (ok_Pair_init GMpa_init S) (ok_Pair_bad GMpa_init S Y), M aCpa, bMpa_init, .nil⟩
  have N : KMk l.prog w K mg base c := ⟨⟨_, _, _, _, ⟨mkha, aMha_init, iMha_init, kcha⟩, ok_Halves_init GMha_init TK S D_chk, M aCha, bMha_init, .nil⟩, ⟨_, _, _, _, ⟨mkbo, aMbo_init, iMbo_init, kcbo⟩, ok_Boxes_init GMbo_init TK S D_chk, M aCbo, bMbo_init, .nil⟩, ⟨_, _, _, _, ⟨mkri, aMri_init, iMri_init, kcri⟩, ok_Rising_init GMri_init TK S D_chk, M aCri, bMri_init, .nil⟩, ⟨_, _, _, _, ⟨mkfl, aMfl_init, iMfl_init, kcfl⟩, ok_Flats_init GMfl_init TK S D_chk, M aCfl, bMfl_init, .nil⟩, ⟨_, _, _, _, ⟨mktu, aMtu_init, iMtu_init, kctu⟩, ok_Turns_init GMtu_init TK S D_int, M aCtu, bMtu_init, .nil⟩⟩
  have NXha : MakX l.prog w K mg base 4 "Halves" (c .ha) (spI1X K CP (c .ha)) [] := ⟨_, _, _, _, ⟨mkha, aMha_init, iMha_init, kcha⟩, fn_or (ok_Halves_init GMha_init TK S D_chk) (ok_Halves_bad GMha_init TK D_chkX), M aCha, bMha_init, .nil⟩
  have NXbo : MakX l.prog w K mg base 4 "Boxes" (c .bo) (spI1X K CP (c .bo)) [] := ⟨_, _, _, _, ⟨mkbo, aMbo_init, iMbo_init, kcbo⟩, fn_or (ok_Boxes_init GMbo_init TK S D_chk) (ok_Boxes_bad GMbo_init TK D_chkX), M aCbo, bMbo_init, .nil⟩
  have NXri : MakX l.prog w K mg base 4 "Rising" (c .ri) (spI1X K CP (c .ri)) [] := ⟨_, _, _, _, ⟨mkri, aMri_init, iMri_init, kcri⟩, fn_or (ok_Rising_init GMri_init TK S D_chk) (ok_Rising_bad GMri_init TK D_chkX), M aCri, bMri_init, .nil⟩
  have NXfl : MakX l.prog w K mg base 4 "Flats" (c .fl) (spI1X K CP (c .fl)) [] := ⟨_, _, _, _, ⟨mkfl, aMfl_init, iMfl_init, kcfl⟩, fn_or (ok_Flats_init GMfl_init TK S D_chk) (ok_Flats_bad GMfl_init TK D_chkX), M aCfl, bMfl_init, .nil⟩
  have NXtu : MakX l.prog w K mg base 4 "Turns" (c .tu) (spITX K CM (c .tu)) [] := ⟨_, _, _, _, ⟨mktu, aMtu_init, iMtu_init, kctu⟩, fn_or ((ok_Turns_init GMtu_init TK S D_int).mono (by decide)) ((ok_Turns_bad GMtu_init TK RM D_int).mono (by decide)), M aCtu, bMtu_init, .nil⟩
  have inv : ∀ i, InvI l.prog w K mg base (c i) (spInv K c) := fun i => by
    cases i
    · exact ⟨_, _, ok_Halves_invert GMha_invert NC, aMha_invert, iMha_invert, bMha_invert⟩
    · exact ⟨_, _, ok_Boxes_invert GMbo_invert NC, aMbo_invert, iMbo_invert, bMbo_invert⟩
    · exact ⟨_, _, ok_Rising_invert GMri_invert NC, aMri_invert, iMri_invert, bMri_invert⟩
    · exact ⟨_, _, ok_Flats_invert GMfl_invert NC, aMfl_invert, iMfl_invert, bMfl_invert⟩
    · exact ⟨_, _, ok_Turns_invert GMtu_invert NC, aMtu_invert, iMtu_invert, bMtu_invert⟩
    · exact ⟨_, _, ok_Contrary_invert GMco_invert NC, aMco_invert, iMco_invert, bMco_invert⟩
    · exact ⟨_, _, ok_Pair_invert GMpa_invert NC, aMpa_invert, iMpa_invert, bMpa_invert⟩
  have op_and : ∀ i, OpI l.prog w K mg base (c i) .BitAnd (spPr c .both) := fun i => by
    cases i
    · exact ⟨_, _, ok_Halves_and GMha_and NP, ⟨sfha, by rw [dn_and.1]; exact aMha_and, iMha_and, by rw [dn_and.2]; exact rha_rand⟩, bMha_and⟩
    · exact ⟨_, _, ok_Boxes_and GMbo_and NP, ⟨sfbo, by rw [dn_and.1]; exact aMbo_and, iMbo_and, by rw [dn_and.2]; exact rbo_rand⟩, bMbo_and⟩
    · exact ⟨_, _, ok_Rising_and GMri_and NP, ⟨sfri, by rw [dn_and.1]; exact aMri_and, iMri_and, by rw [dn_and.2]; exact rri_rand⟩, bMri_and⟩
    · exact ⟨_, _, ok_Flats_and GMfl_and NP, ⟨sffl, by rw [dn_and.1]; exact aMfl_and, iMfl_and, by rw [dn_and.2]; exact rfl_rand⟩, bMfl_and⟩
    · exact ⟨_, _, ok_Turns_and GMtu_and NP, ⟨sftu, by rw [dn_and.1]; exact aMtu_and, iMtu_and, by rw [dn_and.2]; exact rtu_rand⟩, bMtu_and⟩
    · exact ⟨_, _, ok_Contrary_and GMco_and NP, ⟨sfco, by rw [dn_and.1]; exact aMco_and, iMco_and, by rw [dn_and.2]; exact rco_rand⟩, bMco_and⟩
    · exact ⟨_, _, ok_Pair_and GMpa_and NP, ⟨sfpa, by rw [dn_and.1]; exact aMpa_and, iMpa_and, by rw [dn_and.2]; exact rpa_rand⟩, bMpa_and⟩
  have ox_and : ∀ i, OpIX l.prog w K mg base (c i) .BitAnd (spPrX c CU .both) := fun i => by
    cases i
    · exact ⟨_, _, fn_or (ok_Halves_and GMha_and NP) (ok_Halves_and_bad GMha_and NPX), ⟨sfha, by rw [dn_and.1]; exact aMha_and, iMha_and, by rw [dn_and.2]; exact rha_rand⟩, bMha_and⟩
    · exact ⟨_, _, fn_or (ok_Boxes_and GMbo_and NP) (ok_Boxes_and_bad GMbo_and NPX), ⟨sfbo, by rw [dn_and.1]; exact aMbo_and, iMbo_and, by rw [dn_and.2]; exact rbo_rand⟩, bMbo_and⟩
    · exact ⟨_, _, fn_or (ok_Rising_and GMri_and NP) (ok_Rising_and_bad GMri_and NPX), ⟨sfri, by rw [dn_and.1]; exact aMri_and, iMri_and, by rw [dn_and.2]; exact rri_rand⟩, bMri_and⟩
    · exact ⟨_, _, fn_or (ok_Flats_and GMfl_and NP) (ok_Flats_and_bad GMfl_and NPX), ⟨sffl, by rw [dn_and.1]; exact aMfl_and, iMfl_and, by rw [dn_and.2]; exact rfl_rand⟩, bMfl_and⟩
    · exact ⟨_, _, fn_or (ok_Turns_and GMtu_and NP) (ok_Turns_and_bad GMtu_and NPX), ⟨sftu, by rw [dn_and.1]; exact aMtu_and, iMtu_and, by rw [dn_and.2]; exact rtu_rand⟩, bMtu_and⟩
    · exact ⟨_, _, fn_or (ok_Contrary_and GMco_and NP) (ok_Contrary_and_bad GMco_and NPX), ⟨sfco, by rw [dn_and.1]; exact aMco_and, iMco_and, by rw [dn_and.2]; exact rco_rand⟩, bMco_and⟩
    · exact ⟨_, _, fn_or (ok_Pair_and GMpa_and NP) (ok_Pair_and_bad GMpa_and NPX), ⟨sfpa, by rw [dn_and.1]; exact aMpa_and, iMpa_and, by rw [dn_and.2]; exact rpa_rand⟩, bMpa_and⟩
  have op_or : ∀ i, OpI l.prog w K mg base (c i) .BitOr (spPr c .either) := fun i => by
    cases i
    · exact ⟨_, _, ok_Halves_or GMha_or NP, ⟨sfha, by rw [dn_or.1]; exact aMha_or, iMha_or, by rw [dn_or.2]; exact rha_ror⟩, bMha_or⟩
    · exact ⟨_, _, ok_Boxes_or GMbo_or NP, ⟨sfbo, by rw [dn_or.1]; exact aMbo_or, iMbo_or, by rw [dn_or.2]; exact rbo_ror⟩, bMbo_or⟩
    · exact ⟨_, _, ok_Rising_or GMri_or NP, ⟨sfri, by rw [dn_or.1]; exact aMri_or, iMri_or, by rw [dn_or.2]; exact rri_ror⟩, bMri_or⟩
    · exact ⟨_, _, ok_Flats_or GMfl_or NP, ⟨sffl, by rw [dn_or.1]; exact aMfl_or, iMfl_or, by rw [dn_or.2]; exact rfl_ror⟩, bMfl_or⟩
    · exact ⟨_, _, ok_Turns_or GMtu_or NP, ⟨sftu, by rw [dn_or.1]; exact aMtu_or, iMtu_or, by rw [dn_or.2]; exact rtu_ror⟩, bMtu_or⟩
    · exact ⟨_, _, ok_Contrary_or GMco_or NP, ⟨sfco, by rw [dn_or.1]; exact aMco_or, iMco_or, by rw [dn_or.2]; exact rco_ror⟩, bMco_or⟩
    · exact ⟨_, _, ok_Pair_or GMpa_or NP, ⟨sfpa, by rw [dn_or.1]; exact aMpa_or, iMpa_or, by rw [dn_or.2]; exact rpa_ror⟩, bMpa_or⟩
  have ox_or : ∀ i, OpIX l.prog w K mg base (c i) .BitOr (spPrX c CU .either) := fun i => by
    cases i
    · exact ⟨_, _, fn_or (ok_Halves_or GMha_or NP) (ok_Halves_or_bad GMha_or NPX), ⟨sfha, by rw [dn_or.1]; exact aMha_or, iMha_or, by rw [dn_or.2]; exact rha_ror⟩, bMha_or⟩
    · exact ⟨_, _, fn_or (ok_Boxes_or GMbo_or NP) (ok_Boxes_or_bad GMbo_or NPX), ⟨sfbo, by rw [dn_or.1]; exact aMbo_or, iMbo_or, by rw [dn_or.2]; exact rbo_ror⟩, bMbo_or⟩
    · exact ⟨_, _, fn_or (ok_Rising_or GMri_or NP) (ok_Rising_or_bad GMri_or NPX), ⟨sfri, by rw [dn_or.1]; exact aMri_or, iMri_or, by rw [dn_or.2]; exact rri_ror⟩, bMri_or⟩
    · exact ⟨_, _, fn_or (ok_Flats_or GMfl_or NP) (ok_Flats_or_bad GMfl_or NPX), ⟨sffl, by rw [dn_or.1]; exact aMfl_or, iMfl_or, by rw [dn_or.2]; exact rfl_ror⟩, bMfl_or⟩
    · exact ⟨_, _, fn_or (ok_Turns_or GMtu_or NP) (ok_Turns_or_bad GMtu_or NPX), ⟨sftu, by rw [dn_or.1]; exact aMtu_or, iMtu_or, by rw [dn_or.2]; exact rtu_ror⟩, bMtu_or⟩
    · exact ⟨_, _, fn_or (ok_Contrary_or GMco_or NP) (ok_Contrary_or_bad GMco_or NPX), ⟨sfco, by rw [dn_or.1]; exact aMco_or, iMco_or, by rw [dn_or.2]; exact rco_ror⟩, bMco_or⟩
    · exact ⟨_, _, fn_or (ok_Pair_or GMpa_or NP) (ok_Pair_or_bad GMpa_or NPX), ⟨sfpa, by rw [dn_or.1]; exact aMpa_or, iMpa_or, by rw [dn_or.2]; exact rpa_ror⟩, bMpa_or⟩
  have op_add : ∀ i, OpI l.prog w K mg base (c i) .Add (spPr c .any) := fun i => by
    cases i
    · exact ⟨_, _, ok_Halves_add GMha_add NP, ⟨sfha, by rw [dn_add.1]; exact aMha_add, iMha_add, by rw [dn_add.2]; exact rha_radd⟩, bMha_add⟩
    · exact ⟨_, _, ok_Boxes_add GMbo_add NP, ⟨sfbo, by rw [dn_add.1]; exact aMbo_add, iMbo_add, by rw [dn_add.2]; exact rbo_radd⟩, bMbo_add⟩
    · exact ⟨_, _, ok_Rising_add GMri_add NP, ⟨sfri, by rw [dn_add.1]; exact aMri_add, iMri_add, by rw [dn_add.2]; exact rri_radd⟩, bMri_add⟩
    · exact ⟨_, _, ok_Flats_add GMfl_add NP, ⟨sffl, by rw [dn_add.1]; exact aMfl_add, iMfl_add, by rw [dn_add.2]; exact rfl_radd⟩, bMfl_add⟩
    · exact ⟨_, _, ok_Turns_add GMtu_add NP, ⟨sftu, by rw [dn_add.1]; exact aMtu_add, iMtu_add, by rw [dn_add.2]; exact rtu_radd⟩, bMtu_add⟩
    · exact ⟨_, _, ok_Contrary_add GMco_add NP, ⟨sfco, by rw [dn_add.1]; exact aMco_add, iMco_add, by rw [dn_add.2]; exact rco_radd⟩, bMco_add⟩
    · exact ⟨_, _, ok_Pair_add GMpa_add NP, ⟨sfpa, by rw [dn_add.1]; exact aMpa_add, iMpa_add, by rw [dn_add.2]; exact rpa_radd⟩, bMpa_add⟩
  have ox_add : ∀ i, OpIX l.prog w K mg base (c i) .Add (spPrX c CU .any) := fun i => by
    cases i
    · exact ⟨_, _, fn_or (ok_Halves_add GMha_add NP) (ok_Halves_add_bad GMha_add NPX), ⟨sfha, by rw [dn_add.1]; exact aMha_add, iMha_add, by rw [dn_add.2]; exact rha_radd⟩, bMha_add⟩
    · exact ⟨_, _, fn_or (ok_Boxes_add GMbo_add NP) (ok_Boxes_add_bad GMbo_add NPX), ⟨sfbo, by rw [dn_add.1]; exact aMbo_add, iMbo_add, by rw [dn_add.2]; exact rbo_radd⟩, bMbo_add⟩
    · exact ⟨_, _, fn_or (ok_Rising_add GMri_add NP) (ok_Rising_add_bad GMri_add NPX), ⟨sfri, by rw [dn_add.1]; exact aMri_add, iMri_add, by rw [dn_add.2]; exact rri_radd⟩, bMri_add⟩
    · exact ⟨_, _, fn_or (ok_Flats_add GMfl_add NP) (ok_Flats_add_bad GMfl_add NPX), ⟨sffl, by rw [dn_add.1]; exact aMfl_add, iMfl_add, by rw [dn_add.2]; exact rfl_radd⟩, bMfl_add⟩
    · exact ⟨_, _, fn_or (ok_Turns_add GMtu_add NP) (ok_Turns_add_bad GMtu_add NPX), ⟨sftu, by rw [dn_add.1]; exact aMtu_add, iMtu_add, by rw [dn_add.2]; exact rtu_radd⟩, bMtu_add⟩
    · exact ⟨_, _, fn_or (ok_Contrary_add GMco_add NP) (ok_Contrary_add_bad GMco_add NPX), ⟨sfco, by rw [dn_add.1]; exact aMco_add, iMco_add, by rw [dn_add.2]; exact rco_radd⟩, bMco_add⟩
    · exact ⟨_, _, fn_or (ok_Pair_add GMpa_add NP) (ok_Pair_add_bad GMpa_add NPX), ⟨sfpa, by rw [dn_add.1]; exact aMpa_add, iMpa_add, by rw [dn_add.2]; exact rpa_radd⟩, bMpa_add⟩
  have sub : ∀ i j, c i = c j ∨ PySem.W.subIn K (.ref (c j)) (.ref (c i)) = some false := fun i j => by
    cases i <;> cases j <;> first | exact .inl rfl | exact .inr uha_bo | exact .inr uha_ri | exact .inr uha_fl | exact .inr uha_tu | exact .inr uha_co | exact .inr uha_pa | exact .inr ubo_ha | exact .inr ubo_ri | exact .inr ubo_fl | exact .inr ubo_tu | exact .inr ubo_co | exact .inr ubo_pa | exact .inr uri_ha | exact .inr uri_bo | exact .inr uri_fl | exact .inr uri_tu | exact .inr uri_co | exact .inr uri_pa | exact .inr ufl_ha | exact .inr ufl_bo | exact .inr ufl_ri | exact .inr ufl_tu | exact .inr ufl_co | exact .inr ufl_pa | exact .inr utu_ha | exact .inr utu_bo | exact .inr utu_ri | exact .inr utu_fl | exact .inr utu_co | exact .inr utu_pa | exact .inr uco_ha | exact .inr uco_bo | exact .inr uco_ri | exact .inr uco_fl | exact .inr uco_tu | exact .inr uco_pa | exact .inr upa_ha | exact .inr upa_bo | exact .inr upa_ri | exact .inr upa_fl | exact .inr upa_tu | exact .inr upa_co
  have O : KOp l.prog w K mg base c := ⟨inv, op_and, op_or, op_add, sub⟩
  have OX : KOpX l.prog w K mg base c CU := ⟨ox_and, ox_or, ox_add, sub⟩
  have EF : EqFs K c := ⟨⟨_, _, GMha_eq, ⟨aMha_eq, iMha_eq, qnha, qoha⟩, bMha_eq⟩, ⟨_, _, GMbo_eq, ⟨aMbo_eq, iMbo_eq, qnbo, qobo⟩, bMbo_eq⟩, ⟨_, _, GMri_eq, ⟨aMri_eq, iMri_eq, qnri, qori⟩, bMri_eq⟩, ⟨_, _, GMfl_eq, ⟨aMfl_eq, iMfl_eq, qnfl, qofl⟩, bMfl_eq⟩, ⟨_, _, GMtu_eq, ⟨aMtu_eq, iMtu_eq, qntu, qotu⟩, bMtu_eq⟩, ⟨_, _, GMco_eq, ⟨aMco_eq, iMco_eq, qnco, qoco⟩, bMco_eq⟩, ⟨_, _, GMpa_eq, ⟨aMpa_eq, iMpa_eq, qnpa, qopa⟩, bMpa_eq⟩⟩
  have EM : ∀ n, EqM l.prog w K mg base c n := eq_all TK S NE EF
  have DE : EndL l.prog w K mg base CP CM CU := ⟨⟨_, _, _, _, _, _, _, _, _, _, _, M aL_end, kL_end, lL_end, cL_end, bL_end⟩, RP, RM, M aCU⟩
  have D_source : DefAt l.prog w K mg base "_law_source" 1 ["_law_script", "_law_at"] (spSource K) := ⟨_, _, ok_source GL_source TB, M aL_source, kL_source, bL_source⟩
  have D_draw : DefAt l.prog w K mg base "_law_draw" 1 ["_law_draws", "_law_many"] (spDraw) := ⟨_, _, ok_draw GL_draw TB, M aL_draw, kL_draw, bL_draw⟩
  have D_pick : DefAt l.prog w K mg base "_law_pick" 2 ["_law_draws", "_law_things"] (spPick K) := ⟨_, _, ok_pick GL_pick TB D_draw, M aL_pick, kL_pick, bL_pick⟩
  have D_pickV : DefAt l.prog w K mg base "_law_pick" 2 ["_law_draws", "_law_things"] (spPickV K) := ⟨_, _, ok_pickV GL_pick TB D_draw, M aL_pick, kL_pick, bL_pick⟩
  have D_same : ∀ n, DefAt l.prog w K mg base "_law_same" n ["_law_found", "_law_due"] (spPrevQ K n) := fun n => by
    induction n with
    | zero => exact ⟨_, _, ⟨fun _ _ _ _ h => h.elim, fun _ _ _ _ _ _ _ _ _ _ _ _ _ h => h.elim⟩, M aL_same, kL_same, bL_same⟩
    | succ n ih => exact ⟨_, _, same_bodyQ GL_same TB n ih, M aL_same, kL_same, bL_same⟩
  have D_plain : DefAt l.prog w K mg base "_law_plain" 3 ["_law_draws", "_law_places_here"] (spPlain K) := ⟨_, _, ok_plain GL_plain TR D_draw D_pick, M aL_plain, kL_plain, bL_plain⟩
  have D_part : DefAt l.prog w K mg base "_law_part" 3 ["_law_draws", "_law_places_here"] (spPlain K) := ⟨_, _, ok_part GL_part TR D_draw D_pick, M aL_part, kL_part, bL_part⟩
  have D_joint : ∀ n, DefAt l.prog w K mg base "_law_joint" (2 * n + 2) ["_law_draws", "_law_places_here", "_law_deep"] (spJointP K n) ∧ DefAt l.prog w K mg base "_law_pair" (2 * n + 3) ["_law_draws", "_law_places_here", "_law_deep"] (spPair K n) := fun n => by
    induction n with
    | zero => exact ⟨⟨_, _, ⟨fun _ _ _ _ h => h.elim, fun _ _ _ _ _ _ _ _ _ _ _ _ _ h => h.elim⟩, M aL_joint, kL_joint, bL_joint⟩, ⟨_, _, ⟨fun _ _ _ _ h => h.elim, fun _ _ _ _ _ _ _ _ _ _ _ _ _ h => h.elim⟩, M aL_pair, kL_pair, bL_pair⟩⟩
    | succ n ih =>
      have J : DefAt l.prog w K mg base "_law_joint" (2 * n + 4) ["_law_draws", "_law_places_here", "_law_deep"] (spJoint K n) := ⟨_, _, joint_body GL_joint TR n D_draw D_pick D_part ih.1 ih.2, M aL_joint, kL_joint, bL_joint⟩
      exact ⟨J, ⟨_, _, pair_body GL_pair TR n D_draw D_part J, M aL_pair, kL_pair, bL_pair⟩⟩
  have D_spec : ∀ n, DefAt l.prog w K mg base "_law_spec" (2 * n + 2) ["_law_draws", "_law_places_here", "_law_deep"] (spJointP K n) := fun n => by
    induction n with
    | zero => exact ⟨_, _, ⟨fun _ _ _ _ h => h.elim, fun _ _ _ _ _ _ _ _ _ _ _ _ _ h => h.elim⟩, M aL_spec, kL_spec, bL_spec⟩
    | succ n ih => exact ⟨_, _, spec_body GL_spec TR n D_draw D_pick D_plain ih (D_joint n).2, M aL_spec, kL_spec, bL_spec⟩
  have D_built : ∀ n, DefAt l.prog w K mg base "_law_built" (n + 6) ["_law_spec_here"] (spBuiltP K c n) := fun n => by
    induction n with
    | zero => exact ⟨_, _, ⟨fun _ _ _ _ h => h.elim, fun _ _ _ _ _ _ _ _ _ _ _ _ _ h => h.elim⟩, M aL_built, kL_built, bL_built⟩
    | succ n ih => exact ⟨_, _, built_body GL_built N O n ih, M aL_built, kL_built, bL_built⟩
  have D_pl : ∀ n, DefAt l.prog w K mg base "_law_places" n ["_law_spec_here"] (spPlP K n) := fun n => by
    induction n with
    | zero => exact ⟨_, _, ⟨fun _ _ _ _ h => h.elim, fun _ _ _ _ _ _ _ _ _ _ _ _ _ h => h.elim⟩, M aL_places, kL_places, bL_places⟩
    | succ n ih => exact ⟨_, _, places_body GL_places TB n ih, M aL_places, kL_places, bL_places⟩
  have D_ends : DefAt l.prog w K mg base "_law_ends" 9 ["_law_one", "_law_other"] (spEnds K c [(PTl, lawQ), (PTe, endsQ), (PTr, refQ)]) := ⟨_, _, ok_code (N := sc_ends_N) lL_ends cL_ends sc_ends (fun vs H Q E h => by
    obtain ⟨_, _, _, _, rfl, _⟩ := h
    rfl) (fun A outer s H vs Q E hr h => ends_try DE XM S TBe me hue hr OX h), M aL_ends, kL_ends, bL_ends⟩
  have D_refused : DefAt l.prog w K mg base "_law_refused" 9 ["_law_odd"] (spRefused K [(PTl, lawQ), (PTe, endsQ), (PTr, refQ)]) := ⟨_, _, ok_code (N := sc_refused_N) lL_refused cL_refused sc_refused (fun vs H Q E h => by
    obtain ⟨_, _, rfl, _⟩ := h
    rfl) (fun A outer s H vs Q E hr h => refused_try (c := c) DE XM TBr mr hur hr NXha NXbo NXri NXfl h), M aL_refused, kL_refused, bL_refused⟩
  refine FnOk.mono (j := 15) (ok_code (N := sc_law_N) lL_law cL_law sc_law (fun vs H Q E h => ?_) (fun A outer s H vs Q E hr h => ?_)) (by decide)
  · obtain ⟨_, _, rfl, _⟩ := h
    rfl
  · obtain ⟨a, ns, rfl, hS, hlen, ht0, k0⟩ := h
    exact law_try T S NE XM hr DE TBl ml hul (EM 4) N O NXtu D_source D_draw D_pickV (D_spec 3) (D_built 5) (D_pl 5) (D_same 6) D_ends D_refused hS hlen ht0 k0
theorem walk {l : PySem.W.OpenLaw} {q : Program} {loose : List Str} {XP : (Str → Option Value) → Heap → Prop} {YP : World → Heap → Prop} {d : DefRec} {K : Params → PySem.W.Frag} (hn : l.most = some 63) (hdf : d.params.defaults = []) (hrec : ((recsOf q).any fun e => e.name == d.name) = true)
    (hY : ∀ (w : World) (h : Heap), YP w h → (K w.params).In h)
    (F : ∀ (w : World) (mg : Str → Option Value) (fa : Addr) (h : Heap), YP w h → (K w.params).In h → h.Ns mainGlobals mg → mg d.name = some (.ref fa) → LamX.OwnTab (K w.params) fa h →
      LamX.LawAtS l w (K w.params) CX0 20 63 "_law_script" mg fa h) :
    PySem.W.WalkO q loose XP YP l.row.toRowW d [] (fun f vs => PySem.call f vs) :=
  LamX.walk_ofOwn (n := 63) (k := 20) (x := "_law_script") (CX := fun _ => CX0) hn (by decide) hdf ⟨rfl, by decide, by decide⟩ hrec hY F fun _ _ _ _ _ z => z
end U

set_option Elab.async false
open PySem PySem.W PyProof.Rows in
set_option maxRecDepth 100000 in
set_option maxHeartbeats 0 in
theorem PySem.Challenge.cw_toldenough_k05_kinds_made_holds : PySem.Challenge.rw_toldenough_k05_kinds_made.Holds := by
  w_on; o_law; k_head; (case hw => w_witness2)
  k_fill
  refine U.walk (l := PySem.Challenge.rw_toldenough_k05_kinds_made) rfl rfl (by decide +kernel) (fun w h Y => PySem.W.km_in_of Y) ?F
  case F =>
    intro w mg fa h Y KX G hmg own
    refine' U.all_mk KX G hmg own ?aF_is_integer ?lF_is_integer ?cF_is_integer ?kF_is_integer ?aF_is_number_of_places ?lF_is_number_of_places ?cF_is_number_of_places ?kF_is_number_of_places ?aF_check_number_of_places ?lF_check_number_of_places ?cF_check_number_of_places ?kF_check_number_of_places ?aL_source ?lL_source ?cL_source ?kL_source ?aL_draw ?lL_draw ?cL_draw ?kL_draw ?aL_pick ?lL_pick ?cL_pick ?kL_pick ?aL_same ?lL_same ?cL_same ?kL_same ?aL_plain ?lL_plain ?cL_plain ?kL_plain ?aL_spec ?lL_spec ?cL_spec ?kL_spec ?aL_built ?lL_built ?cL_built ?kL_built ?aL_part ?lL_part ?cL_part ?kL_part ?aL_joint ?lL_joint ?cL_joint ?kL_joint ?aL_pair ?lL_pair ?cL_pair ?kL_pair ?aL_end ?lL_end ?cL_end ?kL_end ?aL_places ?lL_places ?cL_places ?kL_places ?aL_ends ?lL_ends ?cL_ends ?kL_ends ?lAe ?ve ?hdAe ?nPTe ?aL_refused ?lL_refused ?cL_refused ?kL_refused ?lAr ?vr ?hdAr ?nPTr ?aL_law ?lL_law ?cL_law ?kL_law ?lAl ?vl ?hdAl ?nPTl ?aCha ?pgha ?hdha ?poha ?saha ?mkha ?kcha ?sfha ?nha_places ?nha_most ?nha_kind ?nha_word ?nha_one ?nha_other ?rha_rand ?rha_ror ?rha_radd ?qhha ?qnha ?qmha ?qcha ?qtha ?qsha ?qoha ?aMha_init ?iMha_init ?lMha_init ?cMha_init ?kMha_init ?aMha_invert ?iMha_invert ?lMha_invert ?cMha_invert ?kMha_invert ?aMha_and ?iMha_and ?lMha_and ?cMha_and ?kMha_and ?aMha_or ?iMha_or ?lMha_or ?cMha_or ?kMha_or ?aMha_add ?iMha_add ?lMha_add ?cMha_add ?kMha_add ?aMha_eq ?iMha_eq ?lMha_eq ?cMha_eq ?kMha_eq ?aCbo ?pgbo ?hdbo ?pobo ?sabo ?mkbo ?kcbo ?sfbo ?nbo_places ?nbo_most ?nbo_kind ?nbo_word ?nbo_one ?nbo_other ?rbo_rand ?rbo_ror ?rbo_radd ?qhbo ?qnbo ?qmbo ?qcbo ?qtbo ?qsbo ?qobo ?aMbo_init ?iMbo_init ?lMbo_init ?cMbo_init ?kMbo_init ?aMbo_invert ?iMbo_invert ?lMbo_invert ?cMbo_invert ?kMbo_invert ?aMbo_and ?iMbo_and ?lMbo_and ?cMbo_and ?kMbo_and ?aMbo_or ?iMbo_or ?lMbo_or ?cMbo_or ?kMbo_or ?aMbo_add ?iMbo_add ?lMbo_add ?cMbo_add ?kMbo_add ?aMbo_eq ?iMbo_eq ?lMbo_eq ?cMbo_eq ?kMbo_eq ?aCri ?pgri ?hdri ?pori ?sari ?mkri ?kcri ?sfri ?nri_places ?nri_most ?nri_kind ?nri_word ?nri_one ?nri_other ?rri_rand ?rri_ror ?rri_radd ?qhri ?qnri ?qmri ?qcri ?qtri ?qsri ?qori ?aMri_init ?iMri_init ?lMri_init ?cMri_init ?kMri_init ?aMri_invert ?iMri_invert ?lMri_invert ?cMri_invert ?kMri_invert ?aMri_and ?iMri_and ?lMri_and ?cMri_and ?kMri_and ?aMri_or ?iMri_or ?lMri_or ?cMri_or ?kMri_or ?aMri_add ?iMri_add ?lMri_add ?cMri_add ?kMri_add ?aMri_eq ?iMri_eq ?lMri_eq ?cMri_eq ?kMri_eq ?aCfl ?pgfl ?hdfl ?pofl ?safl ?mkfl ?kcfl ?sffl ?nfl_places ?nfl_most ?nfl_kind ?nfl_word ?nfl_one ?nfl_other ?rfl_rand ?rfl_ror ?rfl_radd ?qhfl ?qnfl ?qmfl ?qcfl ?qtfl ?qsfl ?qofl ?aMfl_init ?iMfl_init ?lMfl_init ?cMfl_init ?kMfl_init ?aMfl_invert ?iMfl_invert ?lMfl_invert ?cMfl_invert ?kMfl_invert ?aMfl_and ?iMfl_and ?lMfl_and ?cMfl_and ?kMfl_and ?aMfl_or ?iMfl_or ?lMfl_or ?cMfl_or ?kMfl_or ?aMfl_add ?iMfl_add ?lMfl_add ?cMfl_add ?kMfl_add ?aMfl_eq ?iMfl_eq ?lMfl_eq ?cMfl_eq ?kMfl_eq ?aCtu ?pgtu ?hdtu ?potu ?satu ?mktu ?kctu ?sftu ?ntu_places ?ntu_most ?ntu_kind ?ntu_word ?ntu_one ?ntu_other ?rtu_rand ?rtu_ror ?rtu_radd ?qhtu ?qntu ?qmtu ?qctu ?qttu ?qstu ?qotu ?aMtu_init ?iMtu_init ?lMtu_init ?cMtu_init ?kMtu_init ?aMtu_invert ?iMtu_invert ?lMtu_invert ?cMtu_invert ?kMtu_invert ?aMtu_and ?iMtu_and ?lMtu_and ?cMtu_and ?kMtu_and ?aMtu_or ?iMtu_or ?lMtu_or ?cMtu_or ?kMtu_or ?aMtu_add ?iMtu_add ?lMtu_add ?cMtu_add ?kMtu_add ?aMtu_eq ?iMtu_eq ?lMtu_eq ?cMtu_eq ?kMtu_eq ?aCco ?pgco ?hdco ?poco ?saco ?mkco ?kcco ?sfco ?nco_places ?nco_most ?nco_kind ?nco_word ?nco_one ?nco_other ?rco_rand ?rco_ror ?rco_radd ?qhco ?qnco ?qmco ?qcco ?qtco ?qsco ?qoco ?aMco_init ?iMco_init ?lMco_init ?cMco_init ?kMco_init ?aMco_invert ?iMco_invert ?lMco_invert ?cMco_invert ?kMco_invert ?aMco_and ?iMco_and ?lMco_and ?cMco_and ?kMco_and ?aMco_or ?iMco_or ?lMco_or ?cMco_or ?kMco_or ?aMco_add ?iMco_add ?lMco_add ?cMco_add ?kMco_add ?aMco_eq ?iMco_eq ?lMco_eq ?cMco_eq ?kMco_eq ?aCpa ?pgpa ?hdpa ?popa ?sapa ?mkpa ?kcpa ?sfpa ?npa_places ?npa_most ?npa_kind ?npa_word ?npa_one ?npa_other ?rpa_rand ?rpa_ror ?rpa_radd ?qhpa ?qnpa ?qmpa ?qcpa ?qtpa ?qspa ?qopa ?aMpa_init ?iMpa_init ?lMpa_init ?cMpa_init ?kMpa_init ?aMpa_invert ?iMpa_invert ?lMpa_invert ?cMpa_invert ?kMpa_invert ?aMpa_and ?iMpa_and ?lMpa_and ?cMpa_and ?kMpa_and ?aMpa_or ?iMpa_or ?lMpa_or ?cMpa_or ?kMpa_or ?aMpa_add ?iMpa_add ?lMpa_add ?cMpa_add ?kMpa_add ?aMpa_eq ?iMpa_eq ?lMpa_eq ?cMpa_eq ?kMpa_eq ?uha_bo ?uha_ri ?uha_fl ?uha_tu ?uha_co ?uha_pa ?ubo_ha ?ubo_ri ?ubo_fl ?ubo_tu ?ubo_co ?ubo_pa ?uri_ha ?uri_bo ?uri_fl ?uri_tu ?uri_co ?uri_pa ?ufl_ha ?ufl_bo ?ufl_ri ?ufl_tu ?ufl_co ?ufl_pa ?utu_ha ?utu_bo ?utu_ri ?utu_fl ?utu_co ?utu_pa ?uco_ha ?uco_bo ?uco_ri ?uco_fl ?uco_tu ?uco_pa ?upa_ha ?upa_bo ?upa_ri ?upa_fl ?upa_tu ?upa_co ?hn ?ht ?aCP ?xLCP ?saCP ?gaCP ?ggCP ?haCP ?kCCP ?nbCP ?aiCP ?tiCP ?lCP ?cCP ?kCP ?aCM ?xLCM ?saCM ?gaCM ?ggCM ?haCM ?kCCM ?nbCM ?aiCM ?tiCM ?lCM ?cCM ?kCM ?aCU ?xCU ?kCU ?exCP ?icCP ?tyCP ?exCM ?icCM ?tyCM ?exCU ?icCU ?tyCU ?sCPCP ?sCMCP ?sCMCM ?sCUCP ?sCUCM ?sCUCU ?cLEAST_PLACES ?cMOST_PLACES ?cGREATEST_MOST ?z_len ?z_int ?z_isinstance ?z_list ?z_tuple ?z_bool ?z_all ?z_zip ?z_range ?z_enumerate ?z_any ?dle ?dlr ?der ?ye ?yr
    (case aF_is_integer => k_is)
    (case lF_is_integer => k_is)
    (case cF_is_integer => k_is)
    (case kF_is_integer => k_is)
    (case aF_is_number_of_places => k_is)
    (case lF_is_number_of_places => k_is)
    (case cF_is_number_of_places => k_is)
    (case kF_is_number_of_places => k_is)
    (case aF_check_number_of_places => k_is)
    (case lF_check_number_of_places => k_is)
    (case cF_check_number_of_places => k_is)
    (case kF_check_number_of_places => k_is)
    (case aL_source => k_is)
    (case lL_source => k_is)
    (case cL_source => k_is)
    (case kL_source => k_is)
    (case aL_draw => k_is)
    (case lL_draw => k_is)
    (case cL_draw => k_is)
    (case kL_draw => k_is)
    (case aL_pick => k_is)
    (case lL_pick => k_is)
    (case cL_pick => k_is)
    (case kL_pick => k_is)
    (case aL_same => k_is)
    (case lL_same => k_is)
    (case cL_same => k_is)
    (case kL_same => k_is)
    (case aL_plain => k_is)
    (case lL_plain => k_is)
    (case cL_plain => k_is)
    (case kL_plain => k_is)
    (case aL_spec => k_is)
    (case lL_spec => k_is)
    (case cL_spec => k_is)
    (case kL_spec => k_is)
    (case aL_built => k_is)
    (case lL_built => k_is)
    (case cL_built => k_is)
    (case kL_built => k_is)
    (case aL_part => k_is)
    (case lL_part => k_is)
    (case cL_part => k_is)
    (case kL_part => k_is)
    (case aL_joint => k_is)
    (case lL_joint => k_is)
    (case cL_joint => k_is)
    (case kL_joint => k_is)
    (case aL_pair => k_is)
    (case lL_pair => k_is)
    (case cL_pair => k_is)
    (case kL_pair => k_is)
    (case aL_end => k_is)
    (case lL_end => k_is)
    (case cL_end => k_is)
    (case kL_end => k_is)
    (case aL_places => k_is)
    (case lL_places => k_is)
    (case cL_places => k_is)
    (case kL_places => k_is)
    (case aL_ends => k_is)
    (case lL_ends => k_is)
    (case cL_ends => k_is)
    (case kL_ends => k_is)
    (case lAe => k_is)
    (case ve => rfl)
    (case hdAe => kernel_rfl)
    (case nPTe => kernel_rfl)
    (case aL_refused => k_is)
    (case lL_refused => k_is)
    (case cL_refused => k_is)
    (case kL_refused => k_is)
    (case lAr => k_is)
    (case vr => rfl)
    (case hdAr => kernel_rfl)
    (case nPTr => kernel_rfl)
    (case aL_law => k_is)
    (case lL_law => k_is)
    (case cL_law => k_is)
    (case kL_law => k_is)
    (case lAl => k_is)
    (case vl => rfl)
    (case hdAl => kernel_rfl)
    (case nPTl => kernel_rfl)
    (case aCha => k_is)
    (case pgha => k_is)
    (case hdha => k_is)
    (case poha => k_is)
    (case saha => k_is)
    (case mkha => k_is)
    (case kcha => k_is)
    (case sfha => k_is)
    (case nha_places => k_is)
    (case nha_most => k_is)
    (case nha_kind => k_is)
    (case nha_word => k_is)
    (case nha_one => k_is)
    (case nha_other => k_is)
    (case rha_rand => k_is)
    (case rha_ror => k_is)
    (case rha_radd => k_is)
    (case qhha => k_is)
    (case qnha => k_is)
    (case qmha => k_is)
    (case qcha => k_is)
    (case qtha => k_is)
    (case qsha => k_is)
    (case qoha => k_is)
    (case aMha_init => k_is)
    (case iMha_init => k_is)
    (case lMha_init => k_is)
    (case cMha_init => k_is)
    (case kMha_init => k_is)
    (case aMha_invert => k_is)
    (case iMha_invert => k_is)
    (case lMha_invert => k_is)
    (case cMha_invert => k_is)
    (case kMha_invert => k_is)
    (case aMha_and => k_is)
    (case iMha_and => k_is)
    (case lMha_and => k_is)
    (case cMha_and => k_is)
    (case kMha_and => k_is)
    (case aMha_or => k_is)
    (case iMha_or => k_is)
    (case lMha_or => k_is)
    (case cMha_or => k_is)
    (case kMha_or => k_is)
    (case aMha_add => k_is)
    (case iMha_add => k_is)
    (case lMha_add => k_is)
    (case cMha_add => k_is)
    (case kMha_add => k_is)
    (case aMha_eq => k_is)
    (case iMha_eq => k_is)
    (case lMha_eq => k_is)
    (case cMha_eq => k_is)
    (case kMha_eq => k_is)
    (case aCbo => k_is)
    (case pgbo => k_is)
    (case hdbo => k_is)
    (case pobo => k_is)
    (case sabo => k_is)
    (case mkbo => k_is)
    (case kcbo => k_is)
    (case sfbo => k_is)
    (case nbo_places => k_is)
    (case nbo_most => k_is)
    (case nbo_kind => k_is)
    (case nbo_word => k_is)
    (case nbo_one => k_is)
    (case nbo_other => k_is)
    (case rbo_rand => k_is)
    (case rbo_ror => k_is)
    (case rbo_radd => k_is)
    (case qhbo => k_is)
    (case qnbo => k_is)
    (case qmbo => k_is)
    (case qcbo => k_is)
    (case qtbo => k_is)
    (case qsbo => k_is)
    (case qobo => k_is)
    (case aMbo_init => k_is)
    (case iMbo_init => k_is)
    (case lMbo_init => k_is)
    (case cMbo_init => k_is)
    (case kMbo_init => k_is)
    (case aMbo_invert => k_is)
    (case iMbo_invert => k_is)
    (case lMbo_invert => k_is)
    (case cMbo_invert => k_is)
    (case kMbo_invert => k_is)
    (case aMbo_and => k_is)
    (case iMbo_and => k_is)
    (case lMbo_and => k_is)
    (case cMbo_and => k_is)
    (case kMbo_and => k_is)
    (case aMbo_or => k_is)
    (case iMbo_or => k_is)
    (case lMbo_or => k_is)
    (case cMbo_or => k_is)
    (case kMbo_or => k_is)
    (case aMbo_add => k_is)
    (case iMbo_add => k_is)
    (case lMbo_add => k_is)
    (case cMbo_add => k_is)
    (case kMbo_add => k_is)
    (case aMbo_eq => k_is)
    (case iMbo_eq => k_is)
    (case lMbo_eq => k_is)
    (case cMbo_eq => k_is)
    (case kMbo_eq => k_is)
    (case aCri => k_is)
    (case pgri => k_is)
    (case hdri => k_is)
    (case pori => k_is)
    (case sari => k_is)
    (case mkri => k_is)
    (case kcri => k_is)
    (case sfri => k_is)
    (case nri_places => k_is)
    (case nri_most => k_is)
    (case nri_kind => k_is)
    (case nri_word => k_is)
    (case nri_one => k_is)
    (case nri_other => k_is)
    (case rri_rand => k_is)
    (case rri_ror => k_is)
    (case rri_radd => k_is)
    (case qhri => k_is)
    (case qnri => k_is)
    (case qmri => k_is)
    (case qcri => k_is)
    (case qtri => k_is)
    (case qsri => k_is)
    (case qori => k_is)
    (case aMri_init => k_is)
    (case iMri_init => k_is)
    (case lMri_init => k_is)
    (case cMri_init => k_is)
    (case kMri_init => k_is)
    (case aMri_invert => k_is)
    (case iMri_invert => k_is)
    (case lMri_invert => k_is)
    (case cMri_invert => k_is)
    (case kMri_invert => k_is)
    (case aMri_and => k_is)
    (case iMri_and => k_is)
    (case lMri_and => k_is)
    (case cMri_and => k_is)
    (case kMri_and => k_is)
    (case aMri_or => k_is)
    (case iMri_or => k_is)
    (case lMri_or => k_is)
    (case cMri_or => k_is)
    (case kMri_or => k_is)
    (case aMri_add => k_is)
    (case iMri_add => k_is)
    (case lMri_add => k_is)
    (case cMri_add => k_is)
    (case kMri_add => k_is)
    (case aMri_eq => k_is)
    (case iMri_eq => k_is)
    (case lMri_eq => k_is)
    (case cMri_eq => k_is)
    (case kMri_eq => k_is)
    (case aCfl => k_is)
    (case pgfl => k_is)
    (case hdfl => k_is)
    (case pofl => k_is)
    (case safl => k_is)
    (case mkfl => k_is)
    (case kcfl => k_is)
    (case sffl => k_is)
    (case nfl_places => k_is)
    (case nfl_most => k_is)
    (case nfl_kind => k_is)
    (case nfl_word => k_is)
    (case nfl_one => k_is)
    (case nfl_other => k_is)
    (case rfl_rand => k_is)
    (case rfl_ror => k_is)
    (case rfl_radd => k_is)
    (case qhfl => k_is)
    (case qnfl => k_is)
    (case qmfl => k_is)
    (case qcfl => k_is)
    (case qtfl => k_is)
    (case qsfl => k_is)
    (case qofl => k_is)
    (case aMfl_init => k_is)
    (case iMfl_init => k_is)
    (case lMfl_init => k_is)
    (case cMfl_init => k_is)
    (case kMfl_init => k_is)
    (case aMfl_invert => k_is)
    (case iMfl_invert => k_is)
    (case lMfl_invert => k_is)
    (case cMfl_invert => k_is)
    (case kMfl_invert => k_is)
    (case aMfl_and => k_is)
    (case iMfl_and => k_is)
    (case lMfl_and => k_is)
    (case cMfl_and => k_is)
    (case kMfl_and => k_is)
    (case aMfl_or => k_is)
    (case iMfl_or => k_is)
    (case lMfl_or => k_is)
    (case cMfl_or => k_is)
    (case kMfl_or => k_is)
    (case aMfl_add => k_is)
    (case iMfl_add => k_is)
    (case lMfl_add => k_is)
    (case cMfl_add => k_is)
    (case kMfl_add => k_is)
    (case aMfl_eq => k_is)
    (case iMfl_eq => k_is)
    (case lMfl_eq => k_is)
    (case cMfl_eq => k_is)
    (case kMfl_eq => k_is)
    (case aCtu => k_is)
    (case pgtu => k_is)
    (case hdtu => k_is)
    (case potu => k_is)
    (case satu => k_is)
    (case mktu => k_is)
    (case kctu => k_is)
    (case sftu => k_is)
    (case ntu_places => k_is)
    (case ntu_most => k_is)
    (case ntu_kind => k_is)
    (case ntu_word => k_is)
    (case ntu_one => k_is)
    (case ntu_other => k_is)
    (case rtu_rand => k_is)
    (case rtu_ror => k_is)
    (case rtu_radd => k_is)
    (case qhtu => k_is)
    (case qntu => k_is)
    (case qmtu => k_is)
    (case qctu => k_is)
    (case qttu => k_is)
    (case qstu => k_is)
    (case qotu => k_is)
    (case aMtu_init => k_is)
    (case iMtu_init => k_is)
    (case lMtu_init => k_is)
    (case cMtu_init => k_is)
    (case kMtu_init => k_is)
    (case aMtu_invert => k_is)
    (case iMtu_invert => k_is)
    (case lMtu_invert => k_is)
    (case cMtu_invert => k_is)
    (case kMtu_invert => k_is)
    (case aMtu_and => k_is)
    (case iMtu_and => k_is)
    (case lMtu_and => k_is)
    (case cMtu_and => k_is)
    (case kMtu_and => k_is)
    (case aMtu_or => k_is)
    (case iMtu_or => k_is)
    (case lMtu_or => k_is)
    (case cMtu_or => k_is)
    (case kMtu_or => k_is)
    (case aMtu_add => k_is)
    (case iMtu_add => k_is)
    (case lMtu_add => k_is)
    (case cMtu_add => k_is)
    (case kMtu_add => k_is)
    (case aMtu_eq => k_is)
    (case iMtu_eq => k_is)
    (case lMtu_eq => k_is)
    (case cMtu_eq => k_is)
    (case kMtu_eq => k_is)
    (case aCco => k_is)
    (case pgco => k_is)
    (case hdco => k_is)
    (case poco => k_is)
    (case saco => k_is)
    (case mkco => k_is)
    (case kcco => k_is)
    (case sfco => k_is)
    (case nco_places => k_is)
    (case nco_most => k_is)
    (case nco_kind => k_is)
    (case nco_word => k_is)
    (case nco_one => k_is)
    (case nco_other => k_is)
    (case rco_rand => k_is)
    (case rco_ror => k_is)
    (case rco_radd => k_is)
    (case qhco => k_is)
    (case qnco => k_is)
    (case qmco => k_is)
    (case qcco => k_is)
    (case qtco => k_is)
    (case qsco => k_is)
    (case qoco => k_is)
    (case aMco_init => k_is)
    (case iMco_init => k_is)
    (case lMco_init => k_is)
    (case cMco_init => k_is)
    (case kMco_init => k_is)
    (case aMco_invert => k_is)
    (case iMco_invert => k_is)
    (case lMco_invert => k_is)
    (case cMco_invert => k_is)
    (case kMco_invert => k_is)
    (case aMco_and => k_is)
    (case iMco_and => k_is)
    (case lMco_and => k_is)
    (case cMco_and => k_is)
    (case kMco_and => k_is)
    (case aMco_or => k_is)
    (case iMco_or => k_is)
    (case lMco_or => k_is)
    (case cMco_or => k_is)
    (case kMco_or => k_is)
    (case aMco_add => k_is)
    (case iMco_add => k_is)
    (case lMco_add => k_is)
    (case cMco_add => k_is)
    (case kMco_add => k_is)
    (case aMco_eq => k_is)
    (case iMco_eq => k_is)
    (case lMco_eq => k_is)
    (case cMco_eq => k_is)
    (case kMco_eq => k_is)
    (case aCpa => k_is)
    (case pgpa => k_is)
    (case hdpa => k_is)
    (case popa => k_is)
    (case sapa => k_is)
    (case mkpa => k_is)
    (case kcpa => k_is)
    (case sfpa => k_is)
    (case npa_places => k_is)
    (case npa_most => k_is)
    (case npa_kind => k_is)
    (case npa_word => k_is)
    (case npa_one => k_is)
    (case npa_other => k_is)
    (case rpa_rand => k_is)
    (case rpa_ror => k_is)
    (case rpa_radd => k_is)
    (case qhpa => k_is)
    (case qnpa => k_is)
    (case qmpa => k_is)
    (case qcpa => k_is)
    (case qtpa => k_is)
    (case qspa => k_is)
    (case qopa => k_is)
    (case aMpa_init => k_is)
    (case iMpa_init => k_is)
    (case lMpa_init => k_is)
    (case cMpa_init => k_is)
    (case kMpa_init => k_is)
    (case aMpa_invert => k_is)
    (case iMpa_invert => k_is)
    (case lMpa_invert => k_is)
    (case cMpa_invert => k_is)
    (case kMpa_invert => k_is)
    (case aMpa_and => k_is)
    (case iMpa_and => k_is)
    (case lMpa_and => k_is)
    (case cMpa_and => k_is)
    (case kMpa_and => k_is)
    (case aMpa_or => k_is)
    (case iMpa_or => k_is)
    (case lMpa_or => k_is)
    (case cMpa_or => k_is)
    (case kMpa_or => k_is)
    (case aMpa_add => k_is)
    (case iMpa_add => k_is)
    (case lMpa_add => k_is)
    (case cMpa_add => k_is)
    (case kMpa_add => k_is)
    (case aMpa_eq => k_is)
    (case iMpa_eq => k_is)
    (case lMpa_eq => k_is)
    (case cMpa_eq => k_is)
    (case kMpa_eq => k_is)
    (case uha_bo => k_is)
    (case uha_ri => k_is)
    (case uha_fl => k_is)
    (case uha_tu => k_is)
    (case uha_co => k_is)
    (case uha_pa => k_is)
    (case ubo_ha => k_is)
    (case ubo_ri => k_is)
    (case ubo_fl => k_is)
    (case ubo_tu => k_is)
    (case ubo_co => k_is)
    (case ubo_pa => k_is)
    (case uri_ha => k_is)
    (case uri_bo => k_is)
    (case uri_fl => k_is)
    (case uri_tu => k_is)
    (case uri_co => k_is)
    (case uri_pa => k_is)
    (case ufl_ha => k_is)
    (case ufl_bo => k_is)
    (case ufl_ri => k_is)
    (case ufl_tu => k_is)
    (case ufl_co => k_is)
    (case ufl_pa => k_is)
    (case utu_ha => k_is)
    (case utu_bo => k_is)
    (case utu_ri => k_is)
    (case utu_fl => k_is)
    (case utu_co => k_is)
    (case utu_pa => k_is)
    (case uco_ha => k_is)
    (case uco_bo => k_is)
    (case uco_ri => k_is)
    (case uco_fl => k_is)
    (case uco_tu => k_is)
    (case uco_pa => k_is)
    (case upa_ha => k_is)
    (case upa_bo => k_is)
    (case upa_ri => k_is)
    (case upa_fl => k_is)
    (case upa_tu => k_is)
    (case upa_co => k_is)
    (case hn => k_is)
    (case ht => k_is)
    (case aCP => k_is)
    (case xLCP => k_is)
    (case saCP => k_is)
    (case gaCP => k_is)
    (case ggCP => k_is)
    (case haCP => k_is)
    (case kCCP => k_is)
    (case nbCP => k_is)
    (case aiCP => k_is)
    (case tiCP => k_is)
    (case lCP => k_is)
    (case cCP => k_is)
    (case kCP => k_is)
    (case aCM => k_is)
    (case xLCM => k_is)
    (case saCM => k_is)
    (case gaCM => k_is)
    (case ggCM => k_is)
    (case haCM => k_is)
    (case kCCM => k_is)
    (case nbCM => k_is)
    (case aiCM => k_is)
    (case tiCM => k_is)
    (case lCM => k_is)
    (case cCM => k_is)
    (case kCM => k_is)
    (case aCU => k_is)
    (case xCU => k_exc)
    (case kCU => k_is)
    (case exCP => k_is)
    (case icCP => k_is)
    (case tyCP => k_is)
    (case exCM => k_is)
    (case icCM => k_is)
    (case tyCM => k_is)
    (case exCU => k_is)
    (case icCU => k_is)
    (case tyCU => k_is)
    (case sCPCP => k_is)
    (case sCMCP => k_is)
    (case sCMCM => k_is)
    (case sCUCP => k_is)
    (case sCUCM => k_is)
    (case sCUCU => k_is)
    (case cLEAST_PLACES => k_is)
    (case cMOST_PLACES => k_is)
    (case cGREATEST_MOST => k_is)
    (case z_len => k_is)
    (case z_int => k_is)
    (case z_isinstance => k_is)
    (case z_list => k_is)
    (case z_tuple => k_is)
    (case z_bool => k_is)
    (case z_all => k_is)
    (case z_zip => k_is)
    (case z_range => k_is)
    (case z_enumerate => k_is)
    (case z_any => k_is)
    (case dle => decide)
    (case dlr => decide)
    (case der => decide)
    (case ye => exact PySem.W.km_tabs_of Y _ (by k_mem))
    (case yr => exact PySem.W.km_tabs_of Y _ (by k_mem))


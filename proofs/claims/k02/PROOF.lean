import PyProof.Rows.All
import Wide.All
import OpenK.AllK
import Wide.FinOn
import PyProof.EqAt
import PyProof.EqKinds
import PyProof.TupleCall
import HandS.Base
import HandS.Call
import HandS.List
import HandS.Comp
import HandS.Ends
import HandS.Dict
import HandS.Iter
import HandS.Words
import HandS.WordsList
import HandS.Evl
import HandS.Zip
import HandS.IsInst
import HandS.Walk
import KE.GoesEnum
import KE.GoesMore
import HandS.Exc
import HandS.ExcOwn
import HandS.ExcInit
import HandS.ExcValue
import KE.KExcIs
import HandS.ExcField
import HandS.OwnEq
import HandS.TupAny
import HandS.Codes
import HandS.TryOnly
import HandS.WordsExc
import KE.KOpsOwn
import PyProof.InstEq
import HandS.Deep
import PyProof.P3In
import OpenK.KOps
import OpenK.KMeth
import HandS.IterVal
import HandS.Lambda
import KE.KOwnIter
import PyProof.WalksMore
import PySem.Challenge.RW_toldenough_k02_samples_made
import HandS.ForMost
import HandS.Defaults
import HandS.Steps
import HandS.TupMul
import PyProof.Rows.RegStrFacts
import HandS.NestedHot
set_option Elab.async false
set_option linter.all false
set_option maxRecDepth 100000
set_option maxHeartbeats 2000000
namespace U
open PySem L2
open Evl (Ex)
/-! ### heaps with hidden cells -/
/-- H without the cells of L -/
def W (L : List Addr) (H : Hp) : Hp := fun a => if a ∈ L then none else H a
/-- the hidden cells stand in H -/
def Hid (L : List Addr) (H : Hp) : Prop := ∀ a ∈ L, H a ≠ none
section
variable {L : List Addr} {H H' H2 : Hp} {a p : Addr} {o u : HO}
theorem w_in (h : W L H a = some o) : H a = some o ∧ a ∉ L := by
  unfold W at h
  by_cases e : a ∈ L
  · rw [if_pos e] at h
    cases h
  · rw [if_neg e] at h
    exact ⟨h, e⟩
theorem w_of (n : a ∉ L) (h : H a = some o) : W L H a = some o := by
  unfold W
  rw [if_neg n]
  exact h
theorem w_sub : Ex (W L H) H := fun a o h => (w_in h).1
theorem w_ex (e : Ex H H') : Ex (W L H) (W L H') := fun a o h => w_of (w_in h).2 (e a o (w_in h).1)
theorem w_nil : W [] H = H := by
  funext a
  unfold W
  rw [if_neg (by simp)]
theorem hid_nil : Hid [] H := fun _ h => by cases h
theorem hid_ex (e : Ex H H') (h : Hid L H) : Hid L H' := fun a m z => by
  cases q : H a with
  | none => exact h a m q
  | some o =>
    have r := e a o q
    rw [z] at r
    cases r
theorem hid_not (h : Hid L H) (n : H p = none) : p ∉ L := fun m => h p m n
theorem w_new (h : Hid L H) (n : H p = none) : W L (upd H p o) p = some o := w_of (hid_not h n) upd_same
theorem w_upd_in (m : p ∈ L) : W L (upd H p o) = W L H := by
  funext a
  unfold W
  by_cases e : a ∈ L
  · rw [if_pos e, if_pos e]
  · rw [if_neg e, if_neg e, upd_ne (fun z => e (by rw [z]; exact m))]
theorem w_sub2 {L2 : List Addr} (s : ∀ a ∈ L, a ∈ L2) : Ex (W L2 H) (W L H) := fun a o h => w_of (fun m => (w_in h).2 (s a m)) (w_in h).1
theorem hid_upd (h : Hid L H) : Hid L (upd H p o) := fun a m z => by
  by_cases e : a = p
  · rw [e, upd_same] at z
    cases z
  · rw [upd_ne e] at z
    exact h a m z
end
/-! ### data that stands -/
section
variable {K : PySem.W.Frag} {H H' : Hp}
mutual
theorem dp_mono (e : Ex H H') : ∀ (d : PyData) (v : V), Dp K H v d → Dp K H' v d
  | .none, _, h => by cases h; exact .non
  | .bool _, _, h => by cases h; exact .bl _
  | .int _, _, h => by cases h; exact .int _
  | .str _, _, h => by cases h; exact .str _
  | .list ds, _, h => by
    cases h with
    | lst hs ha => exact .lst (Evl.ex_l e hs) (dpa_mono e ds _ ha)
  | .tuple ds, _, h => by
    cases h with
    | tup hs ha => exact .tup (Evl.ex_t e hs) (dpa_mono e ds _ ha)
  | .dict _, _, h => by cases h
theorem dpa_mono (e : Ex H H') : ∀ (ds : List PyData) (vs : List V), DpAll K H vs ds → DpAll K H' vs ds
  | [], _, h => by cases h; exact .nil
  | d :: ds, _, h => by
    cases h with
    | cons h1 h2 => exact .cons (dp_mono e d _ h1) (dpa_mono e ds _ h2)
end
theorem _root_.L2.Dp.up {v : V} {d : PyData} (h : Dp K H v d) (e : Ex H H') : Dp K H' v d := dp_mono e d v h
theorem _root_.L2.DpAll.up {vs : List V} {ds : List PyData} (h : DpAll K H vs ds) (e : Ex H H') : DpAll K H' vs ds := dpa_mono e ds vs h
theorem dpa_len : ∀ {vs : List V} {ds : List PyData}, DpAll K H vs ds → vs.length = ds.length
  | _, _, .nil => rfl
  | _, _, .cons _ t => congrArg Nat.succ (dpa_len t)
theorem dpa_get : ∀ {vs : List V} {ds : List PyData} {i : Nat} {v : V}, DpAll K H vs ds → vs[i]? = some v → ∃ d, ds[i]? = some d ∧ Dp K H v d
  | _, _, _, _, .nil, e => by simp at e
  | _, _, 0, _, .cons r _, e => by simp at e; subst e; exact ⟨_, rfl, r⟩
  | _, _, i + 1, x, .cons _ t, e => by
    obtain ⟨d, h1, h2⟩ := dpa_get (i := i) (v := x) t (by simpa using e)
    exact ⟨d, by simpa using h1, h2⟩
theorem dpa_get2 : ∀ {vs : List V} {ds : List PyData} {i : Nat} {d : PyData}, DpAll K H vs ds → ds[i]? = some d → ∃ v, vs[i]? = some v ∧ Dp K H v d
  | _, _, _, _, .nil, e => by simp at e
  | _, _, 0, _, .cons r _, e => by simp at e; subst e; exact ⟨_, rfl, r⟩
  | _, _, i + 1, x, .cons _ t, e => by
    obtain ⟨v, h1, h2⟩ := dpa_get2 (i := i) (d := x) t (by simpa using e)
    exact ⟨v, by simpa using h1, h2⟩
theorem dpa_app : ∀ {vs ws : List V} {ds es : List PyData}, DpAll K H vs ds → DpAll K H ws es → DpAll K H (vs ++ ws) (ds ++ es)
  | _, _, _, _, .nil, h => h
  | _, _, _, _, .cons r t, h => .cons r (dpa_app t h)
/-- the type's name -/
def tyOf : PyData → String
  | .none => "NoneType"
  | .bool _ => "bool"
  | .int _ => "int"
  | .str _ => "str"
  | .list _ => "list"
  | .tuple _ => "tuple"
  | .dict _ => "dict"
theorem dp_ty {v : V} {d : PyData} (h : Dp K H v d) : TyX K H v (.type (tyOf d)) := by
  cases h with
  | non => exact .base .non
  | bl b => exact .base (.bl b)
  | int i => exact .base (.int i)
  | str x => exact .base (.str x)
  | lst hs ha =>
    rcases hs with (h | ⟨o, h⟩) | ⟨o, its, n, h, c, _⟩
    · exact .base (.lst h)
    · exact .base (.frz h)
    · exact .kList h c
  | tup hs ha =>
    rcases hs with (h | ⟨o, h⟩) | ⟨o, its, n, h, c, _⟩
    · exact .base (.tup h)
    · exact .fTuple h
    · exact .kTuple h c
/-- isinstance of data: one class, several classes -/
def kitsB (a : String) : List String → Option Bool
  | [] => some false
  | n :: ns => match kitB a n with
    | some true => some true
    | some false => kitsB a ns
    | none => none
theorem kitsB_ok {a : String} : ∀ {ns : List String} {b : Bool}, kitsB a ns = some b → PySem.W.kitAny K (.type a) (ns.map Value.type) = some b
  | [], _, h => h
  | n :: ns, b, h => by
    unfold kitsB at h
    cases q : kitB a n with
    | none => rw [q] at h; cases h
    | some c =>
      rw [q] at h
      cases c with
      | true =>
        cases h
        exact kitAny_cons (kit_ty q) (fun z => by cases z) fun _ => rfl
      | false => exact kitAny_cons (kit_ty q) (fun _ => kitsB_ok h) fun z => by cases z
theorem tys_cls : ∀ {ns : List String}, Paired ClsV (ns.map V.ty) (ns.map Value.type)
  | [] => .nil
  | n :: _ => .cons (.ty n) tys_cls
end
/-! ### what isinstance answers -/
theorem isi_NoneType_list : kitB "NoneType" "list" = some false := by decide +kernel
theorem isi_NoneType_tuple : kitB "NoneType" "tuple" = some false := by decide +kernel
theorem isi_NoneType_bool : kitB "NoneType" "bool" = some false := by decide +kernel
theorem isi_NoneType_int : kitB "NoneType" "int" = some false := by decide +kernel
theorem isi_NoneType_str : kitB "NoneType" "str" = some false := by decide +kernel
theorem isi_NoneType_list_tuple : kitsB "NoneType" ["list", "tuple"] = some false := by decide +kernel
theorem isi_NoneType_bool_int : kitsB "NoneType" ["bool", "int"] = some false := by decide +kernel
theorem isi_NoneType_bool_int_list_tuple : kitsB "NoneType" ["bool", "int", "list", "tuple"] = some false := by decide +kernel
theorem isi_bool_list : kitB "bool" "list" = some false := by decide +kernel
theorem isi_bool_tuple : kitB "bool" "tuple" = some false := by decide +kernel
theorem isi_bool_bool : kitB "bool" "bool" = some true := by decide +kernel
theorem isi_bool_int : kitB "bool" "int" = some true := by decide +kernel
theorem isi_bool_str : kitB "bool" "str" = some false := by decide +kernel
theorem isi_bool_list_tuple : kitsB "bool" ["list", "tuple"] = some false := by decide +kernel
theorem isi_bool_bool_int : kitsB "bool" ["bool", "int"] = some true := by decide +kernel
theorem isi_bool_bool_int_list_tuple : kitsB "bool" ["bool", "int", "list", "tuple"] = some true := by decide +kernel
theorem isi_int_list : kitB "int" "list" = some false := by decide +kernel
theorem isi_int_tuple : kitB "int" "tuple" = some false := by decide +kernel
theorem isi_int_bool : kitB "int" "bool" = some false := by decide +kernel
theorem isi_int_int : kitB "int" "int" = some true := by decide +kernel
theorem isi_int_str : kitB "int" "str" = some false := by decide +kernel
theorem isi_int_list_tuple : kitsB "int" ["list", "tuple"] = some false := by decide +kernel
theorem isi_int_bool_int : kitsB "int" ["bool", "int"] = some true := by decide +kernel
theorem isi_int_bool_int_list_tuple : kitsB "int" ["bool", "int", "list", "tuple"] = some true := by decide +kernel
theorem isi_str_list : kitB "str" "list" = some false := by decide +kernel
theorem isi_str_tuple : kitB "str" "tuple" = some false := by decide +kernel
theorem isi_str_bool : kitB "str" "bool" = some false := by decide +kernel
theorem isi_str_int : kitB "str" "int" = some false := by decide +kernel
theorem isi_str_str : kitB "str" "str" = some true := by decide +kernel
theorem isi_str_list_tuple : kitsB "str" ["list", "tuple"] = some false := by decide +kernel
theorem isi_str_bool_int : kitsB "str" ["bool", "int"] = some false := by decide +kernel
theorem isi_str_bool_int_list_tuple : kitsB "str" ["bool", "int", "list", "tuple"] = some false := by decide +kernel
theorem isi_list_list : kitB "list" "list" = some true := by decide +kernel
theorem isi_list_tuple : kitB "list" "tuple" = some false := by decide +kernel
theorem isi_list_bool : kitB "list" "bool" = some false := by decide +kernel
theorem isi_list_int : kitB "list" "int" = some false := by decide +kernel
theorem isi_list_str : kitB "list" "str" = some false := by decide +kernel
theorem isi_list_list_tuple : kitsB "list" ["list", "tuple"] = some true := by decide +kernel
theorem isi_list_bool_int : kitsB "list" ["bool", "int"] = some false := by decide +kernel
theorem isi_list_bool_int_list_tuple : kitsB "list" ["bool", "int", "list", "tuple"] = some true := by decide +kernel
theorem isi_tuple_list : kitB "tuple" "list" = some false := by decide +kernel
theorem isi_tuple_tuple : kitB "tuple" "tuple" = some true := by decide +kernel
theorem isi_tuple_bool : kitB "tuple" "bool" = some false := by decide +kernel
theorem isi_tuple_int : kitB "tuple" "int" = some false := by decide +kernel
theorem isi_tuple_str : kitB "tuple" "str" = some false := by decide +kernel
theorem isi_tuple_list_tuple : kitsB "tuple" ["list", "tuple"] = some true := by decide +kernel
theorem isi_tuple_bool_int : kitsB "tuple" ["bool", "int"] = some false := by decide +kernel
theorem isi_tuple_bool_int_list_tuple : kitsB "tuple" ["bool", "int", "list", "tuple"] = some true := by decide +kernel
theorem isi_dict_list : kitB "dict" "list" = some false := by decide +kernel
theorem isi_dict_tuple : kitB "dict" "tuple" = some false := by decide +kernel
theorem isi_dict_bool : kitB "dict" "bool" = some false := by decide +kernel
theorem isi_dict_int : kitB "dict" "int" = some false := by decide +kernel
theorem isi_dict_str : kitB "dict" "str" = some false := by decide +kernel
theorem isi_dict_list_tuple : kitsB "dict" ["list", "tuple"] = some false := by decide +kernel
theorem isi_dict_bool_int : kitsB "dict" ["bool", "int"] = some false := by decide +kernel
theorem isi_dict_bool_int_list_tuple : kitsB "dict" ["bool", "int", "list", "tuple"] = some false := by decide +kernel
/-! ### readings -/
section
variable {K : PySem.W.Frag} {σ : L2.St} {H : Hp} {te tb : TE} {v w : V} {d e : PyData} {b : Bool}
theorem ev_isi {n : String} (h : Evl.Ev te σ H v) (hd : Dp K H v d) (hb : kitB (tyOf d) n = some b) : Evl.Ev (tCB (rIsi K) (tCons te (tCons (tC (.ty n)) tNil))) σ H (.bl b) := fun H1 e1 Q q =>
  h H1 e1 _ fun H2 e2 => ⟨v, .ty n, _, _, b, rfl, .ty n, dp_ty (Dp.up hd (e1.trans e2)), kit_ty hb, q H2 e2⟩
theorem ev_isi2 {m n : String} (h : Evl.Ev te σ H v) (hd : Dp K H v d) (hb : kitsB (tyOf d) [m, n] = some b) : Evl.Ev (tCB (rIsiT K) (tCons te (tCons (tTup (tCons (tC (.ty m)) (tCons (tC (.ty n)) tNil))) tNil))) σ H (.bl b) := fun H1 e1 Q q =>
  h H1 e1 _ fun H2 e2 => ⟨by show 2 ≤ sizeLine; decide, fun p hp => ⟨v, p, _, _, _, b, rfl, upd_same, tys_cls (ns := [m, n]), dp_ty (Dp.up hd ((e1.trans e2).trans (Ex.new hp))), kitsB_ok hb, q _ (e2.trans (Ex.new hp))⟩⟩
theorem ev_isi4 {m n k l : String} (h : Evl.Ev te σ H v) (hd : Dp K H v d) (hb : kitsB (tyOf d) [m, n, k, l] = some b) :
    Evl.Ev (tCB (rIsiT K) (tCons te (tCons (tTup (tCons (tC (.ty m)) (tCons (tC (.ty n)) (tCons (tC (.ty k)) (tCons (tC (.ty l)) tNil))))) tNil))) σ H (.bl b) := fun H1 e1 Q q =>
  h H1 e1 _ fun H2 e2 => ⟨by show 4 ≤ sizeLine; decide, fun p hp => ⟨v, p, _, _, _, b, rfl, upd_same, tys_cls (ns := [m, n, k, l]), dp_ty (Dp.up hd ((e1.trans e2).trans (Ex.new hp))), kitsB_ok hb, q _ (e2.trans (Ex.new hp))⟩⟩
theorem ev_eqD (h : Evl.Ev te σ H v) (h2 : Evl.Ev tb σ H w) (hd : Dp K H v d) (he : Dp K H w e) (sd : SeqAt.shaped d = true) (se : SeqAt.shaped e = true) : Evl.Ev (tOp (rEqD K) te tb) σ H (.bl (PyData.eqv d e)) := fun H1 e1 Q q =>
  h H1 e1 _ fun H2 e2 => h2 H2 (e1.trans e2) _ fun H3 e3 => ⟨d, e, Dp.up hd ((e1.trans e2).trans e3), Dp.up he ((e1.trans e2).trans e3), sd, se, q H3 (e2.trans e3)⟩
theorem ev_eqB {a c : Bool} (h : Evl.Ev te σ H (.bl a)) (h2 : Evl.Ev tb σ H (.bl c)) : Evl.Ev (tOp rEq te tb) σ H (.bl (decide (V.bl a = V.bl c))) := Evl.ev_op h h2 (Evl.rv_eq rfl)
theorem ev_neB {a c : Bool} (h : Evl.Ev te σ H (.bl a)) (h2 : Evl.Ev tb σ H (.bl c)) : Evl.Ev (tOp rNe te tb) σ H (.bl (!decide (V.bl a = V.bl c))) := Evl.ev_op h h2 (Evl.rv_ne rfl)
theorem ev_lenS {a : Addr} {xs : List V} (ha : Evl.Ev te σ H (.ref a)) (h : SqL K H a xs ∨ SqT K H a xs) : Evl.Ev (tCB (fun xs H Q => ∃ p ys, xs = [.ref p] ∧ (SqL K H p ys ∨ SqT K H p ys) ∧ Q (.int ys.length) H) (tCons te tNil)) σ H (.int (xs.length : Int)) := fun H1 e Q q =>
  ha H1 e _ fun H2 e2 => ⟨a, xs, rfl, h.imp (Evl.ex_l (e.trans e2)) (Evl.ex_t (e.trans e2)), q H2 e2⟩
end
/-! ### defs of the text, found by their names -/
structure DefAt (P : Program) (w : World) (K : PySem.W.Frag) (mg : Str → Option Value) (base : Heap) (x : Str) (k : Nat) (ps : List Str) (sp : Sp) : Prop where
  ex : ∃ f fd, FnOk P w K mg base CX0 k f fd ps sp ∧ mg x = some (.ref f) ∧ PySem.W.keepIn K (.ref f) = true ∧ Binds K fd ps []
theorem DefAt.imp {P : Program} {w : World} {K : PySem.W.Frag} {mg : Str → Option Value} {base : Heap} {x : Str} {k : Nat} {ps : List Str} {sp sp' : Sp} (D : DefAt P w K mg base x k ps sp) (h : ∀ vs H Q E, sp' vs H Q E → sp vs H Q E) : DefAt P w K mg base x k ps sp' := by
  obtain ⟨f, fd, F, r⟩ := D.ex
  exact ⟨f, fd, F.imp h, r⟩
theorem DefAt.mono {P : Program} {w : World} {K : PySem.W.Frag} {mg : Str → Option Value} {base : Heap} {x : Str} {k j : Nat} {ps : List Str} {sp : Sp} (D : DefAt P w K mg base x k ps sp) (h : k ≤ j) : DefAt P w K mg base x j ps sp := by
  obtain ⟨f, fd, F, r⟩ := D.ex
  exact ⟨f, fd, F.mono h, r⟩
def tCallD (sp : Sp) (t : TA) : TE := fun σ H Q => t σ H fun vs H1 => sp vs H1 Q E0
theorem pe_callD {X : Cx} {x : Str} {k : Nat} {ps : List Str} {sp : Sp} {p pos : Pos} {e : Expr} {es : List Expr} {t : TA} (D : DefAt X.prog X.w X.K X.mg X.base x k ps sp) (hr : Room k X.A) (hg : Gl X x) (ha : PA X (e :: es) t)
    (hdb : (x == ("__debug__" : Str)) = false := by decide) (he : starEach (e :: es) X.env = (false, eval e X.env) :: starEach es X.env := by rfl) (hpl : (backTo pos (starEach es X.env)).any (·.1) = false := by rfl) :
    PE X (.Call (.Name x p) (e :: es) [] pos) (tCallD sp t) := by
  obtain ⟨f, fd, F, hm, hk, hb⟩ := D.ex
  refine ⟨fun pins s σ H Q I h => (pe_call (E := E0) F hr hg hm hk hb .nil pass0 ha hdb he hpl).run pins s σ H Q I ?_⟩
  have e1 : (fun (vs : List V) (H1 : Hp) => sp (vs ++ []) H1 Q E0) = fun vs H1 => sp vs H1 Q E0 := by
    funext vs H1
    rw [List.append_nil]
  show t σ H fun vs H1 => sp (vs ++ []) H1 Q E0
  rw [e1]
  exact h
/-! ### draws -/
/-- at l the draws: three numbers; at most n drawn by the second way -/
def Dr (n : Nat) (H : Hp) (l : Addr) : Prop := ∃ x y z : Int, H l = some (.lst [.int x, .int y, .int z]) ∧ 0 ≤ x ∧ 0 ≤ y ∧ y ≤ 1099511627776 ∧ 0 ≤ z ∧ z ≤ (n : Int)
theorem Dr.up {n m : Nat} {H : Hp} {l : Addr} (h : Dr n H l) (e : n ≤ m) : Dr m H l := by
  obtain ⟨x, y, z, h1, h2, h3, h4, h5, h6⟩ := h
  exact ⟨x, y, z, h1, h2, h3, h4, h5, by omega⟩
theorem Dr.ne {n : Nat} {H : Hp} {l : Addr} (h : Dr n H l) : H l ≠ none := by
  obtain ⟨x, y, z, h1, _⟩ := h
  rw [h1]
  simp
theorem Dr.ex {n : Nat} {H H' : Hp} {l : Addr} (h : Dr n H l) (e : Ex H H') : Dr n H' l := by
  obtain ⟨x, y, z, h1, h2⟩ := h
  exact ⟨x, y, z, e _ _ h1, h2⟩
/-- all but the cell l stays -/
def ExB (l : Addr) (H H' : Hp) : Prop := ∀ a o, a ≠ l → H a = some o → H' a = some o
theorem ExB.refl (l : Addr) (H : Hp) : ExB l H H := fun _ _ _ h => h
theorem ExB.of {l : Addr} {H H' : Hp} (e : Ex H H') : ExB l H H' := fun a o _ h => e a o h
theorem ExB.trans {l : Addr} {H H1 H2 : Hp} (a : ExB l H H1) (b : ExB l H1 H2) : ExB l H H2 := fun c o n h => b c o n (a c o n h)
theorem ExB.upd {l : Addr} {H : Hp} {o : HO} : ExB l H (upd H l o) := fun a u n h => by
  rw [upd_ne n]
  exact h
theorem ExB.w {l : Addr} {L : List Addr} {H H' : Hp} (e : ExB l H H') (m : l ∈ L) : Ex (W L H) (W L H') := fun a o h => by
  obtain ⟨h1, n⟩ := w_in h
  exact w_of n (e a o (fun z => n (by rw [z]; exact m)) h1)
theorem ExB.hid {l : Addr} {L : List Addr} {H H' : Hp} (e : ExB l H H') (hl : H' l ≠ none) (h : Hid L H) : Hid L H' := fun a m => by
  by_cases q : a = l
  · rw [q]
    exact hl
  · intro z
    cases r : H a with
    | none => exact h a m r
    | some o =>
      have t := e a o q r
      rw [z] at t
      cases t
def spSource (K : PySem.W.Frag) : Sp := fun vs H Q _ => ∃ (s : Addr) (ns : List Int) (i : Nat), vs = [.ref s, .int (i : Int)] ∧ SqL K H s (ns.map V.int) ∧ ns.length ≤ 63 ∧ i ≤ 100 ∧
  ∀ l o, H l = none → Dr 0 (upd H l o) l → Q (.ref l) (upd H l o)
def spDraw : Sp := fun vs H Q _ => ∃ (l : Addr) (many : Int) (n : Nat), vs = [.ref l, .int many] ∧ Dr n H l ∧ n < 1000000 ∧ 0 < many ∧ many < 1073741824 ∧
  ∀ r o, 0 ≤ r → r < many → Dr (n + 1) (upd H l o) l → Q (.int r) (upd H l o)
def spPick (K : PySem.W.Frag) : Sp := fun vs H Q _ => ∃ (l t : Addr) (ds : List PyData) (n : Nat) (L : List Addr), vs = [.ref l, .ref t] ∧ Dr n H l ∧ n < 1000000 ∧ l ∈ L ∧ Dp K (W L H) (.ref t) (.list ds) ∧ 0 < ds.length ∧ ds.length < 1073741824 ∧
  ∀ v d o, d ∈ ds → Dp K (W L (upd H l o)) v d → Dr (n + 1) (upd H l o) l → Q v (upd H l o)
end U

set_option Elab.async false
set_option linter.all false
set_option maxRecDepth 100000
set_option maxHeartbeats 2000000
namespace U
open PySem L2
open Evl (Ex)
theorem yes_lc {σ : L2.St} {H : Hp} {A B : Hp → Prop} (h : A H) : tYes σ H (fun b H3 => if b = true then A H3 else B H3) := by
  show (if true = true then A H else B H)
  rw [if_pos rfl]
  exact h
section
variable {K : PySem.W.Frag} {a b : Addr} {xs ys : List V} {σ : L2.St} {H : Hp}
theorem walk_zipT {n : Nat} (hn : n = min xs.length ys.length) : Walk (RZ.ItzT K a b) n (fun H => SqT K H a xs ∧ SqT K H b ys) (YPair (fun i => xs[i]?) (fun i => ys[i]?)) := by
  subst hn
  refine ⟨fun i _ hi q => ?_, fun _ q => ⟨xs, ys, q.1, q.2, by omega⟩, fun i H v H' _ q y => ?_⟩
  · have h1 : i < xs.length := by omega
    have h2 : i < ys.length := by omega
    exact ⟨xs, ys, xs[i], ys[i], q.1, q.2, by simp [h1], by simp [h2]⟩
  · obtain ⟨T, x, z, h1, h2, h3, h4, h5⟩ := y
    exact ⟨T, x, z, h1, h2, h3, h4 xs q.1, h5 ys q.2⟩
/-- what a comprehension of every item has made so far -/
def Cm (H : Hp) (v : Nat → V) (Dl : Addr) (i : Nat) (H' : Hp) : Prop := H Dl = none ∧ Ex H H' ∧ H' Dl = some (.lst ((List.range i).map v))
theorem cm_0 {v : Nat → V} {Dl : Addr} (h : H Dl = none) : Cm H v Dl 0 (upd H Dl (.lst [])) := ⟨h, Ex.new h, upd_same⟩
theorem cm_turn {H' : Hp} {v : Nat → V} {Dl : Addr} {i : Nat} {te : TE} {σ2 : L2.St} (p : Cm H v Dl i H') (hi : i < 50000) (H2 : Hp) (e2 : Ex H' H2) (he : Evl.Ev te σ2 H (v i)) :
    te σ2 H2 fun y H4 => ∃ acc, H4 Dl = some (.lst acc) ∧ acc.length < sizeLine ∧ Cm H v Dl (i + 1) (upd H4 Dl (.lst (acc ++ [y]))) := by
  obtain ⟨p1, p2, p3⟩ := p
  refine he H2 (p2.trans e2) _ fun H4 e4 => ⟨_, e4 Dl _ (e2 Dl _ p3), Evl.sz_lt (by rw [List.length_map, List.length_range]; omega), p1, Evl.Ex.mut ((p2.trans e2).trans e4) p1, ?_⟩
  rw [upd_same, List.range_succ, List.map_append]
  rfl
theorem el_zip {ta : TA} {te : TE} {i1 i2 : Nat} {vs : List Nat} {v : Nat → V} (h : Evl.EvA ta σ H [.ref a, .ref b]) (hx : (SqL K H a xs ∧ SqL K H b ys) ∨ (SqT K H a xs ∧ SqT K H b ys)) (hl : xs.length = ys.length) (hz : xs.length ≤ 40000)
    (hw : ∀ x y, wipe (((wipe σ vs).set i1 (some x)).set i2 (some y)) vs = wipe σ vs)
    (he : ∀ (i : Nat) (x y : V) H1, Ex H H1 → xs[i]? = some x → ys[i]? = some y → Evl.Ev te (((wipe σ vs).set i1 (some x)).set i2 (some y)) H1 (v i)) :
    Evl.EvL (tLc (RZ.iZipA K ta) (gTup K 2 (gCons (gName i1) (gCons (gName i2) gNil))) tYes te vs) σ H ((List.range xs.length).map v) := fun H0 e0 Q q => h H0 e0 _ fun H1 e1 => by
  have turn : ∀ (Dl : Addr) (i : Nat) (x : V) (H2 H3 : Hp), i < xs.length → Cm H1 v Dl i H2 → YPair (fun i => xs[i]?) (fun i => ys[i]?) i H2 x H3 → gTup K 2 (gCons (gName i1) (gCons (gName i2) gNil)) x (wipe σ vs) H3 fun σ2 H2 => wipe σ2 vs = wipe σ vs ∧ tYes σ2 H2 fun b H3 =>
      if b = true then te σ2 H3 fun y H4 => ∃ acc, H4 Dl = some (.lst acc) ∧ acc.length < sizeLine ∧ Cm H1 v Dl (i + 1) (upd H4 Dl (.lst (acc ++ [y]))) else Cm H1 v Dl (i + 1) H3 := by
    intro Dl i x H2 H3 hi p yp
    obtain ⟨T, u, w, rfl, hT, rfl, hu, hw'⟩ := yp
    refine ⟨T, [u, w], rfl, SqT.of upd_same, rfl, u, [w], rfl, w, [], rfl, rfl, hw u w, ?_⟩
    exact yes_lc (A := fun H3 => te ((List.set (wipe σ vs) i1 (some u)).set i2 (some w)) H3 fun y H4 => ∃ acc, H4 Dl = some (.lst acc) ∧ acc.length < sizeLine ∧ Cm H1 v Dl (i + 1) (upd H4 Dl (.lst (acc ++ [y])))) (B := fun H3 => Cm H1 v Dl (i + 1) H3) <| cm_turn p (by omega) _ (Ex.new hT) (he i u w _ (e0.trans e1) hu hw')
  rcases hx with ⟨x1, x2⟩ | ⟨x1, x2⟩
  · refine ⟨a, b, xs, ys, rfl, .inl ⟨Evl.ex_l (e0.trans e1) x1, Evl.ex_l (e0.trans e1) x2, fun Dl hD => ?_⟩⟩
    exact lc_it (walk_zip (n := xs.length) (by omega)) (Cm H1 v Dl) (cm_0 hD) (fun i H2 _ p => ⟨Evl.ex_l ((e0.trans e1).trans p.2.1) x1, Evl.ex_l ((e0.trans e1).trans p.2.1) x2⟩) (fun i x H2 H3 hi p y => turn Dl i x H2 H3 hi p y)
      (fun H2 p => q Dl H2 (Evl.fresh_back e1 p.1) (e1.trans p.2.1) p.2.2)
  · refine ⟨a, b, xs, ys, rfl, .inr ⟨Evl.ex_t (e0.trans e1) x1, Evl.ex_t (e0.trans e1) x2, fun Dl hD => ?_⟩⟩
    exact lc_it (walk_zipT (n := xs.length) (by omega)) (Cm H1 v Dl) (cm_0 hD) (fun i H2 _ p => ⟨Evl.ex_t ((e0.trans e1).trans p.2.1) x1, Evl.ex_t ((e0.trans e1).trans p.2.1) x2⟩) (fun i x H2 H3 hi p y => turn Dl i x H2 H3 hi p y)
      (fun H2 p => q Dl H2 (Evl.fresh_back e1 p.1) (e1.trans p.2.1) p.2.2)
theorem ev_all {te : TE} {bs : List Bool} (h : Evl.EvL te σ H (bs.map V.bl)) : Evl.Ev (tCB (rAll K) (tCons te tNil)) σ H (.bl (bs.all id)) := fun H1 e1 Q q =>
  h H1 e1 _ fun p H2 hp e2 h2 => ⟨p, bs, rfl, SqL.of h2, q H2 e2⟩
theorem ev_any {te : TE} {bs : List Bool} (h : Evl.EvL te σ H (bs.map V.bl)) : Evl.Ev (tCB (rAny K) (tCons te tNil)) σ H (.bl (bs.any id)) := fun H1 e1 Q q =>
  h H1 e1 _ fun p H2 hp e2 h2 => ⟨p, bs, rfl, SqL.of h2, q H2 e2⟩
theorem ev_callD {sp : Sp} {ta : TA} {vs : List V} {z : V} (h : Evl.EvA ta σ H vs) (hs : ∀ H1, Ex H H1 → ∀ Q : VK, (∀ H2, Ex H1 H2 → Q z H2) → sp vs H1 Q E0) : Evl.Ev (tCallD sp ta) σ H z := fun H1 e Q q =>
  h H1 e _ fun H2 e2 => hs H2 (e.trans e2) Q fun H3 e3 => q H3 (e2.trans e3)
end
/-! ### data no deeper than n -/
def fits : Nat → PyData → Prop
  | 0, .list _ => False
  | 0, .tuple _ => False
  | n + 1, .list ds => ds.length ≤ 40000 ∧ ∀ d ∈ ds, fits n d
  | n + 1, .tuple ds => ds.length ≤ 40000 ∧ ∀ d ∈ ds, fits n d
  | _, .dict kvs => kvs = []
  | _, _ => True
theorem fits_up : ∀ {n m : Nat} {d : PyData}, n ≤ m → fits n d → fits m d
  | 0, 0, _, _, h => h
  | 0, m + 1, d, _, h => by
    cases d with
    | list ds => exact h.elim
    | tuple ds => exact h.elim
    | dict _ => exact h
    | _ => trivial
  | n + 1, 0, _, e, _ => by omega
  | n + 1, m + 1, d, e, h => by
    cases d with
    | list ds => exact ⟨h.1, fun z hz => fits_up (by omega) (h.2 z hz)⟩
    | tuple ds => exact ⟨h.1, fun z hz => fits_up (by omega) (h.2 z hz)⟩
    | dict _ => exact h
    | _ => trivial
/-- two readings of the same data: True -/
def spSame (K : PySem.W.Frag) (n : Nat) : Sp := fun vs H Q _ => ∃ (x y : V) (d : PyData), vs = [x, y] ∧ Dp K H x d ∧ Dp K H y d ∧ fits n d ∧ ∀ H', Ex H H' → Q (.bl true) H'
end U

set_option Elab.async false
set_option linter.all false
set_option maxRecDepth 100000
set_option maxHeartbeats 2000000
namespace U
open PySem L2
open Evl (Ex)
/-! ### what evaluates to data -/
section
variable {K : PySem.W.Frag} {L : List Addr} {σ : L2.St} {H H' : Hp} {te tb : TE} {ta tr : TA} {v : V} {d : PyData} {ds : List PyData} {l p : Addr} {o : HO}
def EvD (K : PySem.W.Frag) (L : List Addr) (te : TE) (σ : L2.St) (H : Hp) (d : PyData) : Prop := ∀ H1, Ex H H1 → ∀ Q : VK, (∀ v H2, Ex H1 H2 → Dp K (W L H2) v d → Q v H2) → te σ H1 Q
def EvDs (K : PySem.W.Frag) (L : List Addr) (ta : TA) (σ : L2.St) (H : Hp) (ds : List PyData) : Prop := ∀ H1, Ex H H1 → ∀ Q : List V → Hp → Prop, (∀ vs H2, Ex H1 H2 → DpAll K (W L H2) vs ds → Q vs H2) → ta σ H1 Q
theorem EvD.mono (e : Ex H H') (h : EvD K L te σ H d) : EvD K L te σ H' d := fun H1 a Q q => h H1 (e.trans a) Q q
theorem EvDs.mono (e : Ex H H') (h : EvDs K L ta σ H ds) : EvDs K L ta σ H' ds := fun H1 a Q q => h H1 (e.trans a) Q q
theorem evd_of (h : Evl.Ev te σ H v) (hd : Dp K (W L H) v d) : EvD K L te σ H d := fun H1 e Q q => h H1 e _ fun H2 e2 => q v H2 e2 (hd.up (w_ex (e.trans e2)))
theorem evd_var {i : Nat} (h : σ[i]? = some (some v)) (hd : Dp K (W L H) v d) : EvD K L (tVar i) σ H d := evd_of (Evl.ev_var h) hd
theorem evd_int {i : Int} : EvD K L (tC (.int i)) σ H (.int i) := evd_of Evl.ev_c (.int i)
theorem evd_bl {b : Bool} : EvD K L (tC (.bl b)) σ H (.bool b) := evd_of Evl.ev_c (.bl b)
theorem evd_non : EvD K L (tC .non) σ H .none := evd_of Evl.ev_c .non
theorem evd_str {x : Str} : EvD K L (tC (.str x)) σ H (.str x) := evd_of Evl.ev_c (.str x)
theorem evd_evI {i : Int} (h : Evl.Ev te σ H (.int i)) : EvD K L te σ H (.int i) := evd_of h (.int i)
theorem evd_evB {b : Bool} (h : Evl.Ev te σ H (.bl b)) : EvD K L te σ H (.bool b) := evd_of h (.bl b)
theorem evds_nil : EvDs K L tNil σ H [] := fun H1 _ _ q => q [] H1 (Ex.refl H1) .nil
theorem evds_cons (h : EvD K L te σ H d) (hr : EvDs K L tr σ H ds) : EvDs K L (tCons te tr) σ H (d :: ds) := fun H1 e Q q =>
  h H1 e _ fun v H2 e2 hv => hr H2 (e.trans e2) _ fun vs H3 e3 hvs => q (v :: vs) H3 (e2.trans e3) (.cons (hv.up (w_ex e3)) hvs)
theorem evd_tup (hL : Hid L H) (h : EvDs K L ta σ H ds) (hz : ds.length ≤ 100000) : EvD K L (tTup ta) σ H (.tuple ds) := fun H1 e Q q =>
  h H1 e _ fun vs H2 e2 hv => ⟨Evl.sz_of (by rw [dpa_len hv]; exact hz), fun p hp => q (.ref p) _ (e2.trans (Ex.new hp)) (.tup (SqT.of (w_new (hid_ex (e.trans e2) hL) hp)) (hv.up (w_ex (Ex.new hp))))⟩
theorem evd_lst (hL : Hid L H) (h : EvDs K L ta σ H ds) (hz : ds.length ≤ 100000) : EvD K L (tLst ta) σ H (.list ds) := fun H1 e Q q =>
  h H1 e _ fun vs H2 e2 hv => ⟨Evl.sz_of (by rw [dpa_len hv]; exact hz), fun p hp => q (.ref p) _ (e2.trans (Ex.new hp)) (.lst (SqL.of (w_new (hid_ex (e.trans e2) hL) hp)) (hv.up (w_ex (Ex.new hp))))⟩
theorem w_fresh (hp : H p = none) : Ex (W L H) (W (p :: L) (upd H p o)) := fun a u h => by
  obtain ⟨h1, n⟩ := w_in h
  have ne : a ≠ p := ne_of_none h1 hp
  exact w_of (fun m => (List.mem_cons.mp m).elim ne n) (by rw [upd_ne ne]; exact h1)
theorem w_cons : Ex (W (p :: L) H) (W L H) := w_sub2 fun a m => List.mem_cons_of_mem _ m
/-! ### a list that grows -/
/-- at l a list of the data ds, which do not hang on l -/
def Gr (K : PySem.W.Frag) (L : List Addr) (H : Hp) (l : Addr) (ds : List PyData) : Prop := l ∉ L ∧ ∃ xs, H l = some (.lst xs) ∧ DpAll K (W (l :: L) H) xs ds
theorem Gr.dp (h : Gr K L H l ds) : Dp K (W L H) (.ref l) (.list ds) := by
  obtain ⟨n, xs, h1, h2⟩ := h
  exact .lst (SqL.of (w_of n h1)) (h2.up w_cons)
theorem Gr.up (h : Gr K L H l ds) (e : Ex H H') : Gr K L H' l ds := by
  obtain ⟨n, xs, h1, h2⟩ := h
  exact ⟨n, xs, e _ _ h1, h2.up (w_ex e)⟩
theorem Gr.ne (h : Gr K L H l ds) : H l ≠ none := by
  obtain ⟨n, xs, h1, h2⟩ := h
  rw [h1]
  simp
theorem gr_new {xs : List V} (hL : Hid L H) (hp : H p = none) (h : DpAll K (W L H) xs ds) : Gr K L (upd H p (.lst xs)) p ds := ⟨hid_not hL hp, xs, upd_same, h.up (w_fresh hp)⟩
/-- a heap that differs at l alone, where the list has one more -/
theorem gr_app {xs : List V} (n : l ∉ L) (h1 : H l = some (.lst xs)) (h2 : DpAll K (W (l :: L) H) xs ds) (hv : Dp K (W (l :: L) H) v d) : Gr K L (upd H l (.lst (xs ++ [v]))) l (ds ++ [d]) := by
  refine ⟨n, xs ++ [v], upd_same, ?_⟩
  rw [w_upd_in (List.mem_cons_self ..)]
  exact dpa_app h2 (.cons hv .nil)
/-! ### statements -/
variable {D : Ends} {tz tu : TS} {i : Nat}
theorem d_asg (h : EvD K L te σ H d) (k : ∀ v H1, Ex H H1 → Dp K (W L H1) v d → D.nx (σ.set i (some v)) H1) : tAsg te (gName i) D σ H := h H (Ex.refl H) _ fun v H1 e hv => k v H1 e hv
theorem qd_asg (h : EvD K L te σ H d) (k : ∀ v H1, Ex H H1 → Dp K (W L H1) v d → tz D (σ.set i (some v)) H1) : tSeq (tAsg te (gName i)) tz D σ H := d_asg (D := { D with nx := tz D }) h k
theorem d_ret (h : EvD K L te σ H d) (k : ∀ v H1, Ex H H1 → Dp K (W L H1) v d → D.rt v H1) : tRet te D σ H := h H (Ex.refl H) _ fun v H1 e hv => k v H1 e hv
theorem qd_lst (hL : Hid L H) (h : EvDs K L ta σ H ds) (hz : ds.length ≤ 100000) (k : ∀ p H1, H p = none → Ex H H1 → Gr K L H1 p ds → tz D (σ.set i (some (.ref p))) H1) : tSeq (tAsg (tLst ta) (gName i)) tz D σ H :=
  h H (Ex.refl H) _ fun vs H1 e hv => ⟨Evl.sz_of (by rw [dpa_len hv]; exact hz), fun p hp => k p _ (Evl.fresh_back e hp) (e.trans (Ex.new hp)) (gr_new (hid_ex e hL) hp hv)⟩
theorem d_app (hg : Gr K L H l ds) (ho : Evl.Ev tb σ H (.ref l)) (h : EvD K (l :: L) te σ H d) (hz : ds.length < 100000) (k : ∀ o H1, Ex H H1 → Gr K L (upd H1 l o) l (ds ++ [d]) → D.nx σ (upd H1 l o)) :
    tDrop (tBM K "list" rAppend tb (tCons te tNil)) D σ H := ho H (Ex.refl H) _ fun H1 e1 => by
  obtain ⟨n, xs, h1, h2⟩ := hg
  refine ⟨Or.inl ⟨rfl, xs, SqL.of (e1 l _ h1)⟩, h H1 e1 _ fun v H2 e2 hv => ⟨l, xs, v, rfl, rfl, e2 l _ (e1 l _ h1), Evl.sz_lt (by rw [dpa_len h2]; exact hz), k _ H2 (e1.trans e2) ?_⟩⟩
  exact gr_app n (e2 l _ (e1 l _ h1)) (h2.up (w_ex (e1.trans e2))) hv
theorem qd_app (hg : Gr K L H l ds) (ho : Evl.Ev tb σ H (.ref l)) (h : EvD K (l :: L) te σ H d) (hz : ds.length < 100000) (k : ∀ o H1, Ex H H1 → Gr K L (upd H1 l o) l (ds ++ [d]) → tz D σ (upd H1 l o)) :
    tSeq (tDrop (tBM K "list" rAppend tb (tCons te tNil))) tz D σ H := d_app (D := { D with nx := tz D }) hg ho h hz k
/-- xs + ys, the left a list that stands, the right a new one -/
theorem evd_cat {es : List PyData} (hL : Hid L H) (hg : Gr K L H l ds) (ho : Evl.Ev te σ H (.ref l)) (h : EvDs K L ta σ H es) (hz : ds.length + es.length ≤ 100000) : EvD K L (tOp rCat te (tLst ta)) σ H (.list (ds ++ es)) := fun H1 e1 Q q =>
  ho H1 e1 _ fun H2 e2 => h H2 (e1.trans e2) _ fun vs H3 e3 hv => by
    have eA := (e1.trans e2).trans e3
    obtain ⟨n, xs, h1, h2⟩ := hg
    have l1 := dpa_len h2
    have l2 := dpa_len hv
    refine ⟨Evl.sz_of (by omega), fun p hp => ⟨l, p, xs, vs, rfl, rfl, ?_, upd_same, Evl.sz_of (by omega), fun r hr => ?_⟩⟩
    · exact (eA.trans (Ex.new hp)) l _ h1
    · refine q (.ref r) _ ((e2.trans e3).trans ((Ex.new hp).trans (Ex.new hr))) (.lst (SqL.of (w_new (hid_upd (hid_ex eA hL)) hr)) ?_)
      have z : Ex (W L H3) (W L (upd (upd H3 p (.lst vs)) r (.lst (xs ++ vs)))) := w_ex ((Ex.new hp).trans (Ex.new hr))
      exact dpa_app (((h2.up w_cons).up (w_ex eA)).up z) (hv.up z)
/-- xs.extend(ys), ys a new list -/
theorem d_ext {es : List PyData} (hg : Gr K L H l ds) (hL : Hid L H) (ho : Evl.Ev tb σ H (.ref l)) (h : EvDs K (l :: L) ta σ H es) (hz : ds.length + es.length ≤ 100000) (k : ∀ o H1, Ex H H1 → Gr K L (upd H1 l o) l (ds ++ es) → D.nx σ (upd H1 l o)) :
    tDrop (tBM K "list" rExtend tb (tCons (tLst ta) tNil)) D σ H := ho H (Ex.refl H) _ fun H1 e1 => by
  obtain ⟨n, xs, h1, h2⟩ := hg
  refine ⟨Or.inl ⟨rfl, xs, SqL.of (e1 l _ h1)⟩, h H1 e1 _ fun vs H2 e2 hv => ?_⟩
  have l1 := dpa_len h2
  have l2 := dpa_len hv
  refine ⟨Evl.sz_of (by omega), fun p hp => ?_⟩
  have e3 : Ex H2 (upd H2 p (.lst vs)) := Ex.new hp
  have eA := (e1.trans e2).trans e3
  refine ⟨l, p, xs, vs, rfl, rfl, eA l _ h1, upd_same, Evl.sz_of (by omega), k _ _ eA ⟨n, xs ++ vs, upd_same, ?_⟩⟩
  rw [w_upd_in (List.mem_cons_self ..)]
  exact dpa_app (h2.up (w_ex eA)) (hv.up (w_ex e3))
theorem qd_ext {es : List PyData} (hg : Gr K L H l ds) (hL : Hid L H) (ho : Evl.Ev tb σ H (.ref l)) (h : EvDs K (l :: L) ta σ H es) (hz : ds.length + es.length ≤ 100000) (k : ∀ o H1, Ex H H1 → Gr K L (upd H1 l o) l (ds ++ es) → tz D σ (upd H1 l o)) :
    tSeq (tDrop (tBM K "list" rExtend tb (tCons (tLst ta) tNil))) tz D σ H := d_ext (D := { D with nx := tz D }) hg hL ho h hz k
end
end U

set_option Elab.async false
set_option linter.all false
set_option maxRecDepth 100000
set_option maxHeartbeats 2000000
/-! data with empty dicts among them -/
namespace U
open PySem L2
open Evl (Ex)
section
variable {K : PySem.W.Frag} {H H' : Hp}
mutual
inductive Dq (K : PySem.W.Frag) (H : Hp) : V → PyData → Prop
  | non : Dq K H .non .none
  | bl (b : Bool) : Dq K H (.bl b) (.bool b)
  | int (i : Int) : Dq K H (.int i) (.int i)
  | str (x : Str) : Dq K H (.str x) (.str x)
  | lst {a : Addr} {xs : List V} {ds : List PyData} : SqL K H a xs → DqAll K H xs ds → Dq K H (.ref a) (.list ds)
  | tup {a : Addr} {xs : List V} {ds : List PyData} : SqT K H a xs → DqAll K H xs ds → Dq K H (.ref a) (.tuple ds)
  | dct {a : Addr} : H a = some (.dK []) → Dq K H (.ref a) (.dict [])
inductive DqAll (K : PySem.W.Frag) (H : Hp) : List V → List PyData → Prop
  | nil : DqAll K H [] []
  | cons {v : V} {vs : List V} {d : PyData} {ds : List PyData} : Dq K H v d → DqAll K H vs ds → DqAll K H (v :: vs) (d :: ds)
end
mutual
theorem dq_of : ∀ (d : PyData) (v : V), Dp K H v d → Dq K H v d
  | .none, _, h => by cases h; exact .non
  | .bool _, _, h => by cases h; exact .bl _
  | .int _, _, h => by cases h; exact .int _
  | .str _, _, h => by cases h; exact .str _
  | .list ds, _, h => by
    cases h with
    | lst hs ha => exact .lst hs (dqa_of ds _ ha)
  | .tuple ds, _, h => by
    cases h with
    | tup hs ha => exact .tup hs (dqa_of ds _ ha)
  | .dict _, _, h => by cases h
theorem dqa_of : ∀ (ds : List PyData) (vs : List V), DpAll K H vs ds → DqAll K H vs ds
  | [], _, h => by cases h; exact .nil
  | d :: ds, _, h => by
    cases h with
    | cons h1 h2 => exact .cons (dq_of d _ h1) (dqa_of ds _ h2)
end
theorem _root_.L2.Dp.q {v : V} {d : PyData} (h : Dp K H v d) : Dq K H v d := dq_of d v h
mutual
theorem dq_mono (e : Ex H H') : ∀ (d : PyData) (v : V), Dq K H v d → Dq K H' v d
  | .none, _, h => by cases h; exact .non
  | .bool _, _, h => by cases h; exact .bl _
  | .int _, _, h => by cases h; exact .int _
  | .str _, _, h => by cases h; exact .str _
  | .list ds, _, h => by
    cases h with
    | lst hs ha => exact .lst (Evl.ex_l e hs) (dqa_mono e ds _ ha)
  | .tuple ds, _, h => by
    cases h with
    | tup hs ha => exact .tup (Evl.ex_t e hs) (dqa_mono e ds _ ha)
  | .dict _, _, h => by
    cases h with
    | dct h => exact .dct (e _ _ h)
theorem dqa_mono (e : Ex H H') : ∀ (ds : List PyData) (vs : List V), DqAll K H vs ds → DqAll K H' vs ds
  | [], _, h => by cases h; exact .nil
  | d :: ds, _, h => by
    cases h with
    | cons h1 h2 => exact .cons (dq_mono e d _ h1) (dqa_mono e ds _ h2)
end
theorem Dq.up {v : V} {d : PyData} (h : Dq K H v d) (e : Ex H H') : Dq K H' v d := dq_mono e d v h
theorem DqAll.up {vs : List V} {ds : List PyData} (h : DqAll K H vs ds) (e : Ex H H') : DqAll K H' vs ds := dqa_mono e ds vs h
theorem dqa_len : ∀ {vs : List V} {ds : List PyData}, DqAll K H vs ds → vs.length = ds.length
  | _, _, .nil => rfl
  | _, _, .cons _ t => congrArg Nat.succ (dqa_len t)
theorem dqa_get : ∀ {vs : List V} {ds : List PyData} {i : Nat} {v : V}, DqAll K H vs ds → vs[i]? = some v → ∃ d, ds[i]? = some d ∧ Dq K H v d
  | _, _, _, _, .nil, e => by simp at e
  | _, _, 0, _, .cons r _, e => by simp at e; subst e; exact ⟨_, rfl, r⟩
  | _, _, i + 1, x, .cons _ t, e => by
    obtain ⟨d, h1, h2⟩ := dqa_get (i := i) (v := x) t (by simpa using e)
    exact ⟨d, by simpa using h1, h2⟩
theorem dqa_app : ∀ {vs ws : List V} {ds es : List PyData}, DqAll K H vs ds → DqAll K H ws es → DqAll K H (vs ++ ws) (ds ++ es)
  | _, _, _, _, .nil, h => h
  | _, _, _, _, .cons r t, h => .cons r (dqa_app t h)
theorem dq_ty {v : V} {d : PyData} (h : Dq K H v d) : TyX K H v (.type (tyOf d)) := by
  cases h with
  | non => exact .base .non
  | bl b => exact .base (.bl b)
  | int i => exact .base (.int i)
  | str x => exact .base (.str x)
  | lst hs ha =>
    rcases hs with (h | ⟨o, h⟩) | ⟨o, its, n, h, c, _⟩
    · exact .base (.lst h)
    · exact .base (.frz h)
    · exact .kList h c
  | tup hs ha =>
    rcases hs with (h | ⟨o, h⟩) | ⟨o, its, n, h, c, _⟩
    · exact .base (.tup h)
    · exact .fTuple h
    · exact .kTuple h c
  | dct h => exact .base (.dK h)
end
section
variable {K : PySem.W.Frag} {σ : L2.St} {H : Hp} {te tb : TE} {v w : V} {d e : PyData} {b : Bool}
theorem evq_isi {n : String} (h : Evl.Ev te σ H v) (hd : Dq K H v d) (hb : kitB (tyOf d) n = some b) : Evl.Ev (tCB (rIsi K) (tCons te (tCons (tC (.ty n)) tNil))) σ H (.bl b) := fun H1 e1 Q q =>
  h H1 e1 _ fun H2 e2 => ⟨v, .ty n, _, _, b, rfl, .ty n, dq_ty (hd.up (e1.trans e2)), kit_ty hb, q H2 e2⟩
theorem evq_isi2 {m n : String} (h : Evl.Ev te σ H v) (hd : Dq K H v d) (hb : kitsB (tyOf d) [m, n] = some b) : Evl.Ev (tCB (rIsiT K) (tCons te (tCons (tTup (tCons (tC (.ty m)) (tCons (tC (.ty n)) tNil))) tNil))) σ H (.bl b) := fun H1 e1 Q q =>
  h H1 e1 _ fun H2 e2 => ⟨by show 2 ≤ sizeLine; decide, fun p hp => ⟨v, p, _, _, _, b, rfl, upd_same, tys_cls (ns := [m, n]), dq_ty (hd.up ((e1.trans e2).trans (Ex.new hp))), kitsB_ok hb, q _ (e2.trans (Ex.new hp))⟩⟩
end
end U

set_option Elab.async false
set_option linter.all false
set_option maxRecDepth 100000
set_option maxHeartbeats 4000000
namespace UE
open PySem PySem.Spec PyProof.Rows L2
open AutoSeq1 (wpAny_loadPart')
/-! ### enumerate of a tuple -/
theorem meets_enumT (t : Addr) (its : Array Value) (n : Nat) (dd : Option Addr) (sl : Array (Option Value)) :
    Meets (Builtin.«enumerate.__new__» ⟨[.type "enumerate", .ref t], []⟩) (fun _ R s => s.heap.get? t = some { cls := .type "tuple", dict := dd, data := .seq its n, slots := sl } ∧
      R (.ok (.ret (.ref (s.heap.push { cls := .type "tuple_iterator", data := .fields #[.ref t, .int 0 0] }).objs.size)))
        { s with heap := (s.heap.push { cls := .type "tuple_iterator", data := .fields #[.ref t, .int 0 0] }).push { cls := .type "enumerate", data := .fields #[.none, .bool false, .ref s.heap.objs.size, rawInt 0, .none, .none] } }) :=
  .of_wp fun prog w A R s hyp => by
    obtain ⟨hp, g, d, tk, os⟩ := s
    obtain ⟨ht, hyp⟩ := hyp
    have sub := sub_enumerate
    have hT : Heap.IsTuple (Shared.heap ⟨hp, g, d, tk, os⟩) t its := ⟨_, ht, rfl, n, rfl⟩
    wp_walk using wpAny_loadPart' ht
    refine wpAny_stack_any fun st => wpAny_pure ?_
    split
    · rename_i c _ _ _ _ _
      cases (c == Value.type "enumerate") <;>
      · wp_walk using wpAny_loadPart' ht, wpAny_pyIter_tuple hT
        exact ⟨_, rfl, hyp⟩
    · wp_walk using wpAny_loadPart' ht, wpAny_pyIter_tuple hT
      exact ⟨_, rfl, hyp⟩
section
variable {prog : Program} {w : World} {A : Around} {E : Value → Shared → Prop} {s : Shared}
theorem call_enumT {t : Addr} {its : Array Value} {Q : Value → Shared → Prop} (hT : s.heap.IsTuple t its)
    (hyp : ∀ h', IsEnum h' (s.heap.objs.size + 1) s.heap.objs.size 0 .none → h'.IsTupleIter s.heap.objs.size t 0 → h'.objs.size = s.heap.objs.size + 2 → (∀ b o, s.heap.get? b = some o → h'.get? b = some o) → Q (.ref (s.heap.objs.size + 1)) { s with heap := h' }) :
    wpAny (model prog w) A (call (.type "enumerate") [.ref t]) Q E s := by
  obtain ⟨⟨c, dd, dt, sl⟩, ht, hc, n, hd⟩ := hT
  obtain rfl : c = .type "tuple" := hc
  obtain rfl : dt = .seq its n := hd
  refine callType_new F.called_enumerate (by decide) (F.typeCall_enumerate_1 _) (F.newCall_enumerate_1 _) (fun ob => F.args_object_init_2 ob _) F.entry_enumerate_new (meets_enumT t its n dd sl) ⟨ht, ?_⟩
  have sz : (s.heap.push { cls := .type "tuple_iterator", data := .fields #[.ref t, .int 0 0] }).objs.size = s.heap.objs.size + 1 := Heap.size_push ..
  show _ ∧ _
  rw [sz]
  have he : IsEnum ((s.heap.push { cls := .type "tuple_iterator", data := .fields #[.ref t, .int 0 0] }).push { cls := .type "enumerate", data := .fields #[.none, .bool false, .ref s.heap.objs.size, rawInt 0, .none, .none] }) (s.heap.objs.size + 1) s.heap.objs.size 0 .none := by
    have q := Heap.get?_push_size (s.heap.push { cls := .type "tuple_iterator", data := .fields #[.ref t, .int 0 0] }) (o := { cls := .type "enumerate", data := .fields #[.none, .bool false, .ref s.heap.objs.size, rawInt 0, .none, .none] }) rfl
    rw [sz] at q
    exact q
  exact ⟨⟨_, he, rfl⟩, hyp _ he ⟨_, Heap.get?_push_of_some _ (Heap.get?_push_size _ rfl), rfl, rfl⟩ (by rw [Heap.size_push, sz]) fun b o z => Heap.get?_push_of_some _ (Heap.get?_push_of_some _ z)⟩
end
/-- the tuple at a, each item in a new pair -/
def IteT (K : PySem.W.Frag) (a : Addr) : It :=
  ⟨fun i H => ∃ (xs : List V) (x : V), SqT K H a xs ∧ xs[i]? = some x, fun i H v H' => ∃ T x, v = .ref T ∧ H T = none ∧ H' = upd H T (.tup [.int (i : Nat), x]) ∧ ∀ xs, SqT K H a xs → xs[i]? = some x, fun i H => ∃ xs : List V, SqT K H a xs ∧ xs.length ≤ i⟩
theorem turn_enumT {P : Program} {w : World} {K : PySem.W.Frag} {elts : List Expr} {kk : Nat} {tpos : Pos} (a e it : Addr) :
    Turn P w K (.Tuple elts kk tpos) (IteT K a) [e, it] e (fun i h => (∃ old, IsEnum h e it ((i : Nat) : Int) old) ∧ h.IsTupleIter it a i ∧ e ≠ it ∧ a ≠ it ∧ a ≠ e) where
  mem := by simp
  obj := fun i h st b hb => by
    obtain ⟨⟨old, he⟩, ⟨o, ho, hc, hd⟩, _⟩ := st
    have e' : b = e ∨ b = it := by simpa using hb
    rcases e' with z | z
    · rw [z]
      exact ⟨_, he, fun v q => nomatch q⟩
    · rw [z]
      exact ⟨o, ho, fun v q => by rw [hd] at q; cases q⟩
  keep := fun i h h' st k => by
    obtain ⟨⟨old, he⟩, hi, ne⟩ := st
    exact ⟨⟨old, k e (by simp) _ he⟩, hi.at fun o q => k it (by simp) o q, ne⟩
  item := by
    intro X hP hw hK hc i pins s σ H E I hf st hg
    subst hP hw hK
    obtain ⟨⟨old, he⟩, hit, n1, n2, n3⟩ := st
    obtain ⟨xs, x, hq, hx⟩ := hg
    obtain ⟨its, rv, p, hz⟩ := I.tuple hq
    obtain ⟨u, hu, ru⟩ := rv.get hx
    have le : e < s.heap.objs.size := Heap.lt_size he
    have li : it < s.heap.objs.size := by
      obtain ⟨_, q, _⟩ := hit
      exact Heap.lt_size q
    have hlt : i < its.toArray.size := by
      have z := (List.getElem?_eq_some_iff.mp hu).1
      simpa using z
    have D : Draws X.prog X.w X.A.in1 it [it, a] its.toArray.size (fun i v => its.toArray[i]? = some v) (fun i h => h.IsTupleIter it a i ∧ h.IsTuple a its.toArray) := Draws.tuple (show X.A.in1.handled = none from I.ok.hd hc) it a n2 its.toArray
    refine wpAny_pyNext_enum_itemD D he ⟨hit, p⟩ hlt n1 (by simp [n1, Ne.symm n3]) fun y h' tk hy ho hst hT sz kp => ?_
    obtain rfl : y = u := by
      have z : its.toArray[i]? = some u := by simpa using hu
      rw [hy] at z
      exact Option.some.inj z
    refine ⟨_, rfl, wpAny_letOwnedTupleGo_enum (s := { s with heap := h', toks := tk + 1 }) ho fun h'' he' sb => ?_⟩
    have hT2 : h''.get? s.heap.objs.size = some { cls := .type "tuple", data := .seq #[.int i tk, y] } := (sb.2 _ (Nat.ne_of_gt le)).trans hT
    have new : ObjOk X.prog X.w (upd H s.heap.objs.size (.tup [.int (i : Nat), x])) h'' s.heap.objs.size (.tup [.int (i : Nat), x]) := ⟨by show 2 ≤ sizeLine; decide, [.int i tk, y], .cons ⟨_, rfl⟩ (.cons ru .nil), ⟨_, hT2, rfl, _, rfl⟩⟩
    have I1 : Inv X pins σ (upd H s.heap.objs.size (.tup [.int (i : Nat), x])) { s with heap := h'', toks := tk + 1 } :=
      I.turnedNew (ch := [e, it]) (fun b ob hb q => (sb.2 b (fun z => hb (by simp [z]))).trans (kp b ob (fun z => hb (by simp [z])) (fun z => hb (by simp [z])) q)) hf (Nat.le_refl _) new
    refine ⟨.ref s.heap.objs.size, _, I1, rfl, ⟨_, x, rfl, I.hok.fresh (Nat.le_refl _), rfl, fun ys hy => by rw [I.tuple_inj hy hq]; exact hx⟩, ⟨⟨y, ?_⟩, hst.1.at fun o q => (sb.2 it (Ne.symm n1)).trans q, n1, n2, n3⟩, fun b hb => ?_⟩
    · have e1 : ((i + 1 : Nat) : Int) = (i : Int) + 1 := by omega
      rw [e1]
      exact he'
    · have hb' : b < s.heap.objs.size := by
        have e' : b = e ∨ b = it := by simpa using hb
        rcases e' with z | z
        · rw [z]
          exact le
        · rw [z]
          exact li
      rw [upd_ne (Nat.ne_of_lt hb')]
      exact (hf b hb).1
  done := by
    intro X hP hw hK hc i pins s σ H E I hf st hg
    subst hP hw hK
    obtain ⟨⟨old, he⟩, hit, n1, n2, n3⟩ := st
    obtain ⟨xs, hq, hx⟩ := hg
    obtain ⟨its, rv, p, hz⟩ := I.tuple hq
    obtain ⟨f0, f1, f2, f3, f4, f5⟩ := hf it (by simp)
    have hl := rv.length
    have hA : X.A.in1.handled = none := I.ok.hd hc
    have D : Draws X.prog X.w X.A.in1 it [it, a] i (fun _ _ => True) (fun k h => (h.IsTupleIter it a k ∧ h.IsTuple a its.toArray) ∧ k = i) :=
      { live := fun _ _ st => let ⟨o, ho, _⟩ := st.1.1; ⟨o, ho⟩
        frame := fun _ _ _ st hk => ⟨⟨st.1.1.at fun o e => hk it (by simp) o e, st.1.2.at fun o e => hk a (by simp) o e⟩, st.2⟩
        item := fun k s Q E hi st hQ => absurd st.2 (Nat.ne_of_lt hi)
        done := fun s Q E st hE => wpAny_nextOf_tuple_end hA st.1.1 st.1.2 (by simp; omega) hE }
    exact wpAny_pyNext_enum_endD D he ⟨⟨hit, p⟩, rfl⟩ fun h' eb => ⟨rfl, I.turned (t' := s.toks) (fun b o hb q => eb b o hb q) f0 f1 f3 f4 f5⟩
  self := fun A i s Q E st h => by
    obtain ⟨⟨_, he⟩, _⟩ := st
    exact wpAny_pyIter_enum he h
/-- enumerate of a tuple -/
def iEnumT (K : PySem.W.Frag) (ta : TA) : TI := fun σ H R => ta σ H fun vs H1 => ∃ a xs, vs = [.ref a] ∧ SqT K H1 a xs ∧ R (IteT K a) H1
theorem pi_enumT {X : Cx} {e : Expr} {ta : TA} {p pos tpos : Pos} {elts : List Expr} {kk : Nat} (hg : Gl X "enumerate") (hm : X.mg "enumerate" = none) (ha : PA X [e] ta) (hs : starEach [e] X.env = [(false, eval e X.env)] := by rfl) :
    PI X (.Tuple elts kk tpos) (.Call (.Name "enumerate" p) [e] [] pos) (iEnumT X.K ta) := by
  refine ⟨fun pins s σ H R I h => ?_⟩
  refine Call_ (ld_blt I hg hm boot_enumerate (PyProof.Rows.callWith_type1 (thn (ha.run pos pins s σ H _ I h) fun us s1 ⟨vs, H1, I1, r1, q1⟩ => ?_) hs rfl))
  obtain ⟨a, xs, ex, hq, q⟩ := q1
  subst ex
  cases r1 with
  | cons r rr =>
    cases rr
    cases r
    obtain ⟨its, rv, p', hz⟩ := I1.tuple hq
    obtain ⟨oT, hoT, _⟩ := id p'
    have la : a < s1.heap.objs.size := Heap.lt_size hoT
    refine call_enumT (its := its.toArray) p' fun h' he hit hsz hk => wpAny_pyIter_enum he ?_
    have I2 : Inv X pins σ H1 { s1 with heap := h' } := I1.kept (t' := s1.toks) hk
    refine ⟨s1.heap.objs.size + 1, [s1.heap.objs.size + 1, s1.heap.objs.size], _, _, H1, rfl, I2, turn_enumT a (s1.heap.objs.size + 1) s1.heap.objs.size, ⟨⟨.none, he⟩, hit, Nat.succ_ne_self _, Nat.ne_of_lt la, Nat.ne_of_lt (Nat.lt_succ_of_lt la)⟩, fun b hb => ?_, q⟩
    have e' : b = s1.heap.objs.size + 1 ∨ b = s1.heap.objs.size := by simpa using hb
    have hle : s1.heap.objs.size ≤ b := by
      rcases e' with z | z
      · rw [z]
        exact Nat.le_add_right _ _
      · rw [z]
        exact Nat.le_refl _
    exact I1.fpOk hle (I1.hok.fresh hle)
end UE

set_option Elab.async false
set_option linter.all false
set_option maxRecDepth 100000
set_option maxHeartbeats 4000000
namespace UX
open PySem PySem.W PySem.Calls PyProof.Rows PySem.HandSPX
section
variable {M : Model} {A : Around} {E : Value → Shared → Prop} {h : Heap} {g : Array GenState} {d : Drawn} {t : Nat} {os : OsState}
variable {nm q : Str} {C N : Addr} {bs bm bmB : List Value} {hd : Bool} {sn : List Str} {sub : List Value} {ab : Bool} {col : Option Bool} {dd : Option Addr} {k0 k1 k2 k3 k5 : Option Value} {B nid iid : String}
/-- keywords are no fault of a call of such a __new__ -/
theorem kw_check (F : ExcBaseFacts B nid iid bmB) (hT : ∀ X : String, bm.contains (.type X) = bmB.contains (.type X)) {kw : List (Str × Value)} {Q : Unit → Shared → Prop}
    (hC : h.get? C = some (excClassObj nm q C N bs bm hd sn sub ab col dd k0 k1 k2 k3 k5 nid)) (hq : Q () ⟨h, g, d, t, os⟩) : wpAny M A (checkBuiltinCall nid ⟨[.ref C], kw⟩) Q E ⟨h, g, d, t, os⟩ := by
  have inB : (Value.ref C :: bm).contains (.type B) = true := (List.contains_cons ..).trans (by rw [hT, F.hasB]; exact Bool.or_true _)
  have star := F.noStar
  simp only [checkBuiltinCall, F.newKind, F.newSplit, F.newRow]
  repeat (first | refine wpAny_loadPart_at hC ?_ | (refine wpAny_isSubtype_exc hC ?_; rw [inB]) | refine wpAny_staticBase_exc hC ?_ | refine wpAny_madeBy_exc hC ?_ | (simp only [bne_self_eq_false, Bool.false_eq_true, if_false]) | wp_step)
  exact hq
end
section
variable {prog : Program} {w : World} {A : Around} {E : Value → Shared → Prop} {R : Result → Shared → Prop} {h : Heap} {g : Array GenState} {d : Drawn} {t : Nat} {os : OsState}
variable {nm q : Str} {C N : Addr} {bs bm bmB : List Value} {hd : Bool} {sn : List Str} {sub : List Value} {ab : Bool} {col : Option Bool} {dd : Option Addr} {k0 k1 k2 k3 k5 : Option Value} {B nid iid : String}
/-- the heap behind the making of an exception without arguments -/
abbrev mkd (h : Heap) (C : Addr) : Heap := (h.push (kdv_tup [])).push (excO C h.objs.size)
theorem kw_new (F : ExcBaseFacts B nid iid bmB) (hT : ∀ X : String, bm.contains (.type X) = bmB.contains (.type X)) {kw : List (Str × Value)} (hC : h.get? C = some (excClassObj nm q C N bs bm hd sn sub ab col dd k0 k1 k2 k3 k5 nid))
    (hq : R (.ok (.ret (.ref (h.objs.size + 1)))) ⟨mkd h C, g, d, t, os⟩) : codeAny (model prog w) A (.builtin nid ⟨[.ref C], kw⟩) R ⟨h, g, d, t, os⟩ := by
  have ends := F.ends
  have inB : (Value.ref C :: bm).contains (.type B) = true := (List.contains_cons ..).trans (by rw [hT, F.hasB]; exact Bool.or_true _)
  have noA : (Value.ref C :: bm).contains (.type "AttributeError") = false := (List.contains_cons ..).trans (by rw [hT, F.noAttr]; rfl)
  have noN : (Value.ref C :: bm).contains (.type "NameError") = false := (List.contains_cons ..).trans (by rw [hT, F.noName]; rfl)
  have none0 : ([] : List Value).length ≤ sizeLine := Nat.zero_le _
  refine codeAny_builtinAt F.entry ?_
  unfold Builtin.«BaseException.__new__»
  refine PySem.wpAt_bind ?_
  show PySem.wpAt _ _ _ (stack >>= _) _ _ _
  refine PySem.wpAt_bind (PySem.wpAt_stack fun p below => PySem.wpAt_of_wpAny ?_)
  wp_walk
  refine PySem.wpAt_of_wpAny ?_
  rw [F.owner]
  repeat (first | with_reducible refine wpAny_madeHere_exc F.canon hC ?_ | with_reducible refine wpAny_loadPart_at hC ?_ | (with_reducible refine wpAny_isSubtype_exc hC ?_; first | rw [inB] | rw [noA] | rw [noN]) | wp_step)
  show R _ _
  rw [Heap.size_push]
  exact hq
theorem kw_type (F : ExcBaseFacts B nid iid bmB) (hT : ∀ X : String, bm.contains (.type X) = bmB.contains (.type X)) {kw : List (Str × Value)} {fI : Addr} {Q : Fin → Shared → Prop} (hC : h.get? C = some (excClassObj nm q C N bs bm hd sn sub ab col dd k0 k1 k2 k3 k5 nid))
    (hi : Looks (model prog w) h (typeLookup (.ref C) "__init__") (some (.ref fI))) (hb : ∀ self, Looks (model prog w) h (bindSpecial (.ref fI) self) (.ref fI, [self]))
    (hq : codeAny (model prog w) A (.call (.ref fI) ⟨[.ref (h.objs.size + 1)], kw⟩) (fun r s' => match r with | .ok (.ret v) => v = .none ∧ Q (.done (.ret (.ref (h.objs.size + 1)))) s' | .ok _ => False | .error e => E e s') ⟨mkd h C, g, d, t, os⟩) :
    wpAny (model prog w) A (Builtin.«type.__call__» ⟨[.ref C], kw⟩) Q E ⟨h, g, d, t, os⟩ := by
  repeat (first | with_reducible refine wpAny_loadPart_at hC ?_ | with_reducible refine wpAny_madeBy_exc hC ?_ | wp_step)
  refine codeAny_call_builtin_code (Code.quiet_builtin _ F.quiet) (kw_check F hT hC ?_)
  refine kw_new F hT hC ?_
  show wpAny _ _ _ _ _ _
  have kp : ∀ b o, h.get? b = some o → (mkd h C).get? b = some o := fun b o e => Heap.get?_push_of_some _ (Heap.get?_push_of_some _ e)
  have hC1 := kp _ _ hC
  have get1 : (mkd h C).get? (h.objs.size + 1) = some (excO C h.objs.size) := by heap_get
  have self1 : (Value.ref C :: bm).contains (.ref C) = true := by simp
  have i1 := hi.keeps kp
  have b1 := (hb (.ref (h.objs.size + 1))).keeps kp
  unfold isInstance
  repeat (first | with_reducible refine wpAny_loadPart_at get1 ?_ | (with_reducible refine wpAny_isSubtype_exc hC1 ?_; rw [self1]) | wp_step)
  show wpAny _ _ (typeLookup (.ref C) _) _ _ _
  refine i1.at ?_
  refine wpAny_holding (wpAny_bind (b1.at ?_))
  refine wpAny_bind (wpAny_call (codeAny_mono hq fun r s' z => ?_))
  cases r with
  | error e => exact z
  | ok fl =>
    cases fl with
    | ret v =>
      obtain ⟨rfl, z⟩ := z
      first
        | exact wpAny_pure (wpAny_pure z)
        | (wp_walk; exact z)
    | next => exact z.elim
    | brk => exact z.elim
    | cont => exact z.elim
theorem kw_call (F : ExcBaseFacts B nid iid bmB) (hT : ∀ X : String, bm.contains (.type X) = bmB.contains (.type X)) {kw : List (Str × Value)} {fI : Addr} (hC : h.get? C = some (excClassObj nm q C N bs bm hd sn sub ab col dd k0 k1 k2 k3 k5 nid))
    (hi : Looks (model prog w) h (typeLookup (.ref C) "__init__") (some (.ref fI))) (hb : ∀ self, Looks (model prog w) h (bindSpecial (.ref fI) self) (.ref fI, [self]))
    (hq : codeAny (model prog w) (A.under (.builtin "type.__call__" ⟨[.ref C], kw⟩)) (.call (.ref fI) ⟨[.ref (h.objs.size + 1)], kw⟩) (InitBack (h.objs.size + 1) R) ⟨mkd h C, g, d, t, os⟩) :
    codeAny (model prog w) A (.call (.ref C) ⟨[], kw⟩) R ⟨h, g, d, t, os⟩ := by
  have f1 := tc_lookup
  have f2 := tc_bind (.ref C)
  have tyC : (⟨h, g, d, t, os⟩ : Shared).TypeIs (.ref C) "type" := ⟨_, hC, rfl⟩
  refine codeAny_of_tree ?_
  show wpAny _ _ (callAny (.ref C) _) _ _ _
  repeat (any_goals (first | assumption | with_reducible refine wpAny_loadPart_at hC ?_ | wp_step))
  refine ⟨rfl, ?_⟩
  refine codeAny_call_builtin_at (Code.quiet_builtin _ (by decide +kernel)) entry_typeCall (wpAny_check_type_call_sub hC (kw_type F hT hC hi hb ?_))
  refine codeAny_mono hq fun r s' z => ?_
  cases r with
  | error e => exact z
  | ok fl => cases fl <;> exact z
end
end UX

set_option Elab.async false
set_option linter.all false
set_option maxRecDepth 100000
set_option maxHeartbeats 4000000
namespace U
open PySem L2 PyProof.Rows
open Evl (Ex)
/-! ### errors of the text as values -/
/-- what a class of errors with its own __init__(self, f) says -/
structure ErrC (P : Program) (w : World) (K : PySem.W.Frag) (mg : Str → Option Value) (base : Heap) (x : Str) (C : Addr) (f : Str) : Prop where
  T : OexC K C
  gC : mg x = some (.ref C)
  xf : XfC K C
  no : PySem.W.findIn K (.ref C) f = some none
  init : ∃ (fI : Addr) (fd : FuncData), PySem.W.findIn K (.ref C) "__init__" = some (some (.ref fI)) ∧ PySem.W.typeIn K (.ref fI) = some (.type "function") ∧
    FnOk P w K mg base CX0 1 fI fd ["self", f] (fun vs H Q _ => ∃ (a : Addr) (v : V), vs = [.ref a, v] ∧ H a = some (exo a C none) ∧ ∀ dx, H dx = none → dx ≠ a → Q .non (upd (upd H dx (exd dx [(f, v)])) a (exo a C (some dx)))) ∧
    Binds K fd ["self", f] [] ∧ (∀ (s : Shared) (u v : Value), BindsTo s fd ⟨[u], [(f, v)]⟩ [("self", u), (f, v)])
/-- at a an error of the class at C whose attribute f is v -/
def ErrAt (H : Hp) (a C : Addr) (f : Str) (v : V) : Prop := ∃ d : Addr, H a = some (exo a C (some d)) ∧ H d = some (exd d [(f, v)])
theorem ErrAt.up {H H' : Hp} {a C : Addr} {f : Str} {v : V} (h : ErrAt H a C f v) (e : Ex H H') : ErrAt H' a C f v := by
  obtain ⟨d, h1, h2⟩ := h
  exact ⟨d, e _ _ h1, e _ _ h2⟩
/-- at a an error of the class at C -/
def ErrOf (H : Hp) (a C : Addr) : Prop := (∃ (d : Addr) (fs : List (Str × V)), H a = some (exo a C (some d)) ∧ H d = some (exd d fs)) ∨ H a = some (ExO (.ref C) a)
theorem ErrOf.up {H H' : Hp} {a C : Addr} (h : ErrOf H a C) (e : Ex H H') : ErrOf H' a C := by
  rcases h with ⟨d, fs, h1, h2⟩ | h1
  · exact .inl ⟨d, fs, e _ _ h1, e _ _ h2⟩
  · exact .inr (e _ _ h1)
theorem ErrAt.of {H : Hp} {a C : Addr} {f : Str} {v : V} (h : ErrAt H a C f v) : ErrOf H a C := by
  obtain ⟨d, h1, h2⟩ := h
  exact .inl ⟨d, _, h1, h2⟩
theorem err_laid {H : Hp} {a dx C : Addr} {f : Str} {v : V} (ha : H a = none) (hd : H dx = none) (n : dx ≠ a) :
    Ex H (upd (upd (upd H a (exo a C none)) dx (exd dx [(f, v)])) a (exo a C (some dx))) ∧ ErrAt (upd (upd (upd H a (exo a C none)) dx (exd dx [(f, v)])) a (exo a C (some dx))) a C f v := by
  refine ⟨fun b o e => ?_, dx, upd_same, ?_⟩
  · have n1 : b ≠ a := ne_of_none e ha
    have n2 : b ≠ dx := ne_of_none e hd
    rw [upd_ne n1, upd_ne n2, upd_ne n1]
    exact e
  · rw [upd_ne n, upd_same]
section
variable {X : Cx} {x f : Str} {C : Addr} {e : Expr} {te : TE} {p pos kpos apos : Pos}
/-- X(e): a new error -/
def tErr (C : Addr) (f : Str) (te : TE) : TE := fun σ H Q => te σ H fun v H1 => ∀ a H2, H1 a = none → Ex H1 H2 → ErrAt H2 a C f v → Q (.ref a) H2
theorem err_size {us : List Value} (h : us.length ≤ 1) : us.length ≤ sizeLine := by
  rw [sizeLine_eq]
  omega
theorem pe_err (R : ErrC X.prog X.w X.K X.mg X.base x C f) (hr : Room 2 X.A) (hg : Gl X x) (he : PE X e te) (hdb : (x == ("__debug__" : Str)) = false := by decide)
    (hs : starEach [e] X.env = (false, eval e X.env) :: starEach [] X.env := by rfl) : PE X (.Call (.Name x p) [e] [] pos) (tErr C f te) := by
  refine ⟨fun pins s σ H Q I h => ?_⟩
  obtain ⟨fI, fd, iC, tI, F1, hb, _⟩ := R.init
  obtain ⟨nm, q, N, bs, bm, sn, sub, ab, col, dd, k0, k1, k2, k3, k5, hC, hbm⟩ := R.T.cls
  refine wpAny_Call_Name_kw (ld_glob I hg R.gC ?_ hdb)
  refine PySem.W.callWith_K (h₀ := X.base) I.ok.mod.kin R.T.kC ?_ hs (by rfl)
  rw [hs]
  show wpAny _ _ (spliced ((false, eval e X.env) :: backTo pos (starEach [] X.env))) _ _ s
  refine Calls.spliced_cons (thn (he.run pins s σ H _ I h) fun u s1 ⟨v, H1, I1, r1, q1⟩ => Calls.spliced_nil ⟨I1.kIn, ?_⟩)
  show wpAny _ _ (call (.ref C) [u]) _ _ _
  obtain ⟨hp, g, dr, tk, os⟩ := s1
  have hsz : hp.objs.size ≤ hp.objs.size + 1 := Nat.le_succ _
  have hn : H1 (hp.objs.size + 1) = none := I1.hok.fresh hsz
  have kk : ∀ b o, hp.get? b = some o → ((hp.push (PySem.W.kdv_tup [u])).push (PySem.HandSPX.excO C hp.objs.size)).get? b = some o := fun b o z => Heap.get?_push_of_some _ (Heap.get?_push_of_some _ z)
  have hget : ((hp.push (PySem.W.kdv_tup [u])).push (PySem.HandSPX.excO C hp.objs.size)).get? (hp.objs.size + 1) = some (PySem.HandSPX.excO C hp.objs.size) := by heap_get
  have I2 : Inv X pins σ (upd H1 (hp.objs.size + 1) (exo (hp.objs.size + 1) C none)) ⟨(hp.push (PySem.W.kdv_tup [u])).push (PySem.HandSPX.excO C hp.objs.size), g, dr, tk, os⟩ :=
    I1.laid (t' := tk) (a := hp.objs.size + 1) (o := exo (hp.objs.size + 1) C none) (h' := (hp.push (PySem.W.kdv_tup [u])).push (PySem.HandSPX.excO C hp.objs.size)) kk hsz (exo_ok hget)
  have r2 : Vals [V.ref (hp.objs.size + 1), v] [Value.ref (hp.objs.size + 1), u] := .cons rfl (.cons r1 .nil)
  have bt := hb _ [Value.ref (hp.objs.size + 1), u] I2.kIn rfl
  rw [List.append_nil] at bt
  refine wpAny_call (PySem.HandSPX.call_own PySem.F.excBase_ValueError (fun Y => PySem.HandSPX.refsVE_contains Y bm hbm) (I1.kIn _ _ hC) (PySem.W.looks_findIn I1.kIn iC) (fun self => PySem.W.bind_fn I1.kIn self tI) (err_size (Nat.le_refl 1))
    (codeAny_mono (F1.run _ X.stack _ _ ⟨[Value.ref (hp.objs.size + 1), u], []⟩ [Value.ref (hp.objs.size + 1), u] _ (fun y H2 => y = .non ∧ Q (.ref (hp.objs.size + 1)) H2) (fun _ _ _ => False) (hr.make C [u] []) (I2.env0.make C [u] []) bt r2
      ⟨_, v, rfl, upd_same, fun dx hdx nx => ⟨rfl, ?_⟩⟩) fun r s' hq' => ?_))
  · have hd1 : H1 dx = none := by
      rw [upd_ne nx] at hdx
      exact hdx
    obtain ⟨z1, z2⟩ := err_laid (C := C) (f := f) (v := v) hn hd1 nx
    exact q1 _ _ hn z1 z2
  · cases r with
    | error er => exact False.elim hq'
    | ok fl =>
      cases fl with
      | ret u' =>
        obtain ⟨y, H', I3, ry, ey, q3⟩ := I2.after hq'
        subst ey
        exact ⟨ry, ⟨V.ref (hp.objs.size + 1), H', I3, rfl, q3⟩⟩
      | next => exact False.elim hq'
      | brk => exact False.elim hq'
      | cont => exact False.elim hq'
/-- of a list with one item -/
def only1 (R : V → Hp → Prop) : List V → Hp → Prop
  | [v], H => R v H
  | _, _ => False
theorem only1_is {R : V → Hp → Prop} : ∀ {vs : List V} {H : Hp}, only1 R vs H → ∃ v, vs = [v] ∧ R v H
  | [v], _, h => ⟨v, rfl, h⟩
  | [], _, h => h.elim
  | _ :: _ :: _, _, h => h.elim
/-- X(f=e) -/
theorem pe_errK (R : ErrC X.prog X.w X.K X.mg X.base x C f) (hr : Room 2 X.A) (hg : Gl X x) (he : PE X e te) (hdb : (x == ("__debug__" : Str)) = false := by decide) : PE X (.Call (.Name x p) [] [⟨some f, e, kpos⟩] pos) (tErr C f te) := by
  refine ⟨fun pins s σ H Q I h => ?_⟩
  obtain ⟨fI, fd, iC, tI, F1, _, hb⟩ := R.init
  obtain ⟨nm, q, N, bs, bm, sn, sub, ab, col, dd, k0, k1, k2, k3, k5, hC, hbm⟩ := R.T.cls
  refine wpAny_Call_Name_kw (ld_glob I hg R.gC ?_ hdb)
  have hk : PK X [⟨some f, e, kpos⟩] (tCons te tNil) := pk_cons he pk_nil
  refine PySem.W.callWith_KW0 (h₀ := X.base) I.ok.mod.kin R.T.kC (by rfl) (thn (hk.run pos pins s σ H (only1 fun v H1 => ∀ a H2, H1 a = none → Ex H1 H2 → ErrAt H2 a C f v → Q (.ref a) H2) I h) fun us s1 ⟨vs, H1, I1, r1, q0⟩ => ⟨I1.kIn, ?_⟩)
  obtain ⟨v, ev, q1⟩ := only1_is q0
  subst ev
  obtain ⟨u, eu, r9⟩ := Vals.one r1
  subst eu
  show wpAny _ _ (call (.ref C) [] [(f, u)]) _ _ _
  obtain ⟨hp, g, dr, tk, os⟩ := s1
  have hsz : hp.objs.size ≤ hp.objs.size + 1 := Nat.le_succ _
  have hn : H1 (hp.objs.size + 1) = none := I1.hok.fresh hsz
  have kk : ∀ b o, hp.get? b = some o → (UX.mkd hp C).get? b = some o := fun b o z => Heap.get?_push_of_some _ (Heap.get?_push_of_some _ z)
  have hget : (UX.mkd hp C).get? (hp.objs.size + 1) = some (PySem.HandSPX.excO C hp.objs.size) := by heap_get
  have I2 : Inv X pins σ (upd H1 (hp.objs.size + 1) (exo (hp.objs.size + 1) C none)) ⟨UX.mkd hp C, g, dr, tk, os⟩ :=
    I1.laid (t' := tk) (a := hp.objs.size + 1) (o := exo (hp.objs.size + 1) C none) (h' := UX.mkd hp C) kk hsz (exo_ok hget)
  have r2 : Vals [V.ref (hp.objs.size + 1), v] [Value.ref (hp.objs.size + 1), u] := .cons rfl (.cons r9 .nil)
  have bt := hb ⟨UX.mkd hp C, g, dr, tk, os⟩ (Value.ref (hp.objs.size + 1)) u
  refine wpAny_call (UX.kw_call PySem.F.excBase_ValueError (fun Y => PySem.HandSPX.refsVE_contains Y bm hbm) (I1.kIn _ _ hC) (PySem.W.looks_findIn I1.kIn iC) (fun self => PySem.W.bind_fn I1.kIn self tI)
    (codeAny_mono (F1.run _ X.stack _ _ ⟨[Value.ref (hp.objs.size + 1)], [(f, u)]⟩ [Value.ref (hp.objs.size + 1), u] _ (fun y H2 => y = .non ∧ Q (.ref (hp.objs.size + 1)) H2) (fun _ _ _ => False) (hr.make C [] [(f, u)]) (I2.env0.make C [] [(f, u)]) bt r2
      ⟨_, v, rfl, upd_same, fun dx hdx nx => ⟨rfl, ?_⟩⟩) fun r s' hq' => ?_))
  · have hd1 : H1 dx = none := by
      rw [upd_ne nx] at hdx
      exact hdx
    obtain ⟨z1, z2⟩ := err_laid (C := C) (f := f) (v := v) hn hd1 nx
    exact q1 _ _ hn z1 z2
  · cases r with
    | error er => exact False.elim hq'
    | ok fl =>
      cases fl with
      | ret u' =>
        obtain ⟨y, H', I3, ry, ey, q3⟩ := I2.after hq'
        subst ey
        exact ⟨ry, ⟨V.ref (hp.objs.size + 1), H', I3, rfl, q3⟩⟩
      | next => exact False.elim hq'
      | brk => exact False.elim hq'
      | cont => exact False.elim hq'
/-- e.f, e an error that stands -/
def tErrF (K : PySem.W.Frag) (f : Str) (te : TE) : TE := fun σ H Q => te σ H fun x H1 => ∃ (a C : Addr) (v : V), x = .ref a ∧ XfC K C ∧ PySem.W.findIn K (.ref C) f = some none ∧ ErrAt H1 a C f v ∧ Q v H1
theorem pe_errF (he : PE X e te) (hb : attributeBase e f X.env (eval e X.env) = eval e X.env := by rfl) : PE X (.Attribute e f pos) (tErrF X.K f te) := by
  refine ⟨fun pins s σ H Q I h => ?_⟩
  refine attr_of hb (thn (he.run pins s σ H _ I h) fun u s1 hh => ?_)
  obtain ⟨x, H1, I1, rx, a, C, v, ex, R, hno, ⟨d, ea, ed⟩, q⟩ := hh
  subst ex
  obtain rfl : u = Value.ref a := rx
  obtain ⟨t1, ho⟩ := exo_at I1.hok ea
  obtain ⟨mA, hns, rel⟩ := exd_at I1.hok ed
  obtain ⟨od, hd, hl⟩ := lookIn_ns hns
  have l1 : [(f, v)].lookup f = some v := by simp [List.lookup]
  obtain ⟨y, hy, ry⟩ := RelO.some_of (v := v) (o := mA f) (by rw [← l1]; exact rel f)
  have J : PySem.W.InstAt s1.heap a { cls := .ref C, dict := some d, data := .fields #[.ref t1, .none, .none, .none, .bool false, .none] } C (some od) := ⟨ho, rfl, rfl, hd⟩
  exact HandSPX.exc_get I1.kIn J R.ga R.gg R.exC (PySem.W.findObj_own R.hdC hno rfl (by rw [hl, hy])) (handed_of ry) ⟨v, H1, I1.tok _, ry, q⟩
/-- X(): an error of a class without own __init__ -/
theorem pe_err0 {bmB : List Value} {B nid iid : String} (F : ExcBaseFacts B nid iid bmB) (q : PySem.W.excIn X.K C bmB nid = true) (gC : X.mg x = some (.ref C)) (kC : PySem.W.keepIn X.K (.ref C) = true) (hg : Gl X x) (hdb : (x == ("__debug__" : Str)) = false := by decide) :
    PE X (.Call (.Name x p) [] [] pos) (fun _ H Q => ∀ a, H a = none → Q (.ref a) (upd H a (ExO (.ref C) a))) := by
  refine ⟨fun pins s σ H Q I h => ?_⟩
  refine wpAny_Call_Name_kw (ld_glob I hg gC ?_ hdb)
  refine PySem.W.callWith_K0 I.kIn kC ?_
  show wpAny _ _ (call (.ref C) []) _ _ _
  obtain ⟨bm, N, nm, qn, bs, hdct, sn, sub, ab, col, dd, k0, k1, k2, k3, k5, mN, hC, hN, hni, T⟩ := exc_obj I.kIn q
  refine wpAny_call_exc_subT F T hC hN hni (fun h' a hm => ?_) (Nat.zero_le _)
  have hn : H a = none := I.hok.gone hm.new
  obtain ⟨t, ht, _, _⟩ := hm.there
  exact ⟨.ref a, upd H a (ExO (.ref C) a), I.laidN hm.keeps hm.new hn (exO_ok ht ⟨rfl, rfl⟩ rfl rfl rfl (show 4 < 6 by decide)), rfl, h a hn⟩
/-- what the class D says, so that isinstance asks its instances rightly -/
structure IsiC (K : PySem.W.Frag) (D : Addr) : Prop where
  cl : (PySem.W.clsIn K D).isSome = true
  hg : PySem.W.findIn K (.ref D) "__getattribute__" = some (some (.builtin "BaseException.__getattribute__"))
  hk : PySem.W.findIn K (.ref D) "__getattr__" = some none
  hs : PySem.W.subIn K (.ref D) (.type "BaseException") = some true
  ha : PySem.W.findIn K (.ref D) "__class__" = some (some (.builtin "object.__class__"))
  hn : PySem.W.specialIn K (.builtin "object.__class__") "__get__" = some (some (.builtin "getset_descriptor.__get__"))
  ht : PySem.W.takesIn K (.builtin "object.__class__") = some true
  hm : PySem.W.mroIn K D (.type "object") = some true
/-- isinstance(e, c), e an error that stands -/
def rIsErr (K : PySem.W.Frag) : List V → Hp → VK → Prop := fun xs H Q => ∃ (a D : Addr) (c : V) (cv : Value) (b : Bool), xs = [.ref a, c] ∧ ErrOf H a D ∧ IsiC K D ∧ ClsV c cv ∧ PySem.W.kitOne K (.ref D) cv = some b ∧ Q (.bl b) H
theorem call_isErr : CallR X (.builtin "isinstance") (rIsErr X.K) := by
  intro pins s σ H xs us Q I r h
  obtain ⟨a, D, c, cv, b, rfl, he, Z, hc, e, q⟩ := h
  obtain ⟨u1, u2, rfl, r1, r2⟩ := vals2 r
  have e2 := hc.eq r2
  subst e2
  obtain rfl : u1 = Value.ref a := r1
  have J : ∃ (ox : Obj) (od : Option Obj), PySem.W.InstAt s.heap a ox D od := by
    rcases he with ⟨d, fs, ea, ed⟩ | ea
    · obtain ⟨t1, ho⟩ := exo_at I.hok ea
      obtain ⟨mA, hns, rel⟩ := exd_at I.hok ed
      obtain ⟨od, hd, hl⟩ := lookIn_ns hns
      exact ⟨_, some od, ho, rfl, rfl, hd⟩
    · obtain ⟨⟨oe, vs, h1, h2, h3, _⟩, _, _⟩ := (show ObjOk X.prog X.w H s.heap a (.ext _) from I.hok a _ ea)
      refine ⟨oe, none, h1, h2.1, ?_, ?_⟩
      · unfold PySem.W.notCls
        rw [h3]
      · rw [h2.2]
        trivial
  obtain ⟨ox, od, J⟩ := J
  exact PySem.W.kia_one (PySem.W.kitx_exc Z.cl Z.hg Z.hk Z.hs Z.ha Z.hn Z.ht Z.hm) I.kIn J e (fun z => nomatch z) fun tk => ⟨.bl b, H, I.tok tk, rfl, q⟩
end
end U

set_option Elab.async false
set_option linter.all false
set_option maxRecDepth 100000
set_option maxHeartbeats 4000000
namespace U
open PySem PySem.Spec PyProof.Rows L2
open Evl (Ex)
section
variable {X : Cx} {tg : Expr}
/-- a list or a tuple, item by item -/
def iSeq (K : PySem.W.Frag) (tl : TE) : TI := fun σ H R => tl σ H fun x H1 => ∃ a, x = .ref a ∧ (((∃ xs, SqL K H1 a xs) ∧ R (Itl K a) H1) ∨ ((∃ xs, SqT K H1 a xs) ∧ R (Itt K a) H1))
theorem pi_seq {l : Expr} {tl : TE} (hl : PE X l tl) : PI X tg l (iSeq X.K tl) := by
  refine ⟨fun pins s σ H R I h => ?_⟩
  refine thn (hl.run pins s σ H _ I h) fun v s1 ⟨x, H1, I1, r1, q1⟩ => ?_
  obtain ⟨a, e, q⟩ := q1
  subst e
  cases r1
  have fresh : ∀ b ∈ [s1.heap.objs.size], b = s1.heap.objs.size := fun b hb => by simpa using hb
  rcases q with ⟨⟨xs, hq⟩, q⟩ | ⟨⟨xs, hq⟩, q⟩
  · obtain ⟨its, rv, p, hz⟩ := I1.list hq
    refine wpAny_pyIter_list p.isList ?_
    refine ⟨s1.heap.objs.size, [s1.heap.objs.size], _, _, H1, rfl, I1.kept (t' := s1.toks) fun b o e => Heap.get?_push_of_some _ e, turn_list a _, ⟨_, Heap.get?_push_size _ rfl, rfl, rfl⟩, fun b hb => ?_, q⟩
    rw [fresh b hb]
    exact I1.fpOk (Nat.le_refl _) (I1.hok.fresh (Nat.le_refl _))
  · obtain ⟨its, rv, p, hz⟩ := I1.tuple hq
    refine wpAny_pyIter_tuple (show s1.heap.IsTuple a its.toArray from p) ?_
    refine ⟨s1.heap.objs.size, [s1.heap.objs.size], _, _, H1, rfl, I1.kept (t' := s1.toks) fun b o e => Heap.get?_push_of_some _ e, turn_tuple a _, ⟨_, Heap.get?_push_size _ rfl, rfl, rfl⟩, fun b hb => ?_, q⟩
    rw [fresh b hb]
    exact I1.fpOk (Nat.le_refl _) (I1.hok.fresh (Nat.le_refl _))
/-- enumerate of a list or a tuple -/
def iEnumA (K : PySem.W.Frag) (ta : TA) : TI := fun σ H R => ta σ H fun vs H1 => ∃ a xs, vs = [.ref a] ∧ ((SqL K H1 a xs ∧ R (Ite K a) H1) ∨ (SqT K H1 a xs ∧ R (UE.IteT K a) H1))
theorem pi_enumA {e : Expr} {ta : TA} {p pos tpos : Pos} {elts : List Expr} {kk : Nat} (hg : Gl X "enumerate") (hm : X.mg "enumerate" = none) (ha : PA X [e] ta) (hs : starEach [e] X.env = [(false, eval e X.env)] := by rfl) :
    PI X (.Tuple elts kk tpos) (.Call (.Name "enumerate" p) [e] [] pos) (iEnumA X.K ta) := by
  refine ⟨fun pins s σ H R I h => ?_⟩
  refine Call_ (ld_blt I hg hm boot_enumerate (PyProof.Rows.callWith_type1 (thn (ha.run pos pins s σ H _ I h) fun us s1 ⟨vs, H1, I1, r1, q1⟩ => ?_) hs rfl))
  obtain ⟨a, xs, ex, q⟩ := q1
  subst ex
  have hb2 : ∀ b ∈ [s1.heap.objs.size + 1, s1.heap.objs.size], s1.heap.objs.size ≤ b := fun b hb => by
    have e' : b = s1.heap.objs.size + 1 ∨ b = s1.heap.objs.size := by simpa using hb
    omega
  cases r1 with
  | cons r rr =>
    cases rr
    cases r
    rcases q with ⟨hq, q⟩ | ⟨hq, q⟩
    · obtain ⟨its, rv, p', hz⟩ := I1.list hq
      refine call_enumerate_list p'.isList fun h' he hit hsz hk => wpAny_pyIter_enum he ?_
      have I2 : Inv X pins σ H1 { s1 with heap := h' } := I1.kept (t' := s1.toks) hk
      exact ⟨s1.heap.objs.size + 1, [s1.heap.objs.size + 1, s1.heap.objs.size], _, _, H1, rfl, I2, turn_enum a (s1.heap.objs.size + 1) s1.heap.objs.size, ⟨⟨.none, he⟩, hit, Nat.succ_ne_self _⟩, fun b hb => I1.fpOk (hb2 b hb) (I1.hok.fresh (hb2 b hb)), q⟩
    · obtain ⟨its, rv, p', hz⟩ := I1.tuple hq
      obtain ⟨oT, hoT, _⟩ := id p'
      have la : a < s1.heap.objs.size := Heap.lt_size hoT
      refine UE.call_enumT (its := its.toArray) p' fun h' he hit hsz hk => wpAny_pyIter_enum he ?_
      have I2 : Inv X pins σ H1 { s1 with heap := h' } := I1.kept (t' := s1.toks) hk
      exact ⟨s1.heap.objs.size + 1, [s1.heap.objs.size + 1, s1.heap.objs.size], _, _, H1, rfl, I2, UE.turn_enumT a (s1.heap.objs.size + 1) s1.heap.objs.size, ⟨⟨.none, he⟩, hit, Nat.succ_ne_self _, Nat.ne_of_lt la, Nat.ne_of_lt (Nat.lt_succ_of_lt la)⟩, fun b hb => I1.fpOk (hb2 b hb) (I1.hok.fresh (hb2 b hb)), q⟩
end
section
variable {K : PySem.W.Frag} {a : Addr} {xs : List V}
theorem walk_enumT : Walk (UE.IteT K a) xs.length (fun H => SqT K H a xs) (YPair (fun i => some (.int (i : Nat))) (fun i => xs[i]?)) := by
  refine ⟨fun i _ hi q => ⟨xs, xs[i], q, by simp [hi]⟩, fun _ q => ⟨xs, q, Nat.le_refl _⟩, fun i H v H' _ q y => ?_⟩
  obtain ⟨T, x, h1, h2, h3, h4⟩ := y
  exact ⟨T, .int (i : Nat), x, h1, h2, h3, rfl, h4 xs q⟩
end
/-! ### a comprehension whose items are data -/
section
variable {K : PySem.W.Frag} {L : List Addr} {σ σ2 : L2.St} {H H' H1 H2 : Hp} {te tl : TE} {ta : TA} {tt : TT} {v : V} {d : PyData} {ds : List PyData} {l a Dl : Addr} {xs : List V} {f : Nat → List PyData} {i : Nat}
theorem w_past (hn : H Dl = none) (e : Ex H H') : Ex (W L H) (W (Dl :: L) H') := fun b o h => by
  obtain ⟨h1, n⟩ := w_in h
  have ne : b ≠ Dl := ne_of_none h1 hn
  exact w_of (fun m => (List.mem_cons.mp m).elim ne n) (e b o h1)
/-- evaluates to a new list of data -/
def EvG (K : PySem.W.Frag) (L : List Addr) (te : TE) (σ : L2.St) (H : Hp) (ds : List PyData) : Prop := ∀ H1, Ex H H1 → ∀ Q : VK, (∀ p H2, H1 p = none → Ex H1 H2 → Gr K L H2 p ds → Q (.ref p) H2) → te σ H1 Q
theorem EvG.mono (e : Ex H H') (h : EvG K L te σ H ds) : EvG K L te σ H' ds := fun H1 a Q q => h H1 (e.trans a) Q q
theorem EvG.dat (h : EvG K L te σ H ds) : EvD K L te σ H (.list ds) := fun H1 e Q q => h H1 e _ fun p H2 hp e2 g => q (.ref p) H2 e2 g.dp
def Cmd (K : PySem.W.Frag) (L : List Addr) (H : Hp) (f : Nat → List PyData) (Dl : Addr) (i : Nat) (H' : Hp) : Prop := H Dl = none ∧ Ex H H' ∧ Gr K L H' Dl (f i)
theorem cmd_0 (hL : Hid L H) (hn : H Dl = none) (f0 : f 0 = []) : Cmd K L H f Dl 0 (upd H Dl (.lst [])) := ⟨hn, Ex.new hn, by
  rw [f0]
  exact gr_new hL hn .nil⟩
theorem cmd_yes (p : Cmd K L H f Dl i H') (hz : (f i).length < 100000) (e2 : Ex H' H2) (he : EvD K (Dl :: L) te σ2 H2 d) (hf : f (i + 1) = f i ++ [d]) :
    te σ2 H2 fun y H4 => ∃ acc, H4 Dl = some (.lst acc) ∧ acc.length < sizeLine ∧ Cmd K L H f Dl (i + 1) (upd H4 Dl (.lst (acc ++ [y]))) := by
  obtain ⟨p1, p2, n, acc, p3, p4⟩ := p
  refine he H2 (Ex.refl H2) _ fun y H4 e4 hy => ⟨acc, e4 Dl _ (e2 Dl _ p3), Evl.sz_lt (by rw [dpa_len p4]; exact hz), p1, Evl.Ex.mut ((p2.trans e2).trans e4) p1, ?_⟩
  rw [hf]
  exact gr_app n (e4 Dl _ (e2 Dl _ p3)) (p4.up (w_ex (e2.trans e4))) hy
theorem cmd_no (p : Cmd K L H f Dl i H') (e2 : Ex H' H2) (hf : f (i + 1) = f i) : Cmd K L H f Dl (i + 1) H2 := by
  obtain ⟨p1, p2, p3⟩ := p
  rw [← hf] at p3
  exact ⟨p1, p2.trans e2, p3.up e2⟩
/-- [.. for x in a list or a tuple of data] -/
theorem eg_seq {j : Nat} {vs : List Nat} {g : PyData → PyData} (h : Evl.Ev tl σ H (.ref a)) (hx : SqL K H a xs ∨ SqT K H a xs) (hd : DpAll K (W L H) xs ds) (hL : Hid L H) (hz : ds.length ≤ 50000) (hw : ∀ x, wipe ((wipe σ vs).set j (some x)) vs = wipe σ vs)
    (he : ∀ L' (x : V) d H1, d ∈ ds → Hid L' H1 → Ex H H1 → Dp K (W L' H1) x d → EvD K L' te ((wipe σ vs).set j (some x)) H1 (g d)) : EvG K L (tLc (iSeq K tl) (gName j) tYes te vs) σ H (ds.map g) := fun H0 e0 Q q => h H0 e0 _ fun H1 e1 => by
  have hlen := dpa_len hd
  have turn : ∀ (Dl : Addr) (i : Nat) (x : V) (H2 H3 : Hp), i < xs.length → Cmd K L H1 (fun i => (ds.take i).map g) Dl i H2 → YAt xs i H2 x H3 → gName j x (wipe σ vs) H3 fun σ2 H2 => wipe σ2 vs = wipe σ vs ∧ tYes σ2 H2 fun b H3 =>
      if b = true then te σ2 H3 fun y H4 => ∃ acc, H4 Dl = some (.lst acc) ∧ acc.length < sizeLine ∧ Cmd K L H1 (fun i => (ds.take i).map g) Dl (i + 1) (upd H4 Dl (.lst (acc ++ [y]))) else Cmd K L H1 (fun i => (ds.take i).map g) Dl (i + 1) H3 := by
    intro Dl i x H2 H3 hi p yp
    obtain ⟨rfl, hu⟩ := yp
    obtain ⟨d, hd1, hd2⟩ := dpa_get hd hu
    obtain ⟨p1, p2, p3⟩ := id p
    refine ⟨hw x, ?_⟩
    refine yes_lc (A := fun H3 => te ((wipe σ vs).set j (some x)) H3 fun y H4 => ∃ acc, H4 Dl = some (.lst acc) ∧ acc.length < sizeLine ∧ Cmd K L H1 (fun i => (ds.take i).map g) Dl (i + 1) (upd H4 Dl (.lst (acc ++ [y])))) (B := fun H3 => Cmd K L H1 (fun i => (ds.take i).map g) Dl (i + 1) H3) ?_
    refine cmd_yes p (by simp; omega) (Ex.refl _) (he _ x d _ (List.mem_of_getElem? hd1) ?_ ((e0.trans e1).trans p2) (hd2.up (w_past (Evl.fresh_back (e0.trans e1) p1) ((e0.trans e1).trans p2)))) ?_
    · intro b hb
      rcases List.mem_cons.mp hb with z | z
      · rw [z]
        exact p3.ne
      · exact hid_ex ((e0.trans e1).trans p2) hL b z
    · have hi' : i < ds.length := by omega
      rw [List.take_add_one, hd1]
      simp
  have fin : ∀ Dl H2, Cmd K L H1 (fun i => (ds.take i).map g) Dl xs.length H2 → Q (.ref Dl) H2 := fun Dl H2 p => by
    obtain ⟨p1, p2, p3⟩ := p
    refine q Dl H2 (Evl.fresh_back e1 p1) (e1.trans p2) ?_
    have e : (ds.take xs.length).map g = ds.map g := by rw [hlen, List.take_length]
    rw [← e]
    exact p3
  have hL1 : Hid L H1 := hid_ex (e0.trans e1) hL
  refine ⟨a, rfl, ?_⟩
  rcases hx with x1 | x1
  · refine .inl ⟨⟨xs, Evl.ex_l (e0.trans e1) x1⟩, fun Dl hD => ?_⟩
    exact lc_it (walk_list (xs := xs)) (Cmd K L H1 (fun i => (ds.take i).map g) Dl) (cmd_0 hL1 hD rfl) (fun i H2 _ p => Evl.ex_l ((e0.trans e1).trans p.2.1) x1) (fun i x H2 H3 hi p y => turn Dl i x H2 H3 hi p y) (fun H2 p => fin Dl H2 p)
  · refine .inr ⟨⟨xs, Evl.ex_t (e0.trans e1) x1⟩, fun Dl hD => ?_⟩
    exact lc_it (walk_tup (xs := xs)) (Cmd K L H1 (fun i => (ds.take i).map g) Dl) (cmd_0 hL1 hD rfl) (fun i H2 _ p => Evl.ex_t ((e0.trans e1).trans p.2.1) x1) (fun i x H2 H3 hi p y => turn Dl i x H2 H3 hi p y) (fun H2 p => fin Dl H2 p)
/-- [.. for p, q in a list or a tuple of pairs of data] -/
theorem eg_pairs {j1 j2 : Nat} {vs : List Nat} {g : PyData → PyData} (h : Evl.Ev tl σ H (.ref a)) (hx : SqL K H a xs ∨ SqT K H a xs) (hd : DpAll K (W L H) xs ds) (hL : Hid L H) (hz : ds.length ≤ 50000)
    (h2 : ∀ d ∈ ds, ∃ d1 d2, d = .tuple [d1, d2]) (hw : ∀ x y, wipe (((wipe σ vs).set j1 (some x)).set j2 (some y)) vs = wipe σ vs)
    (he : ∀ L' (x y : V) d1 d2 H1, PyData.tuple [d1, d2] ∈ ds → Hid L' H1 → Ex H H1 → Dp K (W L' H1) x d1 → Dp K (W L' H1) y d2 → EvD K L' te (((wipe σ vs).set j1 (some x)).set j2 (some y)) H1 (g (.tuple [d1, d2]))) :
    EvG K L (tLc (iSeq K tl) (gTup K 2 (gCons (gName j1) (gCons (gName j2) gNil))) tYes te vs) σ H (ds.map g) := fun H0 e0 Q q => h H0 e0 _ fun H1 e1 => by
  have hlen := dpa_len hd
  have turn : ∀ (Dl : Addr) (i : Nat) (x : V) (H2 H3 : Hp), i < xs.length → Cmd K L H1 (fun i => (ds.take i).map g) Dl i H2 → YAt xs i H2 x H3 → gTup K 2 (gCons (gName j1) (gCons (gName j2) gNil)) x (wipe σ vs) H3 fun σ2 H2 => wipe σ2 vs = wipe σ vs ∧ tYes σ2 H2 fun b H3 =>
      if b = true then te σ2 H3 fun y H4 => ∃ acc, H4 Dl = some (.lst acc) ∧ acc.length < sizeLine ∧ Cmd K L H1 (fun i => (ds.take i).map g) Dl (i + 1) (upd H4 Dl (.lst (acc ++ [y]))) else Cmd K L H1 (fun i => (ds.take i).map g) Dl (i + 1) H3 := by
    intro Dl i x H2 H3 hi p yp
    obtain ⟨rfl, hu⟩ := yp
    obtain ⟨d, hd1, hd2⟩ := dpa_get hd hu
    obtain ⟨d1, d2, rfl⟩ := h2 d (List.mem_of_getElem? hd1)
    obtain ⟨p1, p2, p3⟩ := id p
    have hd3 := hd2.up (w_past (Evl.fresh_back (e0.trans e1) p1) ((e0.trans e1).trans p2))
    cases hd3 with
    | @tup T ys _ hT ha =>
      cases ha with
      | @cons u1 us1 _ _ r1 rr =>
        cases rr with
        | @cons u2 us2 _ _ r2 rr2 =>
          cases rr2
          refine ⟨T, [u1, u2], rfl, Evl.ex_t w_sub hT, rfl, u1, [u2], rfl, u2, [], rfl, rfl, hw u1 u2, ?_⟩
          refine yes_lc (A := fun H3 => te ((List.set (wipe σ vs) j1 (some u1)).set j2 (some u2)) H3 fun y H4 => ∃ acc, H4 Dl = some (.lst acc) ∧ acc.length < sizeLine ∧ Cmd K L H1 (fun i => (ds.take i).map g) Dl (i + 1) (upd H4 Dl (.lst (acc ++ [y])))) (B := fun H3 => Cmd K L H1 (fun i => (ds.take i).map g) Dl (i + 1) H3) ?_
          refine cmd_yes p (by simp; omega) (Ex.refl _) (he _ u1 u2 d1 d2 _ (List.mem_of_getElem? hd1) ?_ ((e0.trans e1).trans p2) r1 r2) ?_
          · intro b hb
            rcases List.mem_cons.mp hb with z | z
            · rw [z]
              exact p3.ne
            · exact hid_ex ((e0.trans e1).trans p2) hL b z
          · rw [List.take_add_one, hd1]
            simp
  have fin : ∀ Dl H2, Cmd K L H1 (fun i => (ds.take i).map g) Dl xs.length H2 → Q (.ref Dl) H2 := fun Dl H2 p => by
    obtain ⟨p1, p2, p3⟩ := p
    refine q Dl H2 (Evl.fresh_back e1 p1) (e1.trans p2) ?_
    have e : (ds.take xs.length).map g = ds.map g := by rw [hlen, List.take_length]
    rw [← e]
    exact p3
  have hL1 : Hid L H1 := hid_ex (e0.trans e1) hL
  refine ⟨a, rfl, ?_⟩
  rcases hx with x1 | x1
  · refine .inl ⟨⟨xs, Evl.ex_l (e0.trans e1) x1⟩, fun Dl hD => ?_⟩
    exact lc_it (walk_list (xs := xs)) (Cmd K L H1 (fun i => (ds.take i).map g) Dl) (cmd_0 hL1 hD rfl) (fun i H2 _ p => Evl.ex_l ((e0.trans e1).trans p.2.1) x1) (fun i x H2 H3 hi p y => turn Dl i x H2 H3 hi p y) (fun H2 p => fin Dl H2 p)
  · refine .inr ⟨⟨xs, Evl.ex_t (e0.trans e1) x1⟩, fun Dl hD => ?_⟩
    exact lc_it (walk_tup (xs := xs)) (Cmd K L H1 (fun i => (ds.take i).map g) Dl) (cmd_0 hL1 hD rfl) (fun i H2 _ p => Evl.ex_t ((e0.trans e1).trans p.2.1) x1) (fun i x H2 H3 hi p y => turn Dl i x H2 H3 hi p y) (fun H2 p => fin Dl H2 p)
/-- the items at the places that c names -/
def sel (c : Nat → Bool) (ds : List PyData) (n : Nat) : List PyData := (List.range n).flatMap fun i => if c i then (ds[i]?).toList else []
theorem sel_step {c : Nat → Bool} {n : Nat} : sel c ds (n + 1) = sel c ds n ++ (if c n then (ds[n]?).toList else []) := by
  unfold sel
  rw [List.range_succ, List.flatMap_append]
  simp
theorem sel_len {c : Nat → Bool} : ∀ n, (sel c ds n).length ≤ n
  | 0 => by simp [sel]
  | n + 1 => by
    have q := sel_len (c := c) n
    rw [sel_step, List.length_append]
    have z : (if c n = true then (ds[n]?).toList else []).length ≤ 1 := by
      split
      · cases ds[n]? <;> simp
      · simp
    omega
theorem sel_mem {c : Nat → Bool} {n : Nat} {d : PyData} (h : d ∈ sel c ds n) : d ∈ ds := by
  unfold sel at h
  obtain ⟨i, _, hi⟩ := List.mem_flatMap.mp h
  split at hi
  · exact List.mem_of_getElem? (by simpa using hi)
  · cases hi
/-- [x for i, x in enumerate(a list or a tuple of data) if c i] -/
theorem eg_enum {j1 j2 : Nat} {vs : List Nat} {c : Nat → Bool} (h : Evl.EvA ta σ H [.ref a]) (hx : SqL K H a xs ∨ SqT K H a xs) (hd : DpAll K (W L H) xs ds) (hL : Hid L H) (hz : ds.length ≤ 50000)
    (hw : ∀ x y, wipe (((wipe σ vs).set j1 (some x)).set j2 (some y)) vs = wipe σ vs)
    (ht : ∀ (x : V) (i : Nat) H1, i < ds.length → Ex H H1 → Evl.EvT tt (((wipe σ vs).set j1 (some (.int (i : Int)))).set j2 (some x)) H1 (c i)) (hn : ∀ x y, (((wipe σ vs).set j1 (some x)).set j2 (some y))[j2]? = some (some y)) :
    EvG K L (tLc (iEnumA K ta) (gTup K 2 (gCons (gName j1) (gCons (gName j2) gNil))) tt (tVar j2) vs) σ H (sel c ds ds.length) := fun H0 e0 Q q => h H0 e0 _ fun H1 e1 => by
  have hlen := dpa_len hd
  have turn : ∀ (Dl : Addr) (i : Nat) (x : V) (H2 H3 : Hp), i < xs.length → Cmd K L H1 (sel c ds) Dl i H2 → YPair (fun i => some (.int (i : Nat))) (fun i => xs[i]?) i H2 x H3 → gTup K 2 (gCons (gName j1) (gCons (gName j2) gNil)) x (wipe σ vs) H3 fun σ2 H2 => wipe σ2 vs = wipe σ vs ∧ tt σ2 H2 fun b H3 =>
      if b = true then (tVar j2) σ2 H3 fun y H4 => ∃ acc, H4 Dl = some (.lst acc) ∧ acc.length < sizeLine ∧ Cmd K L H1 (sel c ds) Dl (i + 1) (upd H4 Dl (.lst (acc ++ [y]))) else Cmd K L H1 (sel c ds) Dl (i + 1) H3 := by
    intro Dl i x H2 H3 hi p yp
    obtain ⟨T, u, w, rfl, hT, rfl, hu, hw'⟩ := yp
    have eu : u = .int (i : Int) := (Option.some.inj hu).symm
    subst eu
    have hw2 : xs[i]? = some w := hw'
    obtain ⟨d, hd1, hd2⟩ := dpa_get hd hw2
    obtain ⟨p1, p2, p3⟩ := id p
    refine ⟨T, [.int (i : Int), w], rfl, SqT.of upd_same, rfl, .int (i : Int), [w], rfl, w, [], rfl, rfl, hw _ w, ?_⟩
    have eN := ((e0.trans e1).trans p2).trans (Ex.new (o := .tup [.int (i : Int), w]) hT)
    refine ht w i _ (by omega) eN _ (Ex.refl _) _ fun H4 e4 => ?_
    have e24 : Ex H2 H4 := (Ex.new hT).trans e4
    by_cases hc : c i = true
    · rw [if_pos hc]
      refine cmd_yes (d := d) p (Nat.lt_of_le_of_lt (sel_len i) (by omega)) e24 (evd_var (hn _ w) (hd2.up (w_past (Evl.fresh_back (e0.trans e1) p1) (((e0.trans e1).trans p2).trans e24)))) ?_
      rw [sel_step, if_pos hc, hd1]
      rfl
    · rw [if_neg hc]
      refine cmd_no p e24 ?_
      rw [sel_step, if_neg hc, List.append_nil]
  have fin : ∀ Dl H2, Cmd K L H1 (sel c ds) Dl xs.length H2 → Q (.ref Dl) H2 := fun Dl H2 p => by
    obtain ⟨p1, p2, p3⟩ := p
    refine q Dl H2 (Evl.fresh_back e1 p1) (e1.trans p2) ?_
    rw [hlen] at p3
    exact p3
  have hL1 : Hid L H1 := hid_ex (e0.trans e1) hL
  refine ⟨a, xs, rfl, ?_⟩
  rcases hx with x1 | x1
  · refine .inl ⟨Evl.ex_l (e0.trans e1) x1, fun Dl hD => ?_⟩
    exact lc_it (walk_enum (xs := xs)) (Cmd K L H1 (sel c ds) Dl) (cmd_0 hL1 hD rfl) (fun i H2 _ p => Evl.ex_l ((e0.trans e1).trans p.2.1) x1) (fun i x H2 H3 hi p y => turn Dl i x H2 H3 hi p y) (fun H2 p => fin Dl H2 p)
  · refine .inr ⟨Evl.ex_t (e0.trans e1) x1, fun Dl hD => ?_⟩
    exact lc_it (walk_enumT (xs := xs)) (Cmd K L H1 (sel c ds) Dl) (cmd_0 hL1 hD rfl) (fun i H2 _ p => Evl.ex_t ((e0.trans e1).trans p.2.1) x1) (fun i x H2 H3 hi p y => turn Dl i x H2 H3 hi p y) (fun H2 p => fin Dl H2 p)
/-- tuple(a new list of data) -/
theorem evd_tupG (h : EvG K L te σ H ds) (hL : Hid L H) : EvD K L (tCB (fun xs H Q => ∃ p ys, xs = [.ref p] ∧ ((SqL K H p ys ∧ ∀ l, H l = none → Q (.ref l) (upd H l (.tup ys))) ∨ (SqT K H p ys ∧ Q (.ref p) H))) (tCons te tNil)) σ H (.tuple ds) := fun H1 e Q q =>
  h H1 e _ fun p H2 hp e2 g => by
    obtain ⟨n, ys, g1, g2⟩ := g
    refine ⟨p, ys, rfl, .inl ⟨SqL.of g1, fun r hr => ?_⟩⟩
    exact q (.ref r) _ (e2.trans (Ex.new hr)) (.tup (SqT.of (w_new (hid_ex (e.trans e2) hL) hr)) ((g2.up w_cons).up (w_ex (Ex.new hr))))
/-- tuple(x) of data that are a list or a tuple -/
theorem evd_tupD {x : V} (h : Evl.Ev te σ H x) (hd : Dp K (W L H) x (.list ds) ∨ Dp K (W L H) x (.tuple ds)) (hL : Hid L H) : EvD K L (tCB (fun xs H Q => ∃ p ys, xs = [.ref p] ∧ ((SqL K H p ys ∧ ∀ l, H l = none → Q (.ref l) (upd H l (.tup ys))) ∨ (SqT K H p ys ∧ Q (.ref p) H))) (tCons te tNil)) σ H (.tuple ds) := fun H1 e Q q =>
  h H1 e _ fun H2 e2 => by
    rcases hd with hd | hd
    · cases hd with
      | @lst p ys _ hs ha =>
        refine ⟨p, ys, rfl, .inl ⟨Evl.ex_l (w_sub.trans (e.trans e2)) hs, fun r hr => ?_⟩⟩
        exact q (.ref r) _ (e2.trans (Ex.new hr)) (.tup (SqT.of (w_new (hid_ex (e.trans e2) hL) hr)) (ha.up (w_ex ((e.trans e2).trans (Ex.new hr)))))
    · have hd' := hd
      cases hd with
      | @tup p ys _ hs ha =>
        exact ⟨p, ys, rfl, .inr ⟨Evl.ex_t (w_sub.trans (e.trans e2)) hs, q (.ref p) H2 e2 (hd'.up (w_ex (e.trans e2)))⟩⟩
/-- list(x) of data that are a list or a tuple -/
theorem eg_list {x : V} (h : Evl.Ev te σ H x) (hd : Dp K (W L H) x (.list ds) ∨ Dp K (W L H) x (.tuple ds)) (hL : Hid L H) : EvG K L (tCB (fun xs H Q => ∃ p ys, xs = [.ref p] ∧ (SqL K H p ys ∨ SqT K H p ys) ∧ ∀ l, H l = none → Q (.ref l) (upd H l (.lst ys))) (tCons te tNil)) σ H ds := fun H1 e Q q =>
  h H1 e _ fun H2 e2 => by
    rcases hd with hd | hd
    · cases hd with
      | @lst p ys _ hs ha =>
        refine ⟨p, ys, rfl, .inl (Evl.ex_l (w_sub.trans (e.trans e2)) hs), fun r hr => ?_⟩
        exact q r _ (Evl.fresh_back e2 hr) (e2.trans (Ex.new hr)) (gr_new (hid_ex (e.trans e2) hL) hr (ha.up (w_ex (e.trans e2))))
    · cases hd with
      | @tup p ys _ hs ha =>
        refine ⟨p, ys, rfl, .inr (Evl.ex_t (w_sub.trans (e.trans e2)) hs), fun r hr => ?_⟩
        exact q r _ (Evl.fresh_back e2 hr) (e2.trans (Ex.new hr)) (gr_new (hid_ex (e.trans e2) hL) hr (ha.up (w_ex (e.trans e2))))
end
end U

set_option Elab.async false
set_option linter.all false
set_option maxRecDepth 100000
set_option maxHeartbeats 4000000
namespace U
open PySem PySem.Spec PyProof.Rows L2
open Evl (Ex)
/-! ### own +, raise X(), a class of two at once -/
/-- one + other of two instances of the class at C, by what its own method promises: a reference -/
def tOwn (C : Addr) (sp : Sp) (E : L2.St → XK) (ta tb : TE) : TE := fun σ H Q => ta σ H fun x H1 => tb σ H1 fun y H2 => ∃ a b dx dy fs gs, x = .ref a ∧ y = .ref b ∧ H2 a = some (.ins C dx fs) ∧ H2 b = some (.ins C dy gs) ∧
  sp [.ref a, .ref b] H2 (fun v H' => ∃ r, v = .ref r ∧ Q (.ref r) H') (E σ)
section
variable {X : Cx} {CX : CXT} {n : Nat} {f C : Addr} {fd : FuncData} {ps : List Str} {sp : Sp} {E : L2.St → XK} {a b : Expr} {ta tb : TE} {pos : Pos} {op : Operator}
theorem pe_own (F : FnOk X.prog X.w X.K X.mg X.base CX n f fd ps sp) (hr : Room n X.A) (hs : PySem.W.findIn X.K (.ref C) (PySem.dunder op.info.2) = some (some (.ref f))) (hf : PySem.W.isFn X.K (.ref f) = true) (hc : PySem.W.selfFirst X.K C = true)
    (hb : Binds X.K fd ps []) (hx : ∀ σ, PassesAt CX X σ (E σ)) (ha : PE X a ta) (hb2 : PE X b tb) : PE X (.BinOp a op b pos) (tOwn C sp E ta tb) := by
  refine ⟨fun pins s σ H Q I h => wpAny_BinOp (binT (R := fun x y H2 => ∃ a b dx dy fs gs, x = .ref a ∧ y = .ref b ∧ H2 a = some (.ins C dx fs) ∧ H2 b = some (.ins C dy gs) ∧ sp [.ref a, .ref b] H2 (fun v H' => ∃ r, v = .ref r ∧ Q (.ref r) H') (E σ)) ha hb2 I h fun v u s2 x y H2 I2 rx ry q => ?_)⟩
  obtain ⟨p, r, dx, dy, fs, gs, rfl, rfl, hp, hr2, hsp⟩ := q
  cases rx
  cases ry
  obtain ⟨mA, J, _⟩ := ins_get I2.hok hp
  obtain ⟨mB, J', _⟩ := ins_get I2.hok hr2
  obtain ⟨od, J, _⟩ := J.look
  obtain ⟨od', J', _⟩ := J'.look
  obtain ⟨m, hF⟩ := I2.fr
  refine PySem.W.binop_K (C := C) hF I2.ok.mod.kin J J'.type hc hs hf ?_
  have r2 : Vals [V.ref p, V.ref r] [Value.ref p, Value.ref r] := .cons rfl (.cons rfl .nil)
  refine wpAny_mono (run_fnS F hr hb (hx σ) I2 r2 hsp) (fun r s' z => ?_) fun _ _ x => x
  obtain ⟨v, H', I', rv, t, rfl, q⟩ := z
  cases rv
  exact ⟨V.ref t, H', I', rfl, q⟩
/-- X() of an own class of errors without __init__ -/
theorem pmk_own0 {bmB : List Value} {B newId initId : String} {x : Str} {p : Pos} (F : ExcBaseFacts B newId initId bmB) (q : PySem.W.excIn X.K C bmB newId = true) (gC : X.mg x = some (.ref C)) (kC : PySem.W.keepIn X.K (.ref C) = true) (r : Raises X (.ref C)) (hg : Gl X x)
    (hdb : (x == ("__debug__" : Str)) = false := by decide) : PMk X (.Call (.Name x p) [] [] pos) (fun _ H Q => Q (.ref C) none H) := by
  intro pins s σ H Q I h
  refine wpAny_Call_Name_kw (ld_glob I hg gC ?_ hdb)
  refine PySem.W.callWith_K0 I.kIn kC ?_
  show wpAny _ _ (call (.ref C) []) _ _ _
  obtain ⟨bm, N, nm, qn, bs, hdct, sn, sub, ab, col, dd, k0, k1, k2, k3, k5, mN, hC, hN, hni, T⟩ := exc_obj I.kIn q
  refine wpAny_call_exc_subT F T hC hN hni (fun h' e hm => ?_) (by show 0 ≤ sizeLine; exact Nat.zero_le _)
  exact mk_of I hm r h (I.hok.gone hm.new)
/-- x[i] of a list or a tuple -/
def rIxA (K : PySem.W.Frag) : R2 := fun x y H Q => rIxL K x y H Q ∨ rIxT K x y H Q
theorem ix_seq : IxR X (rIxA X.K) := IxR.or ix_list ix_tup
end
section
variable {K : PySem.W.Frag} {σ : L2.St} {H : Hp} {te ta tb tc : TE} {x y z : V} {r r' : R2} {a : Addr} {xs : List V} {v : V} {i : Int}
theorem ev_ixA (h : Evl.Ev te σ H (.ref a)) (hx : SqL K H a xs ∨ SqT K H a xs) (hv : atI xs i = some v) : Evl.Ev (tOp (rIxA K) te (tC (.int i))) σ H v := fun H1 e Q q =>
  h H1 e _ fun H2 e2 => by
    show rIxA K (.ref a) (.int i) H2 Q
    rcases hx with hx | hx
    · exact .inl ⟨a, xs, i, v, rfl, rfl, Evl.ex_l (e.trans e2) hx, hv, q H2 e2⟩
    · exact .inr ⟨a, xs, i, v, rfl, rfl, Evl.ex_t (e.trans e2) hx, hv, q H2 e2⟩
/-- a op b op c -/
theorem ev_chain {k l : Bool} (ha : Evl.Ev ta σ H x) (hb : Evl.Ev tb σ H y) (hr : Evl.RV r x y H (.bl k)) (hc : k = true → Evl.Ev tc σ H z) (hr2 : k = true → Evl.RV r' y z H (.bl l)) (hl : k = false → l = false) : Evl.Ev (tChain r r' ta tb tc) σ H (.bl l) := fun H1 e1 Q q =>
  ha H1 e1 _ fun H2 e2 => hb H2 (e1.trans e2) _ fun H3 e3 => hr H3 ((e1.trans e2).trans e3) _ fun H4 e4 => ⟨k, rfl, by
    cases k with
    | true =>
      rw [if_pos rfl]
      exact hc rfl H4 (((e1.trans e2).trans e3).trans e4) _ fun H5 e5 => hr2 rfl H5 ((((e1.trans e2).trans e3).trans e4).trans e5) Q fun H6 e6 => q H6 (((e2.trans e3).trans e4).trans (e5.trans e6))
    | false =>
      rw [if_neg (by simp)]
      rw [hl rfl] at q
      exact q H4 ((e2.trans e3).trans e4)⟩
/-- [True or False for x in a list or a tuple of data] -/
theorem el_seqB {tl : TE} {ds : List PyData} {f : PyData → Bool} {j : Nat} {vs : List Nat} (h : Evl.Ev tl σ H (.ref a)) (hx : SqL K H a xs ∨ SqT K H a xs) (hd : DpAll K H xs ds) (hz : ds.length ≤ 40000) (hw : ∀ x, wipe ((wipe σ vs).set j (some x)) vs = wipe σ vs)
    (he : ∀ (x : V) d H1, d ∈ ds → Ex H H1 → Dp K H1 x d → Evl.Ev te ((wipe σ vs).set j (some x)) H1 (.bl (f d))) : Evl.EvL (tLc (iSeq K tl) (gName j) tYes te vs) σ H ((ds.map f).map V.bl) := fun H0 e0 Q q => h H0 e0 _ fun H1 e1 => by
  have hlen := dpa_len hd
  let w : Nat → V := fun i => .bl (f (ds.getD i .none))
  have turn : ∀ (Dl : Addr) (i : Nat) (x : V) (H2 H3 : Hp), i < xs.length → Cm H1 w Dl i H2 → YAt xs i H2 x H3 → gName j x (wipe σ vs) H3 fun σ2 H2 => wipe σ2 vs = wipe σ vs ∧ tYes σ2 H2 fun b H3 =>
      if b = true then te σ2 H3 fun y H4 => ∃ acc, H4 Dl = some (.lst acc) ∧ acc.length < sizeLine ∧ Cm H1 w Dl (i + 1) (upd H4 Dl (.lst (acc ++ [y]))) else Cm H1 w Dl (i + 1) H3 := by
    intro Dl i x H2 H3 hi p yp
    obtain ⟨rfl, hu⟩ := yp
    obtain ⟨d, hd1, hd2⟩ := dpa_get hd hu
    refine ⟨hw x, ?_⟩
    refine yes_lc (A := fun H3 => te ((wipe σ vs).set j (some x)) H3 fun y H4 => ∃ acc, H4 Dl = some (.lst acc) ∧ acc.length < sizeLine ∧ Cm H1 w Dl (i + 1) (upd H4 Dl (.lst (acc ++ [y])))) (B := fun H3 => Cm H1 w Dl (i + 1) H3) ?_
    have ew : w i = .bl (f d) := by
      show V.bl (f (ds.getD i .none)) = _
      rw [List.getD_eq_getElem?_getD, hd1]
      rfl
    refine cm_turn p (by omega) _ (Ex.refl _) ?_
    rw [ew]
    exact he x d _ (List.mem_of_getElem? hd1) (e0.trans e1) (hd2.up (e0.trans e1))
  have fin : ∀ Dl H2, Cm H1 w Dl xs.length H2 → Q (.ref Dl) H2 := fun Dl H2 p => by
    refine q Dl H2 (Evl.fresh_back e1 p.1) (e1.trans p.2.1) ?_
    rw [p.2.2, hlen]
    congr 2
    apply List.ext_getElem
    · simp
    · intro i h1 h2
      have h3 : i < ds.length := by simpa using h1
      simp [w, h3]
  refine ⟨a, rfl, ?_⟩
  rcases hx with x1 | x1
  · refine .inl ⟨⟨xs, Evl.ex_l (e0.trans e1) x1⟩, fun Dl hD => ?_⟩
    exact lc_it (walk_list (xs := xs)) (Cm H1 w Dl) (cm_0 hD) (fun i H2 _ p => Evl.ex_l ((e0.trans e1).trans p.2.1) x1) (fun i x H2 H3 hi p y => turn Dl i x H2 H3 hi p y) (fun H2 p => fin Dl H2 p)
  · refine .inr ⟨⟨xs, Evl.ex_t (e0.trans e1) x1⟩, fun Dl hD => ?_⟩
    exact lc_it (walk_tup (xs := xs)) (Cm H1 w Dl) (cm_0 hD) (fun i H2 _ p => Evl.ex_t ((e0.trans e1).trans p.2.1) x1) (fun i x H2 H3 hi p y => turn Dl i x H2 H3 hi p y) (fun H2 p => fin Dl H2 p)
theorem el_seqBq {tl : TE} {ds : List PyData} {f : PyData → Bool} {j : Nat} {vs : List Nat} (h : Evl.Ev tl σ H (.ref a)) (hx : SqL K H a xs ∨ SqT K H a xs) (hd : DqAll K H xs ds) (hz : ds.length ≤ 40000) (hw : ∀ x, wipe ((wipe σ vs).set j (some x)) vs = wipe σ vs)
    (he : ∀ (x : V) d H1, d ∈ ds → Ex H H1 → Dq K H1 x d → Evl.Ev te ((wipe σ vs).set j (some x)) H1 (.bl (f d))) : Evl.EvL (tLc (iSeq K tl) (gName j) tYes te vs) σ H ((ds.map f).map V.bl) := fun H0 e0 Q q => h H0 e0 _ fun H1 e1 => by
  have hlen := dqa_len hd
  let w : Nat → V := fun i => .bl (f (ds.getD i .none))
  have turn : ∀ (Dl : Addr) (i : Nat) (x : V) (H2 H3 : Hp), i < xs.length → Cm H1 w Dl i H2 → YAt xs i H2 x H3 → gName j x (wipe σ vs) H3 fun σ2 H2 => wipe σ2 vs = wipe σ vs ∧ tYes σ2 H2 fun b H3 =>
      if b = true then te σ2 H3 fun y H4 => ∃ acc, H4 Dl = some (.lst acc) ∧ acc.length < sizeLine ∧ Cm H1 w Dl (i + 1) (upd H4 Dl (.lst (acc ++ [y]))) else Cm H1 w Dl (i + 1) H3 := by
    intro Dl i x H2 H3 hi p yp
    obtain ⟨rfl, hu⟩ := yp
    obtain ⟨d, hd1, hd2⟩ := dqa_get hd hu
    refine ⟨hw x, ?_⟩
    refine yes_lc (A := fun H3 => te ((wipe σ vs).set j (some x)) H3 fun y H4 => ∃ acc, H4 Dl = some (.lst acc) ∧ acc.length < sizeLine ∧ Cm H1 w Dl (i + 1) (upd H4 Dl (.lst (acc ++ [y])))) (B := fun H3 => Cm H1 w Dl (i + 1) H3) ?_
    have ew : w i = .bl (f d) := by
      show V.bl (f (ds.getD i .none)) = _
      rw [List.getD_eq_getElem?_getD, hd1]
      rfl
    refine cm_turn p (by omega) _ (Ex.refl _) ?_
    rw [ew]
    exact he x d _ (List.mem_of_getElem? hd1) (e0.trans e1) (hd2.up (e0.trans e1))
  have fin : ∀ Dl H2, Cm H1 w Dl xs.length H2 → Q (.ref Dl) H2 := fun Dl H2 p => by
    refine q Dl H2 (Evl.fresh_back e1 p.1) (e1.trans p.2.1) ?_
    rw [p.2.2, hlen]
    congr 2
    apply List.ext_getElem
    · simp
    · intro i h1 h2
      have h3 : i < ds.length := by simpa using h1
      simp [w, h3]
  refine ⟨a, rfl, ?_⟩
  rcases hx with x1 | x1
  · refine .inl ⟨⟨xs, Evl.ex_l (e0.trans e1) x1⟩, fun Dl hD => ?_⟩
    exact lc_it (walk_list (xs := xs)) (Cm H1 w Dl) (cm_0 hD) (fun i H2 _ p => Evl.ex_l ((e0.trans e1).trans p.2.1) x1) (fun i x H2 H3 hi p y => turn Dl i x H2 H3 hi p y) (fun H2 p => fin Dl H2 p)
  · refine .inr ⟨⟨xs, Evl.ex_t (e0.trans e1) x1⟩, fun Dl hD => ?_⟩
    exact lc_it (walk_tup (xs := xs)) (Cm H1 w Dl) (cm_0 hD) (fun i H2 _ p => Evl.ex_t ((e0.trans e1).trans p.2.1) x1) (fun i x H2 H3 hi p y => turn Dl i x H2 H3 hi p y) (fun H2 p => fin Dl H2 p)
theorem fits_len {ds : List PyData} (h : (∃ n, fits n (.list ds)) ∨ ∃ n, fits n (.tuple ds)) : ds.length ≤ 40000 := by
  rcases h with ⟨n, h⟩ | ⟨n, h⟩ <;>
  · cases n with
    | zero => exact h.elim
    | succ n => exact h.1
theorem fits_in {ds : List PyData} {d : PyData} (h : (∃ n, fits n (.list ds)) ∨ ∃ n, fits n (.tuple ds)) (hd : d ∈ ds) : ∃ n, fits n d := by
  rcases h with ⟨n, h⟩ | ⟨n, h⟩ <;>
  · cases n with
    | zero => exact h.elim
    | succ n => exact ⟨n, h.2 d hd⟩
/-- a field of an instance -/
theorem ev_fld {C dx : Addr} {fs : List (Str × V)} {f : Str} (h : Evl.Ev te σ H (.ref a)) (ha : H a = some (.ins C dx fs)) (c : Cls K C) (n : NoAttr K C f) (hv : fs.lookup f = some v) : Evl.Ev (tFld K te f) σ H v := fun H1 e Q q =>
  h H1 e _ fun H2 e2 => ⟨a, C, dx, fs, v, rfl, (e.trans e2) a _ ha, c, n, hv, q H2 e2⟩
end
end U

set_option Elab.async false
set_option linter.all false
set_option maxRecDepth 100000
set_option maxHeartbeats 4000000
/-! operators of two own classes, ~ of an own one, one rule of several -/
namespace UO
open PySem PySem.W PySem.Calls PyProof.Rows
section
variable {prog : Program} {w : World} {A : Around} {E : Value → Shared → Prop} {s : Shared} {K : Frag} {x C1 C2 L f g : Addr} {h₀ : Heap} {m : Str → Option Value} {ox : Obj} {od : Option Obj} {op : Operator} {b : Value} {Q : Value → Shared → Prop}
theorem binop2 (F : Fr h₀ L s.heap m) (X₀ : K.In h₀) (I : InstAt s.heap x ox C1 od) (hb : Looks (model prog w) s.heap (typeOf b) (.ref C2)) (ne : C1 ≠ C2) (c1 : selfFirst K C1 = true) (c2 : selfFirst K C2 = true)
    (s1 : findIn K (.ref C1) (PySem.dunder op.info.2) = some (some (.ref f))) (f1 : isFn K (.ref f) = true) (s2 : findIn K (.ref C2) (PySem.dunder op.info.2) = some (some (.ref g))) (r1 : findIn K (.ref C1) (dunderR op.info.2) = some none) (r2 : findIn K (.ref C2) (dunderR op.info.2) = some none)
    (hsub : subIn K (.ref C2) (.ref C1) = some false) (h : wpAny (model prog w) A (call (.ref f) [.ref x, b]) (PySem.W.CmpBack Q) E s) : wpAny (model prog w) A (binaryOp op (.ref x) b) Q E s := by
  have X := X₀.keeps F.keep
  obtain ⟨d1, t1, e1, m1⟩ := ksp_first c1
  obtain ⟨d2, t2, e2, m2⟩ := ksp_first c2
  rcases hi : op.info with ⟨sym, nm⟩
  rw [hi] at s1 s2 r1 r2
  dsimp only at s1 s2 r1 r2
  have one := ksp_try X I s1 f1 h
  obtain ⟨hh, g1, d, tt, os⟩ := s
  have T1 : Looks (model prog w) hh (typeOf (.ref x)) (.ref C1) := I.type
  have T2 : Looks (model prog w) hh (typeOf b) (.ref C2) := hb
  have N1 : Looks (model prog w) hh (fillsNumberSlot (.ref C1) nm) true := fills_K X e1 m1 s1
  have N2 : Looks (model prog w) hh (fillsNumberSlot (.ref C2) nm) true := fills_K X e2 m2 s2
  have S1 : Looks (model prog w) hh (isSubtype (.ref C2) (.ref C1)) false := looks_subIn X hsub
  have P1 : Looks (model prog w) hh (numberSlotInPython (.ref C1) nm) true := ksp_inPy X s1 r1 (.inl rfl)
  have P2 : Looks (model prog w) hh (numberSlotInPython (.ref C2) nm) true := ksp_inPy X s2 r2 (.inl rfl)
  have hne : (Value.ref C1 == Value.ref C2) = false := Bool.eq_false_iff.mpr fun q => ne (by cases beq_iff_eq.mp q; rfl)
  simp only [binaryOp, hi]
  refine wpAny_holding (wpAny_bind ?_)
  unfold binaryOp1
  refine wpAny_bind (T1.at (wpAny_bind (T2.at (wpAny_bind (N1.at ?_)))))
  simp only [hne, Bool.false_eq_true, if_false]
  ksp_lk
  refine wpAny_mono one (fun r s' hr' => ?_) fun _ _ e => e
  obtain ⟨v, rfl, hq⟩ := hr'
  ksp_lk
  exact hq
end
end UO
namespace U
open PySem PySem.Spec PyProof.Rows L2
open Evl (Ex)
section
variable {X : Cx} {e a b : Expr} {ta tb : TE} {n : Nat} {pos : Pos} {op : Operator} {sp : Sp} {C C1 C2 f g : Addr} {fd : FuncData} {ps : List Str}
/-- one of several readings -/
def tAny {ι : Type} (P : ι → Prop) (t : ι → TE) : TE := fun σ H Q => ∃ i, P i ∧ t i σ H Q
theorem pe_any {ι : Type} {P : ι → Prop} {t : ι → TE} (h : ∀ i, P i → PE X e (t i)) : PE X e (tAny P t) := ⟨fun pins s σ H Q I ⟨i, hi, q⟩ => (h i hi).run pins s σ H Q I q⟩
/-- one op other of instances of two classes -/
def tOwn2 (C1 C2 : Addr) (sp : Sp) (ta tb : TE) : TE := fun σ H Q => ta σ H fun x H1 => tb σ H1 fun y H2 => ∃ a b dx dy fs gs, x = .ref a ∧ y = .ref b ∧ H2 a = some (.ins C1 dx fs) ∧ H2 b = some (.ins C2 dy gs) ∧
  sp [.ref a, .ref b] H2 (fun v H' => ∃ r, v = .ref r ∧ Q (.ref r) H') E0
structure OpC (K : PySem.W.Frag) (C : Addr) (nm : Str) (nr : Str) (f : Addr) : Prop where
  sf : PySem.W.selfFirst K C = true
  hs : PySem.W.findIn K (.ref C) nm = some (some (.ref f))
  hf : PySem.W.isFn K (.ref f) = true
  hr : PySem.W.findIn K (.ref C) nr = some none
theorem pe_own2 (F : FnOk X.prog X.w X.K X.mg X.base CX0 n f fd ps sp) (hr : Room n X.A) (o1 : OpC X.K C1 (PySem.dunder op.info.2) (dunderR op.info.2) f) (o2 : OpC X.K C2 (PySem.dunder op.info.2) (dunderR op.info.2) g) (hsub : C1 = C2 ∨ PySem.W.subIn X.K (.ref C2) (.ref C1) = some false)
    (hb : Binds X.K fd ps []) (ha : PE X a ta) (hb2 : PE X b tb) : PE X (.BinOp a op b pos) (tOwn2 C1 C2 sp ta tb) := by
  refine ⟨fun pins s σ H Q I h => wpAny_BinOp (binT (R := fun x y H2 => ∃ a b dx dy fs gs, x = .ref a ∧ y = .ref b ∧ H2 a = some (.ins C1 dx fs) ∧ H2 b = some (.ins C2 dy gs) ∧ sp [.ref a, .ref b] H2 (fun v H' => ∃ r, v = .ref r ∧ Q (.ref r) H') E0) ha hb2 I h fun v u s2 x y H2 I2 rx ry q => ?_)⟩
  obtain ⟨p, r, dx, dy, fs, gs, rfl, rfl, hp, hr2, hsp⟩ := q
  cases rx
  cases ry
  obtain ⟨mA, J, _⟩ := ins_get I2.hok hp
  obtain ⟨mB, J', _⟩ := ins_get I2.hok hr2
  obtain ⟨od, J, _⟩ := J.look
  obtain ⟨od', J', _⟩ := J'.look
  obtain ⟨m, hF⟩ := I2.fr
  have r2 : Vals [V.ref p, V.ref r] [Value.ref p, Value.ref r] := .cons rfl (.cons rfl .nil)
  have run : wpAny (model X.prog X.w) X.A (call (.ref f) [Value.ref p, .ref r]) (PySem.W.CmpBack (EP X pins σ Q)) X.xe s2 := by
    refine wpAny_mono (run_fn F hr hb .nil pass0 I2 r2 hsp) (fun r s' z => ?_) fun _ _ x => x
    obtain ⟨v, H', I', rv, t, rfl, q⟩ := z
    cases rv
    exact ⟨V.ref t, H', I', rfl, q⟩
  by_cases e : C1 = C2
  · subst e
    exact PySem.W.binop_K (C := C1) hF I2.ok.mod.kin J J'.type o1.sf o1.hs o1.hf run
  · exact UO.binop2 hF I2.ok.mod.kin J J'.type e o1.sf o2.sf o1.hs o1.hf o2.hs o1.hr o2.hr (hsub.resolve_left e) run
/-- ~x of an instance -/
def tInv (C : Addr) (sp : Sp) (ta : TE) : TE := fun σ H Q => ta σ H fun x H1 => ∃ a dx fs, x = .ref a ∧ H1 a = some (.ins C dx fs) ∧ sp [.ref a] H1 Q E0
theorem pe_inv (F : FnOk X.prog X.w X.K X.mg X.base CX0 n f fd ps sp) (hr : Room n X.A) (hs : PySem.W.findIn X.K (.ref C) "__invert__" = some (some (.ref f))) (hf : PySem.W.isFn X.K (.ref f) = true) (hb : Binds X.K fd ps []) (ha : PE X a ta) : PE X (.UnaryOp .Invert a pos) (tInv C sp ta) := by
  refine ⟨fun pins s σ H Q I h => ?_⟩
  refine wpAny_UnaryOp (thn (ha.run pins s σ H _ I h) fun v s1 ⟨x, H1, I1, r1, q1⟩ => ?_)
  obtain ⟨p, dx, fs, rfl, hp, hsp⟩ := q1
  cases r1
  obtain ⟨mA, J, _⟩ := ins_get I1.hok hp
  obtain ⟨od, J, _⟩ := J.look
  obtain ⟨m, hF⟩ := I1.fr
  refine PySem.W.ksp_inv hF I1.ok.mod.kin J hs hf ?_
  exact run_fn F hr hb .nil pass0 I1 (show Vals [V.ref p] [Value.ref p] from .cons rfl .nil) hsp
end
end U

set_option Elab.async false
set_option linter.all false
set_option maxRecDepth 100000
set_option maxHeartbeats 2000000
/-! == and != by an own __eq__, against any value: at the library's level -/
namespace OQ
open PySem PySem.W PyProof.Rows
section
variable {prog : Program} {w : World} {A : Around} {E : Value → Shared → Prop} {s : Shared} {K : Frag} {x C L f : Addr} {h0 : Heap} {m : Str → Option Value} {ox : Obj} {od : Option Obj} {b tb : Value}
theorem chk_slot {id owner n : String} {rest : List Value} {Q : Unit → Shared → Prop} (hk : builtinKind id = some .slot) (hs : splitId id = some (owner, n)) (ha : argsOk id ⟨.ref x :: rest, []⟩)
    (X : K.In s.heap) (I : InstAt s.heap x ox C od) (hsub : subIn K (.ref C) (.type owner) = some true) (hq : Q () s) : wpAny (model prog w) A (checkBuiltinCall id ⟨.ref x :: rest, []⟩) Q E s := by
  simp only [checkBuiltinCall, hk, hs]
  refine wpAny_bind ?_
  unfold isInstance
  refine wpAny_bind (I.type.here ?_)
  refine (looks_subIn X hsub).here ?_
  rw [if_neg (show ¬ ((!true) = true) from Bool.false_ne_true)]
  cases hsig : Manifest.signature? id with
  | none => exact wpAny_pure hq
  | some sig =>
    simp only [argsOk, hsig] at ha
    have h2 : Bind.checkArgs id sig ⟨.ref x :: rest, []⟩ = pure () := ha
    show wpAny _ A (Bind.checkArgs id sig ⟨.ref x :: rest, []⟩) Q E s
    rw [h2]
    exact wpAny_pure hq
/-- a built-in slot that an own class inherits -/
theorem ifBound_blt {id : String} {name : Str} {args : List Value} {Q : Option Value → Shared → Prop} (X : K.In s.heap) (I : InstAt s.heap x ox C od) (hs : findIn K (.ref C) name = some (some (.builtin id))) (hb : ∀ self, bindSpecial (.builtin id) self = pure (.builtin id, [self]))
    (h : wpAny (model prog w) A (call (.builtin id) (.ref x :: args)) (fun v => Q (some v)) E s) : wpAny (model prog w) A (callSpecialIfBound? (.ref x) name args) Q E s := by
  simp only [callSpecialIfBound?, bindSpecialIfBound?]
  refine wpAny_holding (wpAny_bind (wpAny_bind (wpAny_bind (I.type.here ((looks_findIn X hs).here ?_)))))
  simp only [hb]
  have fin : wpAny (model prog w) A (call (.builtin id) ([.ref x] ++ args) >>= fun v => pure (some v)) Q E s := wpAny_bind (wpAny_mono h (fun v s' h' => wpAny_pure h') fun _ _ h' => h')
  refine wpAny_bind (wpAny_askSetting (wpAny_ite ?_))
  split
  · exact wpAny_bind (wpAny_pure (wpAny_pure fin))
  · exact wpAny_tryCatch (wpAny_bind (wpAny_pure (wpAny_pure fin)))
theorem objNe {Q : Fin → Shared → Prop} (hu : A.units < cLine) (X : K.In s.heap) (I : InstAt s.heap x ox C od) (he : findIn K (.ref C) "__eq__" = some (some (.ref f))) (hf : isFn K (.ref f) = true)
    (h : wpAny (model prog w) A (call (.ref f) [.ref x, b]) (fun v s' => ∃ r, v = .bool r ∧ Q (.done (.ret (.bool (!r)))) s') E s) : wpAny (model prog w) A (Builtin.«object.__ne__» ⟨[.ref x, b], []⟩) Q E s := by
  unfold Builtin.«object.__ne__»
  show wpAny _ A (cRoomFor "comparison" [.ref x, b] >>= _) _ _ s
  refine wpAny_bind (wpAny_cRoomFor hu ?_)
  refine wpAny_bind (m := callSpecialIfBound? (.ref x) (Str.ofString "__eq__") [b]) (ifBound_K X I he hf (wpAny_mono h (fun v s' q => ?_) fun _ _ e => e))
  obtain ⟨r, rfl, q⟩ := q
  show wpAny _ A (truthy (.bool r) >>= _) _ _ s'
  exact wpAny_bind (wpAny_truthy_bool (wpAny_pure q))
theorem ne_K {Q : Value → Shared → Prop} (hu : A.units + 1 < cLine) (FR : Fr h0 L s.heap m) (X0 : K.In h0) (I : InstAt s.heap x ox C od) (hb : Looks (model prog w) s.heap (typeOf b) tb) (hn : notFirst K C tb = true)
    (hne : findIn K (.ref C) "__ne__" = some (some (.builtin "object.__ne__"))) (hsub : subIn K (.ref C) (.type "object") = some true) (he : findIn K (.ref C) "__eq__" = some (some (.ref f))) (hf : isFn K (.ref f) = true)
    (h : wpAny (model prog w) A.in1 (call (.ref f) [.ref x, b]) (fun v s' => ∃ r, v = .bool r ∧ Q (.bool (!r)) s') E s) : wpAny (model prog w) A (richCompare .NotEq (.ref x) b) Q E s := by
  have X := X0.keeps FR.keep
  have hu0 : A.units < cLine := Nat.lt_of_succ_lt hu
  have one : wpAny (model prog w) A (tryCompare (.ref x) (cmpInfo .NotEq).2.1 b) (fun r s' => ∃ v, r = some v ∧ Q v s') E s := by
    unfold tryCompare
    refine wpAny_bind (ifBound_blt X I hne F.slot_zip_ne.bind ?_)
    refine wpAny_call (codeAny_call_builtin F.slot_zip_ne.plain F.cmpEntry_ne (chk_slot F.cmpKind_ne F.cmpSplit_ne (F.cmpArgs_ne _ _) X I hsub ?_))
    refine objNe (A := A.in1) hu X I he hf (wpAny_mono h (fun v s' q => ?_) fun _ _ e => e)
    obtain ⟨r, rfl, q⟩ := q
    exact ⟨r, rfl, wpAny_pure ⟨_, rfl, q⟩⟩
  unfold richCompare
  simp only [oneThing_ref]
  refine wpAny_holding (wpAny_bind (wpAny_cRoomFor hu0 ?_))
  refine wpAny_bind (I.type.here (wpAny_bind (hb.here ?_)))
  split
  · rename_i q
    have e : subIn K tb (.ref C) = some false := by
      rcases Bool.or_eq_true_iff.mp hn with e | e
      · rw [beq_iff_eq.mp e] at q; simp at q
      · exact beq_iff_eq.mp e
    refine wpAny_bind ((looks_subIn X e).here ?_)
    simp only [Bool.false_eq_true, if_false]
    refine wpAny_bind (wpAny_mono one (fun r s' z => ?_) fun _ _ e => e)
    obtain ⟨v, rfl, hq⟩ := z
    exact wpAny_pure hq
  · refine wpAny_bind (wpAny_pure ?_)
    simp only [Bool.false_eq_true, if_false]
    refine wpAny_bind (wpAny_mono one (fun r s' z => ?_) fun _ _ e => e)
    obtain ⟨v, rfl, hq⟩ := z
    exact wpAny_pure hq
end
end OQ

set_option Elab.async false
set_option linter.all false
set_option maxRecDepth 100000
set_option maxHeartbeats 2000000
/-! == and != of an instance by its own __eq__, against any value -/
namespace U
open PySem PySem.Spec PyProof.Rows L2
open Evl (Ex)
section
variable {X : Cx} {n : Nat} {sp : Sp} {C f : Addr} {fd : FuncData} {ps : List Str}
/-- a def called somewhere below the running body -/
theorem run_sub {A : Around} {pins : List (Addr × Obj)} {σ : L2.St} {H : Hp} {s : Shared} {Q : VK} {us : List Value} {vs : List V} (F : FnOk X.prog X.w X.K X.mg X.base CX0 n f fd ps sp) (sb : Sub X n A) (hb : Binds X.K fd ps []) (I : Inv X pins σ H s) (r : Vals vs us) (h : sp vs H Q E0) :
    wpAny (model X.prog X.w) A (call (.ref f) us) (EP X pins σ Q) X.xe s := by
  have e0 : Env0 X.prog X.w X.K X.mg X.base A X.stack s H := by
    have e := I.env0
    exact ⟨by rw [sb.fr]; exact e.frames, e.mod, e.bs, e.bsz, e.funs, e.frf, e.hok, e.bare⟩
  have hl := F.len _ _ _ _ h
  refine wpAny_call (codeAny_mono (F.run A X.stack s H ⟨us, []⟩ us vs _ E0 sb.room e0 (by
    have := hb s us I.kIn (by rw [List.append_nil, ← r.length]; exact hl)
    simpa using this) r h) fun r s' hq => ?_)
  cases r with
  | error e => exact pass0 pins σ H s e s' I hq
  | ok fl =>
    cases fl with
    | ret w => exact I.after hq
    | next => exact False.elim hq
    | brk => exact False.elim hq
    | cont => exact False.elim hq
/-- the own == of a class -/
structure EqC (K : PySem.W.Frag) (C f : Addr) : Prop where
  eq : PySem.W.findIn K (.ref C) "__eq__" = some (some (.ref f))
  fn : PySem.W.isFn K (.ref f) = true
  ne : PySem.W.findIn K (.ref C) "__ne__" = some (some (.builtin "object.__ne__"))
  ob : PySem.W.subIn K (.ref C) (.type "object") = some true
/-- x op y: x of C, y of any type that does not come first; the truth told, or its opposite -/
def rOwnQ (K : PySem.W.Frag) (C : Addr) (sp : Sp) (g : Bool → Bool) : R2 := fun x y H Q => ∃ a dx fs t, x = .ref a ∧ H a = some (.ins C dx fs) ∧ TyX K H y t ∧ PySem.W.notFirst K C t = true ∧ sp [.ref a, y] H (fun v H' => ∃ b, v = .bl b ∧ Q (.bl (g b)) H') E0
theorem op_eqOwn (F : FnOk X.prog X.w X.K X.mg X.base CX0 n f fd ps sp) (hr : Room n X.A) (e : EqC X.K C f) (hb : Binds X.K fd ps []) : OpR X (compareOp .Eq) (rOwnQ X.K C sp id) := by
  intro pins s σ H x y v u Q I rx ry hq
  obtain ⟨a, dx, fs, t, rfl, ha, ty, nf, hsp⟩ := hq
  cases rx
  obtain ⟨mA, J, _⟩ := ins_get I.hok ha
  obtain ⟨od, J, _⟩ := J.look
  obtain ⟨m, hF⟩ := I.fr
  obtain ⟨P, kit, hP, _⟩ := kit_of I ry ty
  show wpAny (model X.prog X.w) X.A (richCompare .Eq (.ref a) u) (EP X pins σ Q) X.xe s
  refine PySem.W.cmp_K (op := .Eq) hr.units0 hF I.ok.mod.kin J (kit.ty _ _ I.kIn hP) nf e.eq e.fn ?_
  refine wpAny_mono (run_fn F hr hb .nil pass0 I (show Vals [V.ref a, y] [Value.ref a, u] from .cons rfl (.cons ry .nil)) hsp) (fun r s' z => ?_) fun _ _ x => x
  obtain ⟨v, H', I', rv, b, rfl, q⟩ := z
  cases rv
  exact ⟨V.bl b, H', I', rfl, q⟩
theorem op_neOwn (F : FnOk X.prog X.w X.K X.mg X.base CX0 n f fd ps sp) (hr : Room (n + 1) X.A) (e : EqC X.K C f) (hb : Binds X.K fd ps []) : OpR X (compareOp .NotEq) (rOwnQ X.K C sp not) := by
  intro pins s σ H x y v u Q I rx ry hq
  obtain ⟨a, dx, fs, t, rfl, ha, ty, nf, hsp⟩ := hq
  cases rx
  obtain ⟨mA, J, _⟩ := ins_get I.hok ha
  obtain ⟨od, J, _⟩ := J.look
  obtain ⟨m, hF⟩ := I.fr
  obtain ⟨P, kit, hP, _⟩ := kit_of I ry ty
  show wpAny (model X.prog X.w) X.A (richCompare .NotEq (.ref a) u) (EP X pins σ Q) X.xe s
  refine OQ.ne_K (Nat.lt_of_le_of_lt (Nat.add_le_add_left (by decide : 1 ≤ 64) _) hr.units) hF I.ok.mod.kin J (kit.ty _ _ I.kIn hP) nf e.ne e.ob e.eq e.fn ?_
  have sb : Sub X n X.A.in1 := (show Sub X (n + 1) X.A from ⟨hr, rfl⟩).in1
  refine wpAny_mono (run_sub F sb hb I (show Vals [V.ref a, y] [Value.ref a, u] from .cons rfl (.cons ry .nil)) hsp) (fun r s' z => ?_) fun _ _ x => x
  obtain ⟨v, H', I', rv, b, rfl, q⟩ := z
  cases rv
  exact ⟨b, rfl, V.bl (!b), H', I', rfl, q⟩
end
section
variable {K : PySem.W.Frag} {C : Addr}
/-- a built-in type does not come first -/
theorem nf_ty {T : String} {l : List Value} (h : fastBuiltinMro T = some l) (h2 : l.contains (.ref C) = false) : PySem.W.notFirst K C (.type T) = true := by
  unfold PySem.W.notFirst
  have : PySem.W.subIn K (.type T) (.ref C) = some false := by
    show (fastBuiltinMro T).map (·.contains (.ref C)) = some false
    rw [h]
    exact congrArg some h2
  rw [this]
  simp
theorem nf_data (d : PyData) : PySem.W.notFirst K C (.type (tyOf d)) = true := by
  cases d with
  | none => exact nf_ty (T := "NoneType") (l := [.type "NoneType", .type "object"]) (by decide +kernel) (by simp)
  | bool _ => exact nf_ty (T := "bool") (l := [.type "bool", .type "int", .type "object"]) (by decide +kernel) (by simp)
  | int _ => exact nf_ty (T := "int") (l := [.type "int", .type "object"]) (by decide +kernel) (by simp)
  | str _ => exact nf_ty (T := "str") (l := [.type "str", .type "object"]) (by decide +kernel) (by simp)
  | list _ => exact nf_ty (T := "list") (l := [.type "list", .type "object"]) (by decide +kernel) (by simp)
  | tuple _ => exact nf_ty (T := "tuple") (l := [.type "tuple", .type "object"]) (by decide +kernel) (by simp)
  | dict _ => exact nf_ty (T := "dict") (l := [.type "dict", .type "object"]) (by decide +kernel) (by simp)
end
end U

set_option Elab.async false
set_option linter.all false
set_option maxRecDepth 100000
set_option maxHeartbeats 4000000
/-! len(o) and x in o by own methods; data in a tuple of data -/
namespace U
open PySem PySem.Spec PyProof.Rows L2
open Evl (Ex)
section
variable {X : Cx} {n : Nat} {sp : Sp} {C f : Addr} {fd : FuncData} {ps : List Str}
/-- an own method found by its special name -/
structure SpM (K : PySem.W.Frag) (C f : Addr) (name : Str) : Prop where
  fi : PySem.W.findIn K (.ref C) name = some (some (.ref f))
  fn : PySem.W.isFn K (.ref f) = true
def rLenO (C : Addr) (sp : Sp) : List V → Hp → VK → Prop := fun xs H Q => ∃ a dx fs, xs = [.ref a] ∧ H a = some (.ins C dx fs) ∧ sp [.ref a] H (fun v H' => ∃ n : Nat, v = .int n ∧ n ≤ 100000 ∧ Q (.int n) H') E0
theorem call_lenO (F : FnOk X.prog X.w X.K X.mg X.base CX0 n f fd ps sp) (hr : Room (n + 1) X.A) (e : SpM X.K C f "__len__") (hb : Binds X.K fd ps []) : CallR X (.builtin "len") (rLenO C sp) := by
  intro pins s σ H xs us Q I r h
  obtain ⟨a, dx, fs, rfl, ha, hsp⟩ := h
  obtain ⟨u, rfl, ru⟩ := vals1 r
  cases ru
  obtain ⟨mA, J, _⟩ := ins_get I.hok ha
  obtain ⟨od, J, _⟩ := J.look
  obtain ⟨m, hF⟩ := I.fr
  refine PySem.W.len_K hF I.ok.mod.kin J e.fi e.fn ?_
  refine wpAny_mono (run_sub F (Sub.in1 ⟨hr, rfl⟩) hb I (show Vals [V.ref a] [Value.ref a] from .cons rfl .nil) hsp) (fun v s' z => ?_) fun _ _ x => x
  obtain ⟨v', H', I', rv, n, rfl, hn, q⟩ := z
  obtain ⟨t, rfl⟩ := rv
  exact ⟨⟨by omega, by omega⟩, .int n, H', I'.tok _, ⟨_, rfl⟩, q⟩
def rInO (C : Addr) (sp : Sp) (g : Bool → Bool) : R2 := fun x y H Q => ∃ a dx fs, y = .ref a ∧ H a = some (.ins C dx fs) ∧ sp [.ref a, x] H (fun v H' => ∃ b, v = .bl b ∧ Q (.bl (g b)) H') E0
theorem op_inO (F : FnOk X.prog X.w X.K X.mg X.base CX0 n f fd ps sp) (hr : Room n X.A) (e : SpM X.K C f "__contains__") (hb : Binds X.K fd ps []) : OpR X (compareOp .In) (rInO C sp id) := by
  intro pins s σ H x y v u Q I rx ry h
  obtain ⟨a, dx, fs, rfl, ha, hsp⟩ := h
  cases ry
  obtain ⟨mA, J, _⟩ := ins_get I.hok ha
  obtain ⟨od, J, _⟩ := J.look
  obtain ⟨m, hF⟩ := I.fr
  refine PySem.W.in_K hF I.ok.mod.kin J e.fi e.fn ?_
  refine wpAny_mono (run_sub F ⟨hr, rfl⟩ hb I (show Vals [V.ref a, x] [Value.ref a, v] from .cons rfl (.cons rx .nil)) hsp) (fun v s' z => ?_) fun _ _ x => x
  obtain ⟨v', H', I', rv, b, rfl, q⟩ := z
  cases rv
  exact wpAny_truthy_bool ⟨.bl b, H', I', rfl, q⟩
theorem op_notInO (F : FnOk X.prog X.w X.K X.mg X.base CX0 n f fd ps sp) (hr : Room n X.A) (e : SpM X.K C f "__contains__") (hb : Binds X.K fd ps []) : OpR X (compareOp .NotIn) (rInO C sp not) := by
  intro pins s σ H x y v u Q I rx ry h
  obtain ⟨a, dx, fs, rfl, ha, hsp⟩ := h
  cases ry
  obtain ⟨mA, J, _⟩ := ins_get I.hok ha
  obtain ⟨od, J, _⟩ := J.look
  obtain ⟨m, hF⟩ := I.fr
  refine PySem.W.notIn_K hF I.ok.mod.kin J e.fi e.fn ?_
  refine wpAny_mono (run_sub F ⟨hr, rfl⟩ hb I (show Vals [V.ref a, x] [Value.ref a, v] from .cons rfl (.cons rx .nil)) hsp) (fun v s' z => ?_) fun _ _ x => x
  obtain ⟨v', H', I', rv, b, rfl, q⟩ := z
  cases rv
  exact wpAny_truthy_bool ⟨.bl (!b), H', I', rfl, q⟩
/-- x in t, data in a tuple of data -/
def rInDT (K : PySem.W.Frag) : R2 := fun x y H Q => ∃ d ds, Dp K H x d ∧ Dp K H y (.tuple ds) ∧ SeqAt.shaped d = true ∧ SeqAt.shaped (.tuple ds) = true ∧ Q (.bl (ds.any fun z => PyData.eqv z d)) H
theorem op_inDT (hu : X.A.units + 65 < cLine) : OpR X (compareOp .In) (rInDT X.K) := by
  intro pins s σ H x y v u Q I rx ry h
  obtain ⟨d, ds, hd, he, sd, se, q⟩ := h
  obtain ⟨as, r1⟩ := Dp.reads I d x v hd rx
  obtain ⟨bs, r2⟩ := Dp.reads I (.tuple ds) y u he ry
  exact SeqAt.in_tuple_reads r2 r1 (SeqAt.canLay_of_shaped se) (SeqAt.canLay_of_shaped sd) (room_in_shaped sd hu) ⟨.bl _, H, I, rfl, q⟩
end
end U

set_option Elab.async false
set_option linter.all false
set_option maxRecDepth 100000
set_option maxHeartbeats 4000000
/-! an own __iter__ that gives a tuple's iterator: walked, and listed -/
namespace U
open PySem PySem.Spec PyProof.Rows L2
open Evl (Ex)
open ItX (dropH dropH_upd inv_drop inv_fp)
/-- a tuple's iterator at its start -/
def tiObj (t : Addr) : Obj := { cls := .type "tuple_iterator", data := .fields #[.ref t, .int 0 0] }
def TiO (t it : Addr) : HO := .ext fun h => h.get? it = some (tiObj t)
theorem tiO_ok {P : Program} {w : World} {H : Hp} {h : Heap} {t it : Addr} (e : h.get? it = some (tiObj t)) : ObjOk P w H h it (TiO t it) := ⟨e, ⟨_, e⟩, fun h1 h2 q k => k _ q⟩
theorem ti_at {h : Heap} {t it : Addr} (e : h.get? it = some (tiObj t)) : h.IsTupleIter it t 0 := ⟨_, e, rfl, rfl⟩
section
variable {prog : Program} {w : World} {A : Around} {E : Value → Shared → Prop} {s : Shared} {t : Addr} {items : Array Value}
theorem call_iterTup {Q : Value → Shared → Prop} (hl : s.heap.IsTuple t items) (h : Q (.ref s.heap.objs.size) { s with heap := s.heap.push (tiObj t) }) : wpAny (model prog w) A (call (.builtin "iter") [.ref t]) Q E s := by
  refine Calls.call_function_entry (by decide +kernel) (by decide +kernel) PySem.W.kdk_entry_iter (PySem.W.kdk_args_iter _) ?_
  unfold Builtin.«iter»
  refine wpAny_bind (m := someArgs "iter" 1 2 _) (wpAny_of_eq (a := [Value.ref t]) (by first | rfl | kernel_rfl!) ?_)
  show wpAny _ _ (pyIter (.ref t) >>= _) _ _ _
  refine wpAny_bind (wpAny_pyIter_tuple hl ?_)
  exact wpAny_pure ⟨_, rfl, h⟩
end
def rIterT (K : PySem.W.Frag) (n : Nat) : List V → Hp → VK → Prop := fun xs H Q => ∃ (t : Addr) (zs : List V), xs = [.ref t] ∧ SqT K H t zs ∧ ∀ it, H it = none → n ≤ it → Q (.ref it) (upd H it (TiO t it))
section
variable {X : Cx}
theorem call_iterT : CallR X (.builtin "iter") (rIterT X.K X.s_0.heap.objs.size) := by
  intro pins s σ H xs us Q I r h
  obtain ⟨t, zs, rfl, hq, q⟩ := h
  obtain ⟨u, rfl, ru⟩ := vals1 r
  cases ru
  obtain ⟨its, rv, pl, hz⟩ := I.tuple hq
  refine call_iterTup (show s.heap.IsTuple t its.toArray from pl) ?_
  exact ⟨.ref s.heap.objs.size, _, I.laid (t' := s.toks) (fun b u e => Heap.get?_push_of_some _ e) (Nat.le_refl _) (tiO_ok (Heap.get?_push_size _ rfl)), rfl, q _ (I.hok.fresh (Nat.le_refl _)) I.sz⟩
end
/-- what the own __iter__ does: called where H stands, it gives a new iterator of the tuple t -/
def IterG (P : Program) (w : World) (K : PySem.W.Frag) (mg : Str → Option Value) (base : Heap) (k : Nat) (C f : Addr) (fld : Str) : Prop :=
  ∀ (A : Around) (outer : List Env) (s : Shared) (H : Hp) (a t dx : Addr) (fs : List (Str × V)) (xs : List V) (Q : VK), Room (k + 1) A → Env0 P w K mg base A outer s H → H a = some (.ins C dx fs) → fs.lookup fld = some (.ref t) → SqT K H t xs →
    (∀ it, H it = none → s.heap.objs.size ≤ it → Q (.ref it) (upd H it (TiO t it))) → codeAny (model P w) A (.call (.ref f) ⟨[.ref a], []⟩) (CR CX0 outer P w H s Q E0) s
section
variable {X : Cx} {k : Nat} {C f : Addr} {fld : Str} {tg : Expr}
theorem iter_run {A : Around} {pins : List (Addr × Obj)} {σ : L2.St} {H : Hp} {s : Shared} {Q : VK} {a t dx : Addr} {fs : List (Str × V)} {xs : List V} (G : IterG X.prog X.w X.K X.mg X.base k C f fld) (sb : Sub X (k + 1) A) (I : Inv X pins σ H s) (ha : H a = some (.ins C dx fs)) (hf : fs.lookup fld = some (.ref t)) (ht : SqT X.K H t xs)
    (q : ∀ it, H it = none → s.heap.objs.size ≤ it → Q (.ref it) (upd H it (TiO t it))) : wpAny (model X.prog X.w) A (call (.ref f) [.ref a]) (EP X pins σ Q) X.xe s := by
  have e0 : Env0 X.prog X.w X.K X.mg X.base A X.stack s H := by
    have e := I.env0
    exact ⟨by rw [sb.fr]; exact e.frames, e.mod, e.bs, e.bsz, e.funs, e.frf, e.hok, e.bare⟩
  refine wpAny_call (codeAny_mono (G A X.stack s H a t dx fs xs Q sb.room e0 ha hf ht q) fun r s' hq => ?_)
  cases r with
  | error e => exact pass0 pins σ H s e s' I hq
  | ok fl =>
    cases fl with
    | ret w => exact I.after hq
    | next => exact False.elim hq
    | brk => exact False.elim hq
    | cont => exact False.elim hq
theorem it_of {M : Model} {A : Around} {E : Value → Shared → Prop} {s : Shared} {Q : Value → Shared → Prop} {it t : Addr} (e : s.heap.get? it = some (tiObj t)) (h : Q (.ref it) s) : PySem.W.OwitIt M A Q E (.ref it) s := by
  unfold PySem.W.OwitIt
  exact wpAny_specialOf (name := Str.ofString "__next__") (show s.TypeIs (.ref it) "tuple_iterator" from ⟨_, e, rfl⟩) PySem.F.slot_tuple_iterator_next.lookup h
/-- an instance, its items those of the tuple that its field holds -/
def iOwn (K : PySem.W.Frag) (C : Addr) (fld : Str) (te : TE) : TI := fun σ H R => te σ H fun x H1 => ∃ a dx fs t xs, x = .ref a ∧ H1 a = some (.ins C dx fs) ∧ fs.lookup fld = some (.ref t) ∧ SqT K H1 t xs ∧ R (Itt K t) H1
theorem pi_own {e : Expr} {te : TE} (G : IterG X.prog X.w X.K X.mg X.base k C f fld) (hr : Room (k + 1) X.A) (m : SpM X.K C f "__iter__") (he : PE X e te) : PI X tg e (iOwn X.K C fld te) := by
  refine ⟨fun pins s σ H R I h => ?_⟩
  refine thn (he.run pins s σ H _ I h) fun v s1 ⟨x, H1, I1, r1, q1⟩ => ?_
  obtain ⟨a, dx, fs, t, xs, rfl, ha, hf, ht, q⟩ := q1
  cases r1
  obtain ⟨mA, J, _⟩ := ins_get I1.hok ha
  obtain ⟨od, J, _⟩ := J.look
  obtain ⟨m1, hF⟩ := I1.fr
  refine PySem.W.owit_iter hF I1.ok.mod.kin J m.fi m.fn ?_
  refine wpAny_mono (iter_run (Q := fun v H' => ∃ it, v = .ref it ∧ H1 it = none ∧ s1.heap.objs.size ≤ it ∧ H' = upd H1 it (TiO t it)) G ⟨hr, rfl⟩ I1 ha hf ht fun it h1 h2 => ⟨it, rfl, h1, h2, rfl⟩) (fun u s2 z => ?_) fun _ _ y => y
  obtain ⟨v, H2, I2, rv, it, rfl, hi, hz, rfl⟩ := z
  cases rv
  have eo : s2.heap.get? it = some (tiObj t) := (I2.hok it _ upd_same).1
  refine it_of eo ?_
  have hd := inv_drop I2 (show upd H1 it (TiO t it) it = some (.ext _) from upd_same)
  rw [dropH_upd hi] at hd
  refine ⟨it, [it], _, _, H1, rfl, hd, turn_tuple t it, ti_at eo, fun b hb => ?_, q⟩
  have e : b = it := by simpa using hb
  rw [e]
  have fp := inv_fp I2 (show upd H1 it (TiO t it) it = some (TiO t it) from upd_same) (Nat.le_trans I1.sz hz)
  rw [dropH_upd hi] at fp
  exact fp
/-! ### list(o) -/
theorem run_sub0 {n : Nat} {sp : Sp} {f : Addr} {fd : FuncData} {ps : List Str} {A : Around} {pins : List (Addr × Obj)} {σ : L2.St} {H : Hp} {s : Shared} {Q : VK} {E : Value → Shared → Prop} {us : List Value} {vs : List V} (F : FnOk X.prog X.w X.K X.mg X.base CX0 n f fd ps sp) (sb : Sub X n A) (hb : Binds X.K fd ps []) (I : Inv X pins σ H s) (r : Vals vs us) (h : sp vs H Q E0) :
    wpAny (model X.prog X.w) A (call (.ref f) us) (EP X pins σ Q) E s := by
  have e0 : Env0 X.prog X.w X.K X.mg X.base A X.stack s H := by
    have e := I.env0
    exact ⟨by rw [sb.fr]; exact e.frames, e.mod, e.bs, e.bsz, e.funs, e.frf, e.hok, e.bare⟩
  have hl := F.len _ _ _ _ h
  refine wpAny_call (codeAny_mono (F.run A X.stack s H ⟨us, []⟩ us vs _ E0 sb.room e0 (by
    have := hb s us I.kIn (by rw [List.append_nil, ← r.length]; exact hl)
    simpa using this) r h) fun r s' hq => ?_)
  cases r with
  | error e => exact (show False from hq).elim
  | ok fl =>
    cases fl with
    | ret w => exact I.after hq
    | next => exact False.elim hq
    | brk => exact False.elim hq
    | cont => exact False.elim hq
theorem len_sub {E : Value → Shared → Prop} {n : Nat} {sp : Sp} {fl a dx : Addr} {fs : List (Str × V)} {fd : FuncData} {ps : List Str} {A : Around} {pins : List (Addr × Obj)} {σ : L2.St} {H : Hp} {s : Shared} {Q : VK} (F : FnOk X.prog X.w X.K X.mg X.base CX0 n fl fd ps sp) (sb : Sub X n A.in1) (e : SpM X.K C fl "__len__") (hb : Binds X.K fd ps []) (I : Inv X pins σ H s)
    (ha : H a = some (.ins C dx fs)) (hsp : sp [.ref a] H (fun v H' => ∃ n : Nat, v = .int n ∧ n ≤ 100000 ∧ Q (.int n) H') E0) : wpAny (model X.prog X.w) A (call (.builtin "len") [.ref a]) (EP X pins σ Q) E s := by
  obtain ⟨mA, J, _⟩ := ins_get I.hok ha
  obtain ⟨od, J, _⟩ := J.look
  obtain ⟨m, hF⟩ := I.fr
  refine PySem.W.len_K hF I.ok.mod.kin J e.fi e.fn ?_
  refine wpAny_mono (run_sub0 F sb hb I (show Vals [V.ref a] [Value.ref a] from .cons rfl .nil) hsp) (fun v s' z => ?_) fun _ _ x => x
  obtain ⟨v', H', I', rv, n, rfl, hn, q⟩ := z
  obtain ⟨t, rfl⟩ := rv
  exact ⟨⟨by omega, by omega⟩, .int n, H', I'.tok _, ⟨_, rfl⟩, q⟩
theorem lenQ {sp : Sp} {a : Addr} {H1 : Hp} {n : Nat} (h : sp [.ref a] H1 (fun v H2 => v = .int (n : Int) ∧ Ex H1 H2) E0) (hz : n ≤ 50000) : sp [.ref a] H1 (fun v H' => ∃ m : Nat, v = .int m ∧ m ≤ 100000 ∧ ((V.int m = .int (n : Int)) ∧ Ex H1 H')) E0 := by
  have e : (fun (v : V) (H' : Hp) => ∃ m : Nat, v = .int m ∧ m ≤ 100000 ∧ ((V.int m = .int (n : Int)) ∧ Ex H1 H')) = fun v H2 => v = .int (n : Int) ∧ Ex H1 H2 := by
    funext v H'
    refine propext ⟨fun ⟨m, h1, h2, h3, h4⟩ => ⟨h1.trans h3, h4⟩, fun ⟨h1, h2⟩ => ⟨n, h1, by omega, rfl, h2⟩⟩
  rw [e]
  exact h
theorem list_loop {A1 : Around} {pins : List (Addr × Obj)} {σ : L2.St} {H : Hp} {S it t : Addr} {xs : List V} {Rs : Result → Shared → Prop} (hd : A1.in1.handled = none) (hz : xs.length ≤ 50000) (hS : H S = none) (ht : SqT X.K H t xs)
    (f0 : H it = none) (fS : it ≠ S) (f1 : it ≠ X.env.locals) (f3 : it ∈ X.ex ∨ X.s_0.heap.objs.size ≤ it) (f4 : ∀ x c, X.env.cells.lookup x = some c → c ≠ it) (f5 : ∀ p ∈ X.pn ++ pins, p.1 ≠ it) (hdone : ∀ s, Inv X pins σ (upd H S (.lst xs)) s → Rs (.ok (.ret .none)) s) :
    ∀ (m i : Nat) (s : Shared), xs.length - i = m → i ≤ xs.length → Inv X pins σ (upd H S (.lst (xs.take i))) s → s.heap.IsTupleIter it t i → codeAny (model X.prog X.w) A1 (.builtin "list.extend.loop" ⟨[.ref S, .ref it, .none], []⟩) Rs s := by
  have hit : upd H S (.lst xs) it = none := by rw [upd_ne fS]; exact f0
  intro m
  induction m with
  | zero =>
    intro i s hm hi I st
    have hie : i = xs.length := by omega
    subst hie
    refine codeAny_builtin PySem.F.entry_extend_loop ?_
    rw [Around.under_plainId PySem.F.plain_extend_loop _]
    show wpAny _ A1.in1 (pyNext (.ref it) >>= _) _ _ s
    have ht' : SqT X.K (upd H S (.lst (xs.take xs.length))) t xs := Evl.ex_t (Ex.new hS) ht
    obtain ⟨its, rv, p, _⟩ := I.tuple ht'
    have hl := rv.length
    refine wpAny_bind (wpAny_pyNext_tuple_end hd st (show s.heap.IsTuple t its.toArray from p) (by simp; omega) fun h' eb => ?_)
    rw [List.take_length] at I
    exact wpAny_pure (hdone _ (I.turned (t' := s.toks) (fun b o hb e => eb b o hb e) hit f1 f3 f4 f5))
  | succ m ih =>
    intro i s hm hi I st
    refine codeAny_builtin PySem.F.entry_extend_loop ?_
    rw [Around.under_plainId PySem.F.plain_extend_loop _]
    show wpAny _ A1.in1 (pyNext (.ref it) >>= _) _ _ s
    have ht' : SqT X.K (upd H S (.lst (xs.take i))) t xs := Evl.ex_t (Ex.new hS) ht
    obtain ⟨its, rv, p, _⟩ := I.tuple ht'
    have hil : i < xs.length := by omega
    obtain ⟨u, hu, ru⟩ := rv.get (List.getElem?_eq_getElem hil)
    have hit2 : upd H S (.lst (xs.take i)) it = none := by rw [upd_ne fS]; exact f0
    refine wpAny_bind (wpAny_pyNext_tuple_item st (show s.heap.IsTuple t its.toArray from p) (x := u) (by simpa using hu) fun h' st' sb => ?_)
    have I1 : Inv X pins σ (upd H S (.lst (xs.take i))) { s with heap := h' } := I.turned (t' := s.toks) (fun b o hb e => (sb.2 b hb).trans e) hit2 f1 f3 f4 f5
    show wpAny _ A1.in1 (updateSeq S (·.push u) >>= _) _ _ _
    obtain ⟨z, its2, k, r2, hl, e⟩ := I1.lstM upd_same
    have hzi : (xs.take i).length = i := by rw [List.length_take]; omega
    have hs2 := sizeLine_eq
    refine wpAny_bind (wpAny_updateSeq e rfl (wpAny_pure ⟨plainId_quiet PySem.F.plain_extend_loop _, ?_⟩) (by rw [List.size_toArray]; omega) (by show (its2.toArray.push u).size ≤ sizeLine + 1; rw [Array.size_push, List.size_toArray]; omega))
    have I2 := I1.lset (f := (·.push u)) (its' := its2 ++ [u]) (t' := s.toks) upd_same e (by simp) (r2.append (.cons ru .nil)) (by rw [List.length_append, List.length_singleton]; omega)
    have et : xs.take i ++ [xs[i]] = xs.take (i + 1) := by rw [List.take_add_one, List.getElem?_eq_getElem hil]; rfl
    rw [upd_upd, et] at I2
    refine ih (i + 1) _ (by omega) hil I2 ?_
    obtain ⟨o, ho, c, d⟩ := st'
    exact ⟨o, (Heap.get?_update_other _ _ (Ne.symm fS)).trans ho, c, d⟩
def rListO (K : PySem.W.Frag) (C : Addr) (fld : Str) (spL : Sp) : List V → Hp → VK → Prop := fun xs H Q => ∃ a dx fs t ys, xs = [.ref a] ∧ H a = some (.ins C dx fs) ∧ fs.lookup fld = some (.ref t) ∧ SqT K H t ys ∧ ys.length ≤ 50000 ∧
  (∀ H1, Ex H H1 → spL [.ref a] H1 (fun v H2 => v = .int (ys.length : Int) ∧ Ex H1 H2) E0) ∧ ∀ S H', H S = none → Ex H H' → H' S = some (.lst ys) → Q (.ref S) H'
theorem call_listO {n : Nat} {spL : Sp} {fl : Addr} {fdl : FuncData} {psl : List Str} (G : IterG X.prog X.w X.K X.mg X.base k C f fld) (m : SpM X.K C f "__iter__") (FL : FnOk X.prog X.w X.K X.mg X.base CX0 n fl fdl psl spL) (bL : Binds X.K fdl psl []) (mL : SpM X.K C fl "__len__") (hn : n ≤ k) (hr : Room (k + 3) X.A) (hc : X.calm = true) : CallR X (.type "list") (rListO X.K C fld spL) := by
  intro pins s σ H xs us Q I rv h
  obtain ⟨a, dx, fs, t, ys, rfl, ha, hf, ht, hz, hsp, hq⟩ := h
  obtain ⟨u, rfl, ru⟩ := rv.one
  cases ru
  have sb1 : Sub X (k + 1) X.A.in1.in1 := Sub.in1 (Sub.in1 (⟨hr, rfl⟩ : Sub X (k + 3) X.A))
  have sb2 : Sub X n X.A.in1.in1.in1 := (Sub.in1 sb1).mono hn
  refine callType_codes (Q₁ := fun obj s₁ => obj = .ref s.heap.objs.size ∧ s₁ = { s with heap := s.heap.push { cls := .type "list", data := .seq #[] } }) PySem.F.called_list (PySem.F.typeCall_list_1 _) PySem.F.entry_list_init
    (code_list_new _ ⟨rfl, rfl⟩) fun obj s₁ h₁ => ?_
  obtain ⟨rfl, rfl⟩ := h₁
  have hS : (s.heap.push { cls := .type "list", data := .seq #[] }).get? s.heap.objs.size = some { cls := .type "list", data := .seq #[] } := Heap.get?_push_size _ rfl
  refine ⟨⟨_, hS, rfl⟩, PySem.F.args_list_init_2 _ _, ?_⟩
  have fr : H s.heap.objs.size = none := I.hok.fresh (Nat.le_refl _)
  have I1 : Inv X pins σ (upd H s.heap.objs.size (.lst [])) { s with heap := s.heap.push { cls := .type "list", data := .seq #[] } } := I.lnew (its := []) (t' := s.toks) .nil (Nat.zero_le _)
  show wpAny _ _ (do let old ← Builtin.List.listItems (.ref s.heap.objs.size); Builtin.List.listUpdate (.ref s.heap.objs.size) (fun _ => #[]); letGo old.toList.reverse; Builtin.List.listExtendWith (.ref s.heap.objs.size) (.ref a) .none) _ _ _
  refine wpAny_bind ?_
  unfold Builtin.List.listItems
  refine wpAny_bind (wpAny_seqItems hS rfl (wpAny_pure ?_))
  show wpAny _ _ (updateSeq s.heap.objs.size (fun _ => #[]) >>= fun _ => letGo (#[] : Array Value).toList.reverse >>= fun _ => Builtin.List.listExtendWith (.ref s.heap.objs.size) (.ref a) .none) _ _ _
  refine wpAny_bind (wpAny_updateSeq hS rfl ?_)
  have I2 := I1.lset (f := fun _ => #[]) (its := []) (its' := []) (ys := []) (t' := s.toks) upd_same hS rfl .nil (Nat.zero_le _)
  rw [upd_upd] at I2
  refine wpAny_bind (wpAny_letGo ?_)
  generalize s.heap.objs.size = S at *
  have haS : a ≠ S := ne_of_none ha fr
  have eS : Ex H (upd H S (.lst [])) := Ex.new fr
  have ha2 := eS _ _ ha
  have ht2 := Evl.ex_t eS ht
  generalize hH2 : upd H S (.lst []) = H2 at I2 ha2 ht2 eS
  have hS2 : H2 S = some (.lst []) := by rw [← hH2]; exact upd_same
  obtain ⟨mA, J, _⟩ := ins_get I2.hok ha2
  obtain ⟨od, J, _⟩ := J.look
  obtain ⟨m0, hF⟩ := I2.fr
  unfold Builtin.List.listExtendWith
  refine wpAny_bind (J.type.here ?_)
  have h1 : Builtin.List.listSameRef (.ref S) (.ref a) = false := by simp [Builtin.List.listSameRef, Ne.symm haS]
  have h2 : (Value.ref C == Value.type "list") = false := rfl
  have h3 : (Value.ref C == Value.type "tuple") = false := rfl
  simp only [h1, h2, h3, Bool.or_false, Bool.false_eq_true, if_false]
  refine wpAny_bind (PySem.W.owit_iter hF I2.ok.mod.kin J m.fi m.fn ?_)
  refine wpAny_mono (iter_run (Q := fun v H' => ∃ it, v = .ref it ∧ H2 it = none ∧ X.s_0.heap.objs.size ≤ it ∧ H' = upd H2 it (TiO t it)) G sb1 I2 ha2 hf ht2 fun it h1 h2 => ⟨it, rfl, h1, Nat.le_trans I2.sz h2, rfl⟩) (fun u s3 z => ?_) fun _ _ y => y
  obtain ⟨v, H3, I3, rv3, it, rfl, hi, hzz, rfl⟩ := z
  cases rv3
  have eo : s3.heap.get? it = some (tiObj t) := (I3.hok it _ upd_same).1
  refine it_of eo ?_
  have e3 : Ex H2 (upd H2 it (TiO t it)) := Ex.new hi
  have ha3 := e3 _ _ ha2
  obtain ⟨mA3, J3, _⟩ := ins_get I3.hok ha3
  obtain ⟨od3, J3, _⟩ := J3.look
  refine wpAny_bind (wpAny_holding ?_)
  unfold Builtin.List.listLengthHint
  refine wpAny_bind (wpAny_bind (J3.type.here ((PySem.W.looks_findIn I3.kIn mL.fi).here ?_)))
  refine PySem.W.KFB.if_not rfl ?_
  refine wpAny_ite_split (fun _ => ?_) (fun h => absurd rfl h)
  refine wpAny_bind (wpAny_rule ?_)
  have hlen := hsp _ (eS.trans e3)
  refine wpAny_bind (wpAny_attempt (wpAny_mono (len_sub (Q := fun v H4 => v = .int (ys.length : Int) ∧ Ex (upd H2 it (TiO t it)) H4) (E := fun _ _ => False) FL sb2 mL bL I3 ha3 (lenQ hlen hz)) (fun v s4 z => ?_) fun _ _ z => z.elim))
  obtain ⟨v, H4, I4, rv4, rfl, e4⟩ := z
  obtain ⟨tk, rfl⟩ := rv4
  have hS4 : H4 S = some (.lst []) := e4 _ _ (e3 _ _ hS2)
  have hi4 : H4 it = some (TiO t it) := e4 _ _ upd_same
  have itS : it ≠ S := fun z => by rw [z, hS2] at hi; cases hi
  have I5 := inv_drop I4 (show H4 it = some (.ext _) from hi4)
  have fp := inv_fp I4 hi4 hzz
  obtain ⟨g0, g1, g2, g3, g4, g5⟩ := fp
  let H5 : Hp := dropH (dropH H4 it) S
  have h5S : H5 S = none := ItX.dropH_same
  have h5 : upd H5 S (.lst []) = dropH H4 it := by
    funext b
    by_cases hb : b = S
    · rw [hb, upd_same, ItX.dropH_ne (Ne.symm itS), hS4]
    · rw [upd_ne hb]
      exact ItX.dropH_ne hb
  have ex5 : Ex H H5 := fun b o hb => by
    have hbS : b ≠ S := ne_of_none hb fr
    have hb2 := eS _ _ hb
    have hbi : b ≠ it := ne_of_none hb2 hi
    show dropH (dropH H4 it) S b = some o
    rw [ItX.dropH_ne hbS, ItX.dropH_ne hbi]
    exact e4 _ _ (e3 _ _ hb2)
  have h5it : H5 it = none := by
    show dropH (dropH H4 it) S it = none
    rw [ItX.dropH_ne itS, ItX.dropH_same]
  have eo4 : s4.heap.get? it = some (tiObj t) := (I4.hok it _ hi4).1
  have hd : X.A.in1.in1.handled = none := I4.ok.hd hc
  have loop : ∀ s5, Inv X pins σ (upd H5 S (.lst [])) s5 → s5.heap.IsTupleIter it t 0 → codeAny (model X.prog X.w) X.A.in1 (.builtin "list.extend.loop" ⟨[.ref S, .ref it, .none], []⟩) (wants (fun r s₂ => r = .none ∧ EP X pins σ Q (.ref S) s₂) X.xe) s5 := fun s5 I6 st => list_loop (A1 := X.A.in1) (H := H5) hd hz h5S (Evl.ex_t ex5 ht) h5it itS g1 g3 g4 g5 (fun s6 I7 => ⟨rfl, .ref S, _, I7, rfl, hq S _ fr (ex5.trans (Ex.new h5S)) upd_same⟩) ys.length 0 s5 rfl (Nat.zero_le _) I6 st
  rw [← h5] at I5
  refine wpAny_bind (m := asInt? (.int _ tk)) (wpAny_pure ?_)
  refine wpAny_ite_split (fun h => ?_) (fun _ => ?_)
  · have h : Builtin.List.listTooLong ((ys.length : Int)).toNat = true := h
    have : ((ys.length : Int)).toNat = ys.length := by omega
    rw [this] at h
    have h := of_decide_eq_true h
    rw [sizeLine_eq] at h
    omega
  refine wpAny_pure ?_
  refine wpAny_ite_split (fun _ => ?_) (fun _ => wpAny_pure ⟨plainId_quiet PySem.F.plain_extend_loop _, loop s4 I5 (ti_at eo4)⟩)
  refine wpAny_bind (wpAny_rule ?_)
  refine wpAny_bind ?_
  obtain ⟨z, its, k0, r3, hl3, e3'⟩ := I5.lstM upd_same
  cases r3
  show wpAny _ _ (updateSeq S (·.push .none) >>= fun _ => updateSeq S (·.pop)) _ _ _
  refine wpAny_bind (wpAny_updateSeq e3' rfl ?_)
  have I6 := I5.lset (f := (·.push Value.none)) (its' := [Value.none]) (ys := [.non]) (t' := s4.toks) upd_same e3' (by simp) (.cons rfl .nil) (by rw [List.length_singleton, sizeLine_eq]; decide)
  obtain ⟨z4, its4, k4, r4, hl4, e4'⟩ := I6.lstM upd_same
  obtain ⟨u4, rfl, ru4⟩ := r4.one
  refine wpAny_updateSeq e4' rfl ?_ (by show 1 ≤ sizeLine; rw [sizeLine_eq]; decide) (by show 0 ≤ sizeLine + 1; exact Nat.zero_le _)
  refine wpAny_pure ⟨plainId_quiet PySem.F.plain_extend_loop _, loop _ ?_ ?_⟩
  · have I7 := I6.lset (f := (·.pop)) (its := [u4]) (its' := []) (ys := []) (t' := s4.toks) upd_same e4' (by rfl) .nil (Nat.zero_le _)
    rw [upd_upd, upd_upd] at I7
    exact I7
  · exact ti_at ((Heap.get?_update_other _ _ (Ne.symm itS)).trans ((Heap.get?_update_other _ _ (Ne.symm itS)).trans eo4))
end
end U

set_option Elab.async false
set_option linter.all false
set_option maxRecDepth 100000
set_option maxHeartbeats 4000000
namespace U
open PySem L2
open Evl (Ex)
def top (i : Nat) : Stmt := PySem.Challenge.pw_toldenough_k02_samples_made.main.body.getD i (.Pass ⟨0, 0, 0, 0⟩)
abbrev s_source : Stmt := top 20
abbrev sc_source_N : List Str := ["_law_script", "_law_at", "_law_cell"]
theorem sc_source : FnScope sc_source_N ["_law_script", "_law_at"] (defScope s_source) := ⟨rfl, rfl, rfl, by decide +kernel, rfl, by decide +kernel, by decide +kernel⟩
abbrev s_draw : Stmt := top 21
abbrev sc_draw_N : List Str := ["_law_draws", "_law_many", "_law_digit", "_law_seed"]
theorem sc_draw : FnScope sc_draw_N ["_law_draws", "_law_many"] (defScope s_draw) := ⟨rfl, rfl, rfl, by decide +kernel, rfl, by decide +kernel, by decide +kernel⟩
abbrev s_pick : Stmt := top 22
abbrev sc_pick_N : List Str := ["_law_draws", "_law_things"]
theorem sc_pick : FnScope sc_pick_N ["_law_draws", "_law_things"] (defScope s_pick) := ⟨rfl, rfl, rfl, by decide +kernel, rfl, by decide +kernel, by decide +kernel⟩
abbrev s_same : Stmt := top 24
abbrev sc_same_N : List Str := ["_law_found", "_law_due", "_law_left", "_law_right"]
theorem sc_same : FnScope sc_same_N ["_law_found", "_law_due"] (defScope s_same) := ⟨rfl, rfl, rfl, by decide +kernel, rfl, by decide +kernel, by decide +kernel⟩
structure TxB (mg : Str → Option Value) : Prop where
  m_len : mg "len" = none
  m_int : mg "int" = none
  m_isinstance : mg "isinstance" = none
  m_list : mg "list" = none
  m_tuple : mg "tuple" = none
  m_bool : mg "bool" = none
  m_all : mg "all" = none
  m_zip : mg "zip" = none
section
variable {P : Program} {w : World} {K : PySem.W.Frag} {mg : Str → Option Value} {base : Heap}
theorem ok_source {f : Addr} {fd : FuncData} (F : Fun K "_law_source" "_law_source" s_source f fd) (T : TxB mg) : FnOk P w K mg base CX0 1 f fd ["_law_script", "_law_at"] (spSource K) := by
  refine F.ok sc_source (fun vs H Q E h => ?_) (fun cdv A outer s H vs Q E hr h => ?_)
  · obtain ⟨_, _, _, rfl, _⟩ := h
    rfl
  · obtain ⟨sa, ns, i, rfl, hS, hl, hi, k⟩ := h
    refine ⟨_, (pss_cons (ps_set (i := 2) sc_source.nd rfl (by first | exact Or.inl rfl | exact Or.inr rfl) (pe_ifExp (pt_cmpR op_lt (pv 1) (pe_callB call_len_seq (by rfl) T.m_len (by decide +kernel) (pa_cons (pv 0) pa_nil)) (nomark _)) (pe_ix ix_list (pv 0) (pv 1) (fun _ _ => rfl)) (pe_op op_add (pe_op op_mul pe_int (pv 1)) pe_int)))
    (pss_one (ps_ret (pe_lst (pa_cons (pe_ifExp (pt_cmpR op_ge (pv 2) (pe_op op_pow pe_int pe_int) (nomark _)) (pv 2) pe_int) (pa_cons (pe_op op_add (pe_op op_mod (pe_callTy call_int1 (by rfl) T.m_int (by decide +kernel) (pa_cons (pv 2) pa_nil)) pe_int) (pe_op op_mul pe_int (pv 1))) (pa_cons pe_int pa_nil))))))), ?_⟩
    have hlen : (ns.map V.int).length = ns.length := List.length_map ..
    have fin : ∀ (c : Int), ∀ l : Addr, H l = none → Q (.ref l) (upd H l (.lst [.int (if c ≥ 10 ^ 18 then c else 0), .int (c % 2147483647 + 131 * (i : Int)), .int 0])) := fun c l hn => by
      refine k l _ hn ⟨_, _, _, upd_same, ?_, ?_, ?_, by decide, by decide⟩
      · by_cases hc : c ≥ 10 ^ 18
        · rw [if_pos hc]
          omega
        · rw [if_neg hc]
          decide
      · omega
      · omega
    refine ⟨_, rfl, _, rfl, sa, _, rfl, .inl hS, _, _, rfl, rfl, _, rfl, ?_⟩
    refine ite2 (fun hc => ?_) (fun hc => ?_)
    · have hc' : i < ns.length := by
        have q := of_decide_eq_true hc
        rw [hlen] at q
        omega
      refine ⟨_, rfl, _, rfl, sa, _, _, .int ns[i], rfl, rfl, hS, atI_nat (by rw [List.getElem?_map, List.getElem?_eq_getElem hc']; rfl), ?_⟩
      have g := fin (ns[i])
      generalize ns[i] = c at g ⊢
      refine ⟨_, rfl, _, _, rfl, rfl, ⟨by decide, by decide, by decide⟩, _, _, rfl, rfl, _, rfl, ?_⟩
      refine ite2 (fun hc => ?_) (fun hc => ?_)
      · have hc' : c ≥ 10 ^ 18 := of_decide_eq_true hc
        rw [if_pos hc'] at g
        refine ⟨_, rfl, _, rfl, .inl ⟨_, rfl, _, _, rfl, rfl, (by show (0 : Int) < _; decide), _, rfl, _, _, rfl, rfl, .inl ⟨by decide, by decide⟩, _, _, rfl, rfl, by show 3 ≤ sizeLine; decide, fun l hn => ?_⟩⟩
        exact g l hn
      · have hc' : ¬ c ≥ 10 ^ 18 := fun q => hc (decide_eq_true q)
        rw [if_neg hc'] at g
        refine ⟨_, rfl, .inl ⟨_, rfl, _, _, rfl, rfl, (by show (0 : Int) < _; decide), _, rfl, _, _, rfl, rfl, .inl ⟨by decide, by decide⟩, _, _, rfl, rfl, by show 3 ≤ sizeLine; decide, fun l hn => ?_⟩⟩
        exact g l hn
    · have g := fin (11 * (i : Int) + 3)
      refine ⟨_, rfl, _, _, rfl, rfl, .inl ⟨by decide, by decide⟩, _, _, rfl, rfl, ?_⟩
      refine ⟨_, rfl, _, _, rfl, rfl, ⟨by decide, by decide, by decide⟩, _, _, rfl, rfl, _, rfl, ?_⟩
      refine ite2 (fun hc => ?_) (fun hc => ?_)
      · have hc' : 11 * (i : Int) + 3 ≥ 10 ^ 18 := of_decide_eq_true hc
        rw [if_pos hc'] at g
        refine ⟨_, rfl, _, rfl, .inl ⟨_, rfl, _, _, rfl, rfl, (by show (0 : Int) < _; decide), _, rfl, _, _, rfl, rfl, .inl ⟨by decide, by decide⟩, _, _, rfl, rfl, by show 3 ≤ sizeLine; decide, fun l hn => ?_⟩⟩
        exact g l hn
      · have hc' : ¬ 11 * (i : Int) + 3 ≥ 10 ^ 18 := fun q => hc (decide_eq_true q)
        rw [if_neg hc'] at g
        refine ⟨_, rfl, .inl ⟨_, rfl, _, _, rfl, rfl, (by show (0 : Int) < _; decide), _, rfl, _, _, rfl, rfl, .inl ⟨by decide, by decide⟩, _, _, rfl, rfl, by show 3 ≤ sizeLine; decide, fun l hn => ?_⟩⟩
        exact g l hn
theorem ok_draw {f : Addr} {fd : FuncData} (F : Fun K "_law_draw" "_law_draw" s_draw f fd) (T : TxB mg) : FnOk P w K mg base CX0 1 f fd ["_law_draws", "_law_many"] spDraw := by
  refine F.ok sc_draw (fun vs H Q E h => ?_) (fun cdv A outer s H vs Q E hr h => ?_)
  · obtain ⟨_, _, _, rfl, _⟩ := h
    rfl
  · obtain ⟨l, many, n, rfl, ⟨x, y, z, hl, x0, y0, y1, z0, z1⟩, hn, m0, m1, k⟩ := h
    refine ⟨_, (pss_cons (ps_if (pt_cmpR op_gt (pe_ix ix_list (pv 0) pe_int (fun _ _ => rfl)) pe_int (nomark _)) (pss_cons (ps_set (i := 2) sc_draw.nd rfl (by first | exact Or.inl rfl | exact Or.inr rfl) (pe_op op_mod (pe_callTy call_int1 (by rfl) T.m_int (by decide +kernel) (pa_cons (pe_ix ix_list (pv 0) pe_int (fun _ _ => rfl)) pa_nil)) (pv 1)))
      (pss_cons (ps_asg (pe_op op_fdivN (pe_ix ix_list (pv 0) pe_int (fun _ _ => rfl)) (pv 1)) (pg_sub (pv 0) pe_int set_list))
      (pss_one (ps_ret (pv 2))))) pss_nil)
    (pss_cons (ps_asg (pe_op op_add (pe_ix ix_list (pv 0) pe_int (fun _ _ => rfl)) pe_int) (pg_sub (pv 0) pe_int set_list))
    (pss_cons (ps_set (i := 3) sc_draw.nd rfl (by first | exact Or.inl rfl | exact Or.inr rfl) (pe_op op_mod (pe_op op_pow (pe_callTy call_int1 (by rfl) T.m_int (by decide +kernel) (pa_cons (pe_op op_add (pe_op op_add (pe_ix ix_list (pv 0) pe_int (fun _ _ => rfl)) (pe_op op_mul pe_int (pe_ix ix_list (pv 0) pe_int (fun _ _ => rfl)))) pe_int) pa_nil)) pe_int) pe_int))
    (pss_one (ps_ret (pe_op op_mod (pe_op op_mod (pe_op op_pow (pe_callTy call_int1 (by rfl) T.m_int (by decide +kernel) (pa_cons (pe_op op_add (pe_op op_mul (pv 3) pe_int) (pe_op op_mul pe_int (pe_ix ix_list (pv 0) pe_int (fun _ _ => rfl)))) pa_nil)) pe_int) pe_int) (pv 1))))))), ?_⟩
    have i0 : atI [V.int x, V.int y, V.int z] 0 = some (.int x) := rfl
    have i1 : atI [V.int x, V.int y, V.int z] 1 = some (.int y) := rfl
    have i2 : atI [V.int x, V.int y, V.int z] 2 = some (.int z) := rfl
    refine ⟨_, rfl, l, _, _, _, rfl, rfl, SqL.of hl, i0, _, _, rfl, rfl, _, rfl, ?_⟩
    refine ite2 (fun hc => ?_) (fun hc => ?_)
    · refine ⟨_, rfl, l, _, _, _, rfl, rfl, SqL.of hl, i0, .inl ⟨_, rfl, _, rfl, _, _, rfl, rfl, m0, ?_⟩⟩
      refine ⟨_, rfl, l, _, _, _, rfl, rfl, SqL.of hl, i0, _, rfl, _, _, rfl, rfl, ⟨by omega, by omega⟩, _, rfl, l, _, _, 0, rfl, rfl, hl, rfl, ?_⟩
      refine ⟨_, rfl, ?_⟩
      exact k (x % many) _ (Int.emod_nonneg _ (by omega)) (Int.emod_lt_of_pos _ m0) ⟨_, _, _, upd_same, Int.fdiv_nonneg x0 (by omega), y0, y1, z0, by omega⟩
    · have hl2 : (upd H l (.lst [V.int x, V.int y, V.int (z + 1)])) l = some (.lst [V.int x, V.int y, V.int (z + 1)]) := upd_same
      have j1 : atI [V.int x, V.int y, V.int (z + 1)] 1 = some (.int y) := rfl
      have j2 : atI [V.int x, V.int y, V.int (z + 1)] 2 = some (.int (z + 1)) := rfl
      refine ⟨_, rfl, l, _, _, _, rfl, rfl, SqL.of hl, i2, _, _, rfl, rfl, _, rfl, l, _, _, 2, rfl, rfl, hl, rfl, ?_⟩
      refine ⟨_, rfl, l, _, _, _, rfl, rfl, SqL.of hl2, j1, _, rfl, l, _, _, _, rfl, rfl, SqL.of hl2, j2, _, _, rfl, rfl, .inl ⟨by decide, by decide⟩, _, _, rfl, rfl, _, _, rfl, rfl, .inl ⟨_, rfl, _, _, rfl, rfl, ⟨by decide, by decide, ?_⟩, _, _, rfl, rfl, (by show (0 : Int) < _; decide), ?_⟩⟩
      · show (y + 7919 * (z + 1) + 104729).natAbs < 18446744073709551616
        omega
      have e1 : 0 ≤ (y + 7919 * (z + 1) + 104729) ^ (5 : Int).toNat % 2147483629 := Int.emod_nonneg _ (by decide)
      have e2 : (y + 7919 * (z + 1) + 104729) ^ (5 : Int).toNat % 2147483629 < 2147483629 := Int.emod_lt_of_pos _ (by decide)
      have hb : ∀ c : Int, 0 ≤ c → c < 2147483629 → (c * 48271 + 40503 * (z + 1)).natAbs < 18446744073709551616 := fun c _ _ => by omega
      refine ⟨_, rfl, _, _, rfl, rfl, .inr ⟨by decide, by decide⟩, _, rfl, l, _, _, _, rfl, rfl, SqL.of hl2, j2, _, _, rfl, rfl, .inl ⟨by decide, by decide⟩, _, _, rfl, rfl, .inl ⟨_, rfl, _, _, rfl, rfl, ⟨by decide, by decide, ?_⟩, _, _, rfl, rfl, (by show (0 : Int) < _; decide), _, rfl, _, _, rfl, rfl, m0, ?_⟩⟩
      · exact hb _ e1 e2
      exact k _ _ (Int.emod_nonneg _ (by omega)) (Int.emod_lt_of_pos _ m0) ⟨_, _, _, upd_same, x0, y0, y1, by omega, by omega⟩
theorem ok_pick {f : Addr} {fd : FuncData} (F : Fun K "_law_pick" "_law_pick" s_pick f fd) (T : TxB mg) (D_draw : DefAt P w K mg base "_law_draw" 1 ["_law_draws", "_law_many"] spDraw) : FnOk P w K mg base CX0 2 f fd ["_law_draws", "_law_things"] (spPick K) := by
  refine F.ok sc_pick (fun vs H Q E h => ?_) (fun cdv A outer s H vs Q E hr h => ?_)
  · obtain ⟨_, _, _, _, _, rfl, _⟩ := h
    rfl
  · obtain ⟨l, t, ds, n, L, rfl, hd, hn, hL, hp, h0, h1, k⟩ := h
    refine ⟨_, (pss_one (ps_ret (pe_ix ix_list (pv 1) (pe_callD D_draw (by first | exact hr | exact hr.mono (by decide) | exact hr.mono (by omega)) (by rfl) (pa_cons (pv 0) (pa_cons (pe_callB call_len_seq (by rfl) T.m_len (by decide +kernel) (pa_cons (pv 1) pa_nil)) pa_nil))) (fun _ _ => rfl)))), ?_⟩
    cases hp with
    | @lst _ xs _ hs ha =>
      have hlen := dpa_len ha
      refine ⟨_, rfl, _, rfl, _, rfl, t, xs, rfl, .inl (Evl.ex_l w_sub hs), ?_⟩
      refine ⟨l, _, n, rfl, hd, hn, by omega, by omega, fun r o r0 r1 hd' => ?_⟩
      have hr' : r.toNat < xs.length := by omega
      obtain ⟨d, hd1, hd2⟩ := dpa_get ha (List.getElem?_eq_getElem hr')
      have er : ((r.toNat : Nat) : Int) = r := by omega
      refine ⟨t, xs, r, xs[r.toNat], rfl, rfl, Evl.ex_l (w_sub (L := L)) (by rw [w_upd_in hL]; exact hs), ?_, ?_⟩
      · have q := atI_nat (List.getElem?_eq_getElem hr')
        rw [er] at q
        exact q
      · exact k _ d o (List.mem_of_getElem? hd1) (by rw [w_upd_in hL]; exact hd2) hd'
def spPrev (K : PySem.W.Frag) : Nat → Sp
  | 0 => fun _ _ _ _ => False
  | n + 1 => spSame K n
theorem same_body {f : Addr} {fd : FuncData} (F : Fun K "_law_same" "_law_same" s_same f fd) (T : TxB mg) (n : Nat) (D_same : DefAt P w K mg base "_law_same" n ["_law_found", "_law_due"] (spPrev K n)) : FnOk P w K mg base CX0 (n + 1) f fd ["_law_found", "_law_due"] (spSame K n) := by
  refine F.ok sc_same (fun vs H Q E h => ?_) (fun cdv A outer s H vs Q E hr h => ?_)
  · obtain ⟨_, _, _, rfl, _⟩ := h
    rfl
  · obtain ⟨x, y, d, rfl, hx, hy, hf, k⟩ := h
    refine ⟨_, (pss_cons (ps_if (pt_val (pe_callB call_isiT (by rfl) T.m_isinstance (by decide +kernel) (pa_cons (pv 1) (pa_cons (pe_tup (pa_cons (pe_bltn (v := .ty "list") (by rfl) T.m_list (by decide +kernel) rfl) (pa_cons (pe_bltn (v := .ty "tuple") (by rfl) T.m_tuple (by decide +kernel) rfl) pa_nil))) pa_nil)))) (pss_cons (ps_if (PW.pt (pw_or (pt_cmpR op_ne (pe_callB call_isi (by rfl) T.m_isinstance (by decide +kernel) (pa_cons (pv 0) (pa_cons (pe_bltn (v := .ty "list") (by rfl) T.m_list (by decide +kernel) rfl) pa_nil))) (pe_callB call_isi (by rfl) T.m_isinstance (by decide +kernel) (pa_cons (pv 1) (pa_cons (pe_bltn (v := .ty "list") (by rfl) T.m_list (by decide +kernel) rfl) pa_nil))) (nomark _)) (pw_or1 (pt_cmpR op_ne (pe_callB call_isi (by rfl) T.m_isinstance (by decide +kernel) (pa_cons (pv 0) (pa_cons (pe_bltn (v := .ty "tuple") (by rfl) T.m_tuple (by decide +kernel) rfl) pa_nil))) (pe_callB call_isi (by rfl) T.m_isinstance (by decide +kernel) (pa_cons (pv 1) (pa_cons (pe_bltn (v := .ty "tuple") (by rfl) T.m_tuple (by decide +kernel) rfl) pa_nil))) (nomark _))))) (pss_one (ps_ret pe_bl)) pss_nil)
      (pss_one (ps_ret (pe_and (pe_cmpR op_eq (pe_callB call_len_seq (by rfl) T.m_len (by decide +kernel) (pa_cons (pv 0) pa_nil)) (pe_callB call_len_seq (by rfl) T.m_len (by decide +kernel) (pa_cons (pv 1) pa_nil)) (nomark _)) (pe_one (pe_callB (cr_all rfl) (by rfl) T.m_all (by decide +kernel) (pa_cons (pe_lc (own := [("_law_left", 2), ("_law_right", 3)]) (g := gTup K 2 (gCons (gName 2) (gCons (gName 3) (gNil)))) (tt := tYes) (by rfl) sc_same.nd (RZ.pi_zipA (by rfl) T.m_zip (pa_cons (pv 0) (pa_cons (pv 1) pa_nil))) (blkOk_by (N := sc_same_N) (sc := defScope s_same) (by decide +kernel)) (fun _ _ _ _ _ => (pg_tup (by rfl) (pgs_cons (pg_name (i := 2) sc_same.nd rfl (by first | exact Or.inl rfl | exact Or.inr rfl)) (pgs_cons (pg_name (i := 3) sc_same.nd rfl (by first | exact Or.inl rfl | exact Or.inr rfl)) pgs_nil)))) (fun _ _ _ _ _ => pts_nil) (fun _ _ _ _ _ => (pe_callD D_same (by first | exact hr | exact hr.mono (by decide) | exact hr.mono (by omega)) (by rfl) (pa_cons (pv 2) (pa_cons (pv 3) pa_nil))))) pa_nil))))))) pss_nil)
    (pss_cons (ps_if (pt_val (pe_callB call_isiT (by rfl) T.m_isinstance (by decide +kernel) (pa_cons (pv 1) (pa_cons (pe_tup (pa_cons (pe_bltn (v := .ty "bool") (by rfl) T.m_bool (by decide +kernel) rfl) (pa_cons (pe_bltn (v := .ty "int") (by rfl) T.m_int (by decide +kernel) rfl) pa_nil))) pa_nil)))) (pss_one (ps_ret (pe_and (pe_callB call_isi (by rfl) T.m_isinstance (by decide +kernel) (pa_cons (pv 0) (pa_cons (pe_bltn (v := .ty "int") (by rfl) T.m_int (by decide +kernel) rfl) pa_nil))) (pe_and (pe_cmpR op_eq (pe_callB call_isi (by rfl) T.m_isinstance (by decide +kernel) (pa_cons (pv 0) (pa_cons (pe_bltn (v := .ty "bool") (by rfl) T.m_bool (by decide +kernel) rfl) pa_nil))) (pe_callB call_isi (by rfl) T.m_isinstance (by decide +kernel) (pa_cons (pv 1) (pa_cons (pe_bltn (v := .ty "bool") (by rfl) T.m_bool (by decide +kernel) rfl) pa_nil))) (nomark _)) (pe_one (pe_cmpR op_eq (pv 0) (pv 1) (nomark _))))))) pss_nil)
    (pss_one (ps_ret (pe_and (pe_not (pe_callB call_isiT (by rfl) T.m_isinstance (by decide +kernel) (pa_cons (pv 0) (pa_cons (pe_tup (pa_cons (pe_bltn (v := .ty "bool") (by rfl) T.m_bool (by decide +kernel) rfl) (pa_cons (pe_bltn (v := .ty "int") (by rfl) T.m_int (by decide +kernel) rfl) (pa_cons (pe_bltn (v := .ty "list") (by rfl) T.m_list (by decide +kernel) rfl) (pa_cons (pe_bltn (v := .ty "tuple") (by rfl) T.m_tuple (by decide +kernel) rfl) pa_nil))))) pa_nil)))) (pe_one (pe_cmpR op_eq (pv 0) (pv 1) (nomark _)))))))), ?_⟩
    have v0 : Evl.Ev (tVar 0) (start sc_same_N [x, y]) H x := Evl.ev_var rfl
    have v1 : Evl.Ev (tVar 1) (start sc_same_N [x, y]) H y := Evl.ev_var rfl
    -- two lists, two tuples
    have seqs : ∀ (a b : Addr) (xs ys : List V) (ds : List PyData) (m : Nat), n = m + 1 → x = .ref a → y = .ref b → (SqL K H a xs ∧ SqL K H b ys) ∨ (SqT K H a xs ∧ SqT K H b ys) → DpAll K H xs ds → DpAll K H ys ds → (∀ d ∈ ds, fits m d) → xs.length ≤ 40000 →
        ∀ H1, Ex H H1 → Evl.Ev (tAndV (tOp rEq (tCB (fun xs H Q => ∃ p ys, xs = [V.ref p] ∧ (SqL K H p ys ∨ SqT K H p ys) ∧ Q (.int ys.length) H) (tCons (tVar 0) tNil)) (tCB (fun xs H Q => ∃ p ys, xs = [V.ref p] ∧ (SqL K H p ys ∨ SqT K H p ys) ∧ Q (.int ys.length) H) (tCons (tVar 1) tNil)))
          (tCB (rAll K) (tCons (tLc (RZ.iZipA K (tCons (tVar 0) (tCons (tVar 1) tNil))) (gTup K 2 (gCons (gName 2) (gCons (gName 3) gNil))) tYes (tCallD (spPrev K n) (tCons (tVar 2) (tCons (tVar 3) tNil))) [2, 3]) tNil))) (start sc_same_N [x, y]) H1 (.bl true) := by
      rintro a b xs ys ds m rfl rfl rfl hs h1 h2 hd hz H1 e1
      have hl : xs.length = ys.length := (dpa_len h1).trans (dpa_len h2).symm
      have hs1 : SqL K H1 a xs ∨ SqT K H1 a xs := hs.imp (fun q => Evl.ex_l e1 q.1) (fun q => Evl.ex_t e1 q.1)
      have hs2 : SqL K H1 b ys ∨ SqT K H1 b ys := hs.imp (fun q => Evl.ex_l e1 q.2) (fun q => Evl.ex_t e1 q.2)
      refine Evl.ev_is (Evl.ev_andV (a := true) (b := true) (Evl.ev_is (Evl.ev_op (ev_lenS (v0.mono e1) hs1) (ev_lenS (v1.mono e1) hs2) (Evl.rv_eq rfl)) ?_) fun _ => ?_) rfl
      · rw [hl]
        exact congrArg V.bl (decide_eq_true rfl)
      · have z := el_zip (K := K) (v := fun _ => V.bl true) (te := tCallD (spPrev K (m + 1)) (tCons (tVar 2) (tCons (tVar 3) tNil))) (i1 := 2) (i2 := 3) (vs := [2, 3]) (σ := start sc_same_N [V.ref a, V.ref b]) (H := H1) (ta := tCons (tVar 0) (tCons (tVar 1) tNil)) (a := a) (b := b) (xs := xs) (ys := ys)
          (Evl.ea_cons (v0.mono e1) (Evl.ea_cons (v1.mono e1) Evl.ea_nil)) (hs.imp (fun q => ⟨Evl.ex_l e1 q.1, Evl.ex_l e1 q.2⟩) (fun q => ⟨Evl.ex_t e1 q.1, Evl.ex_t e1 q.2⟩)) hl hz (fun _ _ => rfl) (fun i u v H2 e2 hu hv => ?_)
        · have em : (List.range xs.length).map (fun _ => V.bl true) = ((List.range xs.length).map fun _ => true).map V.bl := by
            rw [List.map_map]
            rfl
          rw [em] at z
          exact Evl.ev_is (ev_all z) (congrArg V.bl (by simp))
        · obtain ⟨d, hd1, hd2⟩ := dpa_get h1 hu
          obtain ⟨d', hd3, hd4⟩ := dpa_get h2 hv
          rw [hd1] at hd3
          cases hd3
          exact ev_callD (Evl.ea_cons (Evl.ev_var rfl) (Evl.ea_cons (Evl.ev_var rfl) Evl.ea_nil)) fun H3 e3 Q q => ⟨u, v, d, rfl, hd2.up ((e1.trans e2).trans e3), hd4.up ((e1.trans e2).trans e3), hd d (List.mem_of_getElem? hd1), q⟩
    cases d with
    | none =>
      have exy : x = y := by
        cases hx
        cases hy
        rfl
      refine Evl.q_when (b := false) (Evl.et_B (ev_isi2 v1 hy isi_NoneType_list_tuple)) (fun z => by cases z) (fun _ H1 e1 => ?_)
      refine Evl.q_when (b := false) (Evl.et_B (ev_isi2 (v1.mono e1) (hy.up e1) isi_NoneType_bool_int)) (fun z => by cases z) (fun _ H2 e2 => ?_)
      refine Evl.s_ret (v := .bl true) (Evl.ev_is (Evl.ev_andV (Evl.ev_notV (ev_isi4 (v0.mono (e1.trans e2)) (hx.up (e1.trans e2)) (b := false) isi_NoneType_bool_int_list_tuple)) (fun _ => Evl.ev_is (Evl.ev_op (v0.mono (e1.trans e2)) (v1.mono (e1.trans e2)) (Evl.rv_eq (by cases hx; cases hy; rfl))) (w := .bl true) (by rw [exy]; exact congrArg V.bl (decide_eq_true rfl)))) rfl) (fun H3 e3 => k H3 ((e1.trans e2).trans e3))
    | str z =>
      have exy : x = y := by
        cases hx
        cases hy
        rfl
      refine Evl.q_when (b := false) (Evl.et_B (ev_isi2 v1 hy isi_str_list_tuple)) (fun z => by cases z) (fun _ H1 e1 => ?_)
      refine Evl.q_when (b := false) (Evl.et_B (ev_isi2 (v1.mono e1) (hy.up e1) isi_str_bool_int)) (fun z => by cases z) (fun _ H2 e2 => ?_)
      refine Evl.s_ret (v := .bl true) (Evl.ev_is (Evl.ev_andV (Evl.ev_notV (ev_isi4 (v0.mono (e1.trans e2)) (hx.up (e1.trans e2)) (b := false) isi_str_bool_int_list_tuple)) (fun _ => Evl.ev_is (Evl.ev_op (v0.mono (e1.trans e2)) (v1.mono (e1.trans e2)) (Evl.rv_eq (by cases hx; cases hy; rfl))) (w := .bl true) (by rw [exy]; exact congrArg V.bl (decide_eq_true rfl)))) rfl) (fun H3 e3 => k H3 ((e1.trans e2).trans e3))
    | bool z =>
      have exy : x = y := by
        cases hx
        cases hy
        rfl
      refine Evl.q_when (b := false) (Evl.et_B (ev_isi2 v1 hy isi_bool_list_tuple)) (fun z => by cases z) (fun _ H1 e1 => ?_)
      refine Evl.q_when (b := true) (Evl.et_B (ev_isi2 (v1.mono e1) (hy.up e1) isi_bool_bool_int)) (fun _ H2 e2 => ?_) (fun z => by cases z)
      refine Evl.s_ret (v := .bl true) (Evl.ev_is (Evl.ev_andV (ev_isi (v0.mono (e1.trans e2)) (hx.up (e1.trans e2)) (b := true) isi_bool_int) (fun _ => Evl.ev_andV (a := true) (Evl.ev_is (ev_eqB (ev_isi (v0.mono (e1.trans e2)) (hx.up (e1.trans e2)) (b := true) isi_bool_bool) (ev_isi (v1.mono (e1.trans e2)) (hy.up (e1.trans e2)) (b := true) isi_bool_bool)) (by decide))
        fun _ => Evl.ev_is (Evl.ev_op (v0.mono (e1.trans e2)) (v1.mono (e1.trans e2)) (Evl.rv_eq (by cases hx; cases hy; rfl))) (w := .bl true) (by rw [exy]; exact congrArg V.bl (decide_eq_true rfl)))) rfl) (fun H3 e3 => k H3 ((e1.trans e2).trans e3))
    | int z =>
      have exy : x = y := by
        cases hx
        cases hy
        rfl
      refine Evl.q_when (b := false) (Evl.et_B (ev_isi2 v1 hy isi_int_list_tuple)) (fun z => by cases z) (fun _ H1 e1 => ?_)
      refine Evl.q_when (b := true) (Evl.et_B (ev_isi2 (v1.mono e1) (hy.up e1) isi_int_bool_int)) (fun _ H2 e2 => ?_) (fun z => by cases z)
      refine Evl.s_ret (v := .bl true) (Evl.ev_is (Evl.ev_andV (ev_isi (v0.mono (e1.trans e2)) (hx.up (e1.trans e2)) (b := true) isi_int_int) (fun _ => Evl.ev_andV (a := true) (Evl.ev_is (ev_eqB (ev_isi (v0.mono (e1.trans e2)) (hx.up (e1.trans e2)) (b := false) isi_int_bool) (ev_isi (v1.mono (e1.trans e2)) (hy.up (e1.trans e2)) (b := false) isi_int_bool)) (by decide))
        fun _ => Evl.ev_is (Evl.ev_op (v0.mono (e1.trans e2)) (v1.mono (e1.trans e2)) (Evl.rv_eq (by cases hx; cases hy; rfl))) (w := .bl true) (by rw [exy]; exact congrArg V.bl (decide_eq_true rfl)))) rfl) (fun H3 e3 => k H3 ((e1.trans e2).trans e3))
    | list ds =>
      cases n with
      | zero => exact hf.elim
      | succ m =>
        have hx' := hx
        have hy' := hy
        cases hx with
        | @lst a xs _ hs ha =>
          cases hy with
          | @lst b ys _ hs2 ha2 =>
            refine Evl.q_when (b := true) (Evl.et_B (ev_isi2 v1 hy' isi_list_list_tuple)) (fun _ H1 e1 => ?_) (fun z => by cases z)
            refine Evl.q_when (b := false) (Evl.et_is (Evl.et_or (Evl.et_test (ev_neB (ev_isi (v0.mono e1) (hx'.up e1) (b := true) isi_list_list) (ev_isi (v1.mono e1) (hy'.up e1) (b := true) isi_list_list))) fun _ => Evl.et_test (ev_neB (ev_isi (v0.mono e1) (hx'.up e1) (b := false) isi_list_tuple) (ev_isi (v1.mono e1) (hy'.up e1) (b := false) isi_list_tuple))) (by decide)) (fun z => by cases z) (fun _ H2 e2 => ?_)
            exact Evl.s_ret (v := .bl true) (seqs a b xs ys ds m rfl rfl rfl (.inl ⟨hs, hs2⟩) ha ha2 hf.2 (by rw [dpa_len ha]; exact hf.1) _ (e1.trans e2)) (fun H3 e3 => k H3 ((e1.trans e2).trans e3))
    | tuple ds =>
      cases n with
      | zero => exact hf.elim
      | succ m =>
        have hx' := hx
        have hy' := hy
        cases hx with
        | @tup a xs _ hs ha =>
          cases hy with
          | @tup b ys _ hs2 ha2 =>
            refine Evl.q_when (b := true) (Evl.et_B (ev_isi2 v1 hy' isi_tuple_list_tuple)) (fun _ H1 e1 => ?_) (fun z => by cases z)
            refine Evl.q_when (b := false) (Evl.et_is (Evl.et_or (Evl.et_test (ev_neB (ev_isi (v0.mono e1) (hx'.up e1) (b := false) isi_tuple_list) (ev_isi (v1.mono e1) (hy'.up e1) (b := false) isi_tuple_list))) fun _ => Evl.et_test (ev_neB (ev_isi (v0.mono e1) (hx'.up e1) (b := true) isi_tuple_tuple) (ev_isi (v1.mono e1) (hy'.up e1) (b := true) isi_tuple_tuple))) (by decide)) (fun z => by cases z) (fun _ H2 e2 => ?_)
            exact Evl.s_ret (v := .bl true) (seqs a b xs ys ds m rfl rfl rfl (.inr ⟨hs, hs2⟩) ha ha2 hf.2 (by rw [dpa_len ha]; exact hf.1) _ (e1.trans e2)) (fun H3 e3 => k H3 ((e1.trans e2).trans e3))
    | dict _ => cases hx
end
end U

set_option Elab.async false
set_option linter.all false
set_option maxRecDepth 100000
set_option maxHeartbeats 4000000
namespace U
open PySem L2
open Evl (Ex)
abbrev s_is_integer : Stmt := top 9
abbrev sc_is_integer_N : List Str := ["thing"]
theorem sc_is_integer : FnScope sc_is_integer_N ["thing"] (defScope s_is_integer) := ⟨rfl, rfl, rfl, by decide +kernel, rfl, by decide +kernel, by decide +kernel⟩
abbrev s_is_label : Stmt := top 10
abbrev sc_is_label_N : List Str := ["thing"]
theorem sc_is_label : FnScope sc_is_label_N ["thing"] (defScope s_is_label) := ⟨rfl, rfl, rfl, by decide +kernel, rfl, by decide +kernel, by decide +kernel⟩
abbrev s_is_row : Stmt := top 11
abbrev sc_is_row_N : List Str := ["thing"]
theorem sc_is_row : FnScope sc_is_row_N ["thing"] (defScope s_is_row) := ⟨rfl, rfl, rfl, by decide +kernel, rfl, by decide +kernel, by decide +kernel⟩
abbrev s_is_row_of : Stmt := top 12
abbrev sc_is_row_of_N : List Str := ["thing", "many"]
theorem sc_is_row_of : FnScope sc_is_row_of_N ["thing", "many"] (defScope s_is_row_of) := ⟨rfl, rfl, rfl, by decide +kernel, rfl, by decide +kernel, by decide +kernel⟩
abbrev s_is_number_of_places : Stmt := top 13
abbrev sc_is_number_of_places_N : List Str := ["thing"]
theorem sc_is_number_of_places : FnScope sc_is_number_of_places_N ["thing"] (defScope s_is_number_of_places) := ⟨rfl, rfl, rfl, by decide +kernel, rfl, by decide +kernel, by decide +kernel⟩
abbrev s_is_point : Stmt := top 14
abbrev sc_is_point_N : List Str := ["thing", "places", "entry"]
theorem sc_is_point : FnScope sc_is_point_N ["thing", "places"] (defScope s_is_point) := ⟨rfl, rfl, rfl, by decide +kernel, rfl, by decide +kernel, by decide +kernel⟩
abbrev s_is_example : Stmt := top 15
abbrev sc_is_example_N : List Str := ["thing", "places"]
theorem sc_is_example : FnScope sc_is_example_N ["thing", "places"] (defScope s_is_example) := ⟨rfl, rfl, rfl, by decide +kernel, rfl, by decide +kernel, by decide +kernel⟩
abbrev s_copied_example : Stmt := top 16
abbrev sc_copied_example_N : List Str := ["example", "point", "label"]
theorem sc_copied_example : FnScope sc_copied_example_N ["example"] (defScope s_copied_example) := ⟨rfl, rfl, rfl, by decide +kernel, rfl, by decide +kernel, by decide +kernel⟩
def isIx (p : Int) : PyData → Bool
  | .int i => decide (0 ≤ i) && decide (i < p)
  | _ => false
def isI : PyData → Bool
  | .int _ => true
  | _ => false
def isL : PyData → Bool
  | .bool _ => true
  | _ => false
def isR : PyData → Bool
  | .list _ => true
  | .tuple _ => true
  | _ => false
def isN : PyData → Bool
  | .int i => decide (1 ≤ i) && decide (i ≤ 3)
  | _ => false
def isP (p : Int) : PyData → Bool
  | .list ds => decide ((ds.length : Int) = p) && ds.all isI
  | .tuple ds => decide ((ds.length : Int) = p) && ds.all isI
  | _ => false
def isO (p : Int) : PyData → Bool
  | .list ds => decide ((ds.length : Int) = p)
  | .tuple ds => decide ((ds.length : Int) = p)
  | _ => false
def isX (p : Int) : PyData → Bool
  | .list [a, b] => isP p a && isL b
  | .tuple [a, b] => isP p a && isL b
  | _ => false
def tupOf : PyData → PyData
  | .list ds => .tuple ds
  | d => d
def cpy : PyData → PyData
  | .list [a, b] => .tuple [tupOf a, b]
  | .tuple [a, b] => .tuple [tupOf a, b]
  | d => d
/-- True or False of data, by f | of data and a number of places -/
def spB (K : PySem.W.Frag) (f : PyData → Bool) : Sp := fun vs H Q _ => ∃ v d, vs = [v] ∧ Dq K H v d ∧ ∀ H', Ex H H' → Q (.bl (f d)) H'
def spBp (K : PySem.W.Frag) (f : Int → PyData → Bool) : Sp := fun vs H Q _ => ∃ v d p, vs = [v, .int p] ∧ Dq K H v d ∧ (∃ n, fits n d) ∧ ∀ H', Ex H H' → Q (.bl (f p d)) H'
structure TxF (mg : Str → Option Value) : Prop extends TxB mg where
  m_range : mg "range" = none
  m_enumerate : mg "enumerate" = none
  c_LEAST_PLACES : ∃ t, mg "LEAST_PLACES" = some (.int 1 t)
  c_MOST_PLACES : ∃ t, mg "MOST_PLACES" = some (.int 3 t)
section
variable {P : Program} {w : World} {K : PySem.W.Frag} {mg : Str → Option Value} {base : Heap}
theorem isP_two {p : Int} {d : PyData} : (isO p d && isP p d) = isP p d := by
  have q : ∀ a b : Bool, (a && (a && b)) = (a && b) := by decide
  cases d with
  | list ds => exact q _ _
  | tuple ds => exact q _ _
  | _ => rfl
theorem isX_two {p : Int} {d : PyData} {ds : List PyData} (h : d = .list ds ∨ d = .tuple ds) : (isO 2 d && isX p d) = isX p d := by
  rcases h with rfl | rfl <;> (match ds with
    | [] => rfl
    | [_] => rfl
    | [_, _] => rfl
    | _ :: _ :: _ :: r =>
      show (_ && false) = false
      rw [Bool.and_false])
theorem ev_spB {σ : L2.St} {H : Hp} {te : TE} {v : V} {d : PyData} {f : PyData → Bool} (h : Evl.Ev te σ H v) (hd : Dp K H v d) : Evl.Ev (tCallD (spB K f) (tCons te tNil)) σ H (.bl (f d)) :=
  ev_callD (Evl.ea_cons h Evl.ea_nil) fun H1 e1 Q q => ⟨v, d, rfl, (hd.up e1).q, q⟩
theorem ev_spBp {σ : L2.St} {H : Hp} {te tp : TE} {v : V} {d : PyData} {f : Int → PyData → Bool} {p : Int} (h : Evl.Ev te σ H v) (hp : Evl.Ev tp σ H (.int p)) (hd : Dp K H v d) (hw : ∃ n, fits n d) : Evl.Ev (tCallD (spBp K f) (tCons te (tCons tp tNil))) σ H (.bl (f p d)) :=
  ev_callD (Evl.ea_cons h (Evl.ea_cons hp Evl.ea_nil)) fun H1 e1 Q q => ⟨v, d, p, rfl, (hd.up e1).q, hw, q⟩
theorem ev_spBq {σ : L2.St} {H : Hp} {te : TE} {v : V} {d : PyData} {f : PyData → Bool} (h : Evl.Ev te σ H v) (hd : Dq K H v d) : Evl.Ev (tCallD (spB K f) (tCons te tNil)) σ H (.bl (f d)) :=
  ev_callD (Evl.ea_cons h Evl.ea_nil) fun H1 e1 Q q => ⟨v, d, rfl, hd.up e1, q⟩
theorem ev_spBpq {σ : L2.St} {H : Hp} {te tp : TE} {v : V} {d : PyData} {f : Int → PyData → Bool} {p : Int} (h : Evl.Ev te σ H v) (hp : Evl.Ev tp σ H (.int p)) (hd : Dq K H v d) (hw : ∃ n, fits n d) : Evl.Ev (tCallD (spBp K f) (tCons te (tCons tp tNil))) σ H (.bl (f p d)) :=
  ev_callD (Evl.ea_cons h (Evl.ea_cons hp Evl.ea_nil)) fun H1 e1 Q q => ⟨v, d, p, rfl, hd.up e1, hw, q⟩
theorem ok_is_integer {f : Addr} {fd : FuncData} (F : Fun K "is_integer" "is_integer" s_is_integer f fd) (T : TxF mg) : FnOk P w K mg base CX0 1 f fd ["thing"] (spB K isI) := by
  refine F.ok sc_is_integer (fun vs H Q E h => ?_) (fun cdv A outer s H vs Q E hr h => ?_)
  · obtain ⟨_, _, rfl, _⟩ := h
    rfl
  · obtain ⟨v, d, rfl, hd, k⟩ := h
    refine ⟨_, (pss_one (ps_ret (pe_and (pe_callB call_isi (by rfl) T.m_isinstance (by decide +kernel) (pa_cons (pv 0) (pa_cons (pe_bltn (v := .ty "int") (by rfl) T.m_int (by decide +kernel) rfl) pa_nil))) (pe_one (pe_not (pe_callB call_isi (by rfl) T.m_isinstance (by decide +kernel) (pa_cons (pv 0) (pa_cons (pe_bltn (v := .ty "bool") (by rfl) T.m_bool (by decide +kernel) rfl) pa_nil)))))))), ?_⟩
    have v0 : Evl.Ev (tVar 0) (start sc_is_integer_N [v]) H v := Evl.ev_var rfl
    cases d with
    | none => exact Evl.s_ret (v := .bl false) (Evl.ev_andV (a := false) (b := false) (evq_isi v0 hd isi_NoneType_int) fun z => nomatch z) k
    | bool z => exact Evl.s_ret (v := .bl false) (Evl.ev_andV (a := true) (b := false) (evq_isi v0 hd isi_bool_int) fun _ => Evl.ev_notV (a := true) (evq_isi v0 hd isi_bool_bool)) k
    | int z => exact Evl.s_ret (v := .bl true) (Evl.ev_andV (a := true) (b := true) (evq_isi v0 hd isi_int_int) fun _ => Evl.ev_notV (a := false) (evq_isi v0 hd isi_int_bool)) k
    | str z' => exact Evl.s_ret (v := .bl false) (Evl.ev_andV (a := false) (b := false) (evq_isi v0 hd isi_str_int) fun z => nomatch z) k
    | list ds => exact Evl.s_ret (v := .bl false) (Evl.ev_andV (a := false) (b := false) (evq_isi v0 hd isi_list_int) fun z => nomatch z) k
    | tuple ds => exact Evl.s_ret (v := .bl false) (Evl.ev_andV (a := false) (b := false) (evq_isi v0 hd isi_tuple_int) fun z => nomatch z) k
    | dict z' => exact Evl.s_ret (v := .bl false) (Evl.ev_andV (a := false) (b := false) (evq_isi v0 hd isi_dict_int) fun z => nomatch z) k
theorem ok_is_label {f : Addr} {fd : FuncData} (F : Fun K "is_label" "is_label" s_is_label f fd) (T : TxF mg) : FnOk P w K mg base CX0 1 f fd ["thing"] (spB K isL) := by
  refine F.ok sc_is_label (fun vs H Q E h => ?_) (fun cdv A outer s H vs Q E hr h => ?_)
  · obtain ⟨_, _, rfl, _⟩ := h
    rfl
  · obtain ⟨v, d, rfl, hd, k⟩ := h
    refine ⟨_, (pss_one (ps_ret (pe_callB call_isi (by rfl) T.m_isinstance (by decide +kernel) (pa_cons (pv 0) (pa_cons (pe_bltn (v := .ty "bool") (by rfl) T.m_bool (by decide +kernel) rfl) pa_nil))))), ?_⟩
    have v0 : Evl.Ev (tVar 0) (start sc_is_label_N [v]) H v := Evl.ev_var rfl
    cases d with
    | none => exact Evl.s_ret (evq_isi v0 hd isi_NoneType_bool) k
    | bool z => exact Evl.s_ret (evq_isi v0 hd isi_bool_bool) k
    | int z => exact Evl.s_ret (evq_isi v0 hd isi_int_bool) k
    | str z => exact Evl.s_ret (evq_isi v0 hd isi_str_bool) k
    | list ds => exact Evl.s_ret (evq_isi v0 hd isi_list_bool) k
    | tuple ds => exact Evl.s_ret (evq_isi v0 hd isi_tuple_bool) k
    | dict z => exact Evl.s_ret (evq_isi v0 hd isi_dict_bool) k
theorem ok_is_row {f : Addr} {fd : FuncData} (F : Fun K "is_row" "is_row" s_is_row f fd) (T : TxF mg) : FnOk P w K mg base CX0 1 f fd ["thing"] (spB K isR) := by
  refine F.ok sc_is_row (fun vs H Q E h => ?_) (fun cdv A outer s H vs Q E hr h => ?_)
  · obtain ⟨_, _, rfl, _⟩ := h
    rfl
  · obtain ⟨v, d, rfl, hd, k⟩ := h
    refine ⟨_, (pss_one (ps_ret (pe_callB call_isiT (by rfl) T.m_isinstance (by decide +kernel) (pa_cons (pv 0) (pa_cons (pe_tup (pa_cons (pe_bltn (v := .ty "list") (by rfl) T.m_list (by decide +kernel) rfl) (pa_cons (pe_bltn (v := .ty "tuple") (by rfl) T.m_tuple (by decide +kernel) rfl) pa_nil))) pa_nil))))), ?_⟩
    have v0 : Evl.Ev (tVar 0) (start sc_is_row_N [v]) H v := Evl.ev_var rfl
    cases d with
    | none => exact Evl.s_ret (evq_isi2 v0 hd isi_NoneType_list_tuple) k
    | bool z => exact Evl.s_ret (evq_isi2 v0 hd isi_bool_list_tuple) k
    | int z => exact Evl.s_ret (evq_isi2 v0 hd isi_int_list_tuple) k
    | str z => exact Evl.s_ret (evq_isi2 v0 hd isi_str_list_tuple) k
    | list ds => exact Evl.s_ret (evq_isi2 v0 hd isi_list_list_tuple) k
    | tuple ds => exact Evl.s_ret (evq_isi2 v0 hd isi_tuple_list_tuple) k
    | dict z => exact Evl.s_ret (evq_isi2 v0 hd isi_dict_list_tuple) k
theorem ok_is_number_of_places {f : Addr} {fd : FuncData} (F : Fun K "is_number_of_places" "is_number_of_places" s_is_number_of_places f fd) (T : TxF mg) (D_is_integer : DefAt P w K mg base "is_integer" 1 ["thing"] (spB K isI)) : FnOk P w K mg base CX0 2 f fd ["thing"] (spB K isN) := by
  refine F.ok sc_is_number_of_places (fun vs H Q E h => ?_) (fun cdv A outer s H vs Q E hr h => ?_)
  · obtain ⟨_, _, rfl, _⟩ := h
    rfl
  · obtain ⟨v, d, rfl, hd, k⟩ := h
    refine ⟨_, (pss_one (ps_ret (pe_and (pe_callD D_is_integer (by first | exact hr | exact hr.mono (by decide) | exact hr.mono (by omega)) (by rfl) (pa_cons (pv 0) pa_nil)) (pe_one (pe_chain op_le op_le (pe_glob (v := .int 1) (by rfl) T.c_LEAST_PLACES.choose_spec (by exact ⟨_, rfl⟩)) (pv 0) (pe_glob (v := .int 3) (by rfl) T.c_MOST_PLACES.choose_spec (by exact ⟨_, rfl⟩))))))), ?_⟩
    have v0 : Evl.Ev (tVar 0) (start sc_is_number_of_places_N [v]) H v := Evl.ev_var rfl
    have e : isI d = true → ∃ i, d = .int i := fun z => by
      cases d <;> first | exact ⟨_, rfl⟩ | cases z
    have q : (isI d && isN d) = isN d := by
      cases d <;> rfl
    refine Evl.s_ret (v := .bl (isN d)) (Evl.ev_is (Evl.ev_andV (a := isI d) (b := isN d) (ev_spBq v0 hd) fun z => ?_) (congrArg V.bl q)) k
    obtain ⟨i, rfl⟩ := e z
    cases hd
    refine ev_chain (k := decide (1 ≤ i)) Evl.ev_c v0 (Evl.rv_I0 (g := fun a b => .bl (decide (a ≤ b)))) (fun _ => Evl.ev_c) (fun _ => ?_) (fun z => ?_)
    · have e : (isN (.int i)) = decide (i ≤ 3) := by
        show (decide (1 ≤ i) && decide (i ≤ 3)) = _
        rw [‹decide (1 ≤ i) = true›]
        rfl
      rw [e]
      exact Evl.rv_I0 (g := fun a b => .bl (decide (a ≤ b)))
    · show (decide (1 ≤ i) && decide (i ≤ 3)) = false
      rw [z]
      rfl
theorem ok_is_row_of {f : Addr} {fd : FuncData} (F : Fun K "is_row_of" "is_row_of" s_is_row_of f fd) (T : TxF mg) (D_is_row : DefAt P w K mg base "is_row" 1 ["thing"] (spB K isR)) : FnOk P w K mg base CX0 2 f fd ["thing", "many"] (spBp K isO) := by
  refine F.ok sc_is_row_of (fun vs H Q E h => ?_) (fun cdv A outer s H vs Q E hr h => ?_)
  · obtain ⟨_, _, _, rfl, _⟩ := h
    rfl
  · obtain ⟨v, d, p, rfl, hd, hw, k⟩ := h
    refine ⟨_, (pss_one (ps_ret (pe_and (pe_callD D_is_row (by first | exact hr | exact hr.mono (by decide) | exact hr.mono (by omega)) (by rfl) (pa_cons (pv 0) pa_nil)) (pe_one (pe_cmpR op_eq (pe_callB call_len_seq (by rfl) T.m_len (by decide +kernel) (pa_cons (pv 0) pa_nil)) (pv 1) (nomark _)))))), ?_⟩
    have v0 : Evl.Ev (tVar 0) (start sc_is_row_of_N [v, .int p]) H v := Evl.ev_var rfl
    have v1 : Evl.Ev (tVar 1) (start sc_is_row_of_N [v, .int p]) H (.int p) := Evl.ev_var rfl
    have q : (isR d && isO p d) = isO p d := by
      cases d <;> rfl
    refine Evl.s_ret (v := .bl (isO p d)) (Evl.ev_is (Evl.ev_andV (a := isR d) (b := isO p d) (ev_spBq v0 hd) fun z => ?_) (congrArg V.bl q)) k
    have main : ∀ (a : Addr) (xs : List V) (ds : List PyData), v = .ref a → (SqL K H a xs ∨ SqT K H a xs) → DqAll K H xs ds → Evl.Ev (tOp rEq (tCB (fun xs H Q => ∃ p ys, xs = [V.ref p] ∧ (SqL K H p ys ∨ SqT K H p ys) ∧ Q (.int ys.length) H) (tCons (tVar 0) tNil)) (tVar 1)) (start sc_is_row_of_N [v, .int p]) H (.bl (decide ((ds.length : Int) = p))) := by
      rintro a xs ds rfl hx ha
      have hlen := dqa_len ha
      refine Evl.ev_is (Evl.ev_op (ev_lenS v0 hx) v1 (Evl.rv_eq rfl)) ?_
      rw [hlen]
      exact congrArg V.bl (by simp)
    cases d with
    | list ds =>
      cases hd with
      | lst hs ha => exact main _ _ ds rfl (.inl hs) ha
    | tuple ds =>
      cases hd with
      | tup hs ha => exact main _ _ ds rfl (.inr hs) ha
    | _ => cases z
theorem ok_is_point {f : Addr} {fd : FuncData} (F : Fun K "is_point" "is_point" s_is_point f fd) (T : TxF mg) (D_is_integer : DefAt P w K mg base "is_integer" 1 ["thing"] (spB K isI)) (D_is_row_of : DefAt P w K mg base "is_row_of" 2 ["thing", "many"] (spBp K isO)) : FnOk P w K mg base CX0 3 f fd ["thing", "places"] (spBp K isP) := by
  refine F.ok sc_is_point (fun vs H Q E h => ?_) (fun cdv A outer s H vs Q E hr h => ?_)
  · obtain ⟨_, _, _, rfl, _⟩ := h
    rfl
  · obtain ⟨v, d, p, rfl, hd, hw, k⟩ := h
    refine ⟨_, (pss_one (ps_ret (pe_and (pe_callD D_is_row_of (by first | exact hr | exact hr.mono (by decide) | exact hr.mono (by omega)) (by rfl) (pa_cons (pv 0) (pa_cons (pv 1) pa_nil))) (pe_one (pe_callB (cr_all rfl) (by rfl) T.m_all (by decide +kernel) (pa_cons (pe_lc (own := [("entry", 2)]) (g := gName 2) (tt := tYes) (by rfl) sc_is_point.nd (pi_seq (pv 0)) (blkOk_by (N := sc_is_point_N) (sc := defScope s_is_point) (by decide +kernel)) (fun _ _ _ _ _ => (pg_name (i := 2) sc_is_point.nd rfl (by first | exact Or.inl rfl | exact Or.inr rfl))) (fun _ _ _ _ _ => pts_nil) (fun _ _ _ _ _ => (pe_callD D_is_integer (by first | exact hr | exact hr.mono (by decide) | exact hr.mono (by omega)) (by rfl) (pa_cons (pv 2) pa_nil)))) pa_nil)))))), ?_⟩
    have v0 : Evl.Ev (tVar 0) (start sc_is_point_N [v, .int p]) H v := Evl.ev_var rfl
    have v1 : Evl.Ev (tVar 1) (start sc_is_point_N [v, .int p]) H (.int p) := Evl.ev_var rfl
    have q : (isO p d && isP p d) = isP p d := by
      exact isP_two
    refine Evl.s_ret (v := .bl (isP p d)) (Evl.ev_is (Evl.ev_andV (a := isO p d) (b := isP p d) (ev_spBpq v0 v1 hd hw) fun z => ?_) (congrArg V.bl q)) k
    have main : ∀ (a : Addr) (xs : List V) (ds : List PyData), v = .ref a → (SqL K H a xs ∨ SqT K H a xs) → DqAll K H xs ds → ds.length ≤ 40000 → (ds.length : Int) = p → Evl.Ev (tCB (rAll K) (tCons (tLc (iSeq K (tVar 0)) (gName 2) tYes (tCallD (spB K isI) (tCons (tVar 2) tNil)) [2]) tNil)) (start sc_is_point_N [v, .int p]) H (.bl (decide ((ds.length : Int) = p) && ds.all isI)) := by
      rintro a xs ds rfl hx ha hz he
      refine Evl.ev_is (ev_all (bs := ds.map isI) ?_) (congrArg V.bl (by simp [he]))
      exact el_seqBq v0 hx ha hz (fun _ => rfl) (fun x d H1 _ e1 hd' => ev_spBq (Evl.ev_var rfl) hd')
    cases d with
    | list ds =>
      cases hd with
      | lst hs ha => exact main _ _ ds rfl (.inl hs) ha (fits_len (.inl hw)) (of_decide_eq_true z)
    | tuple ds =>
      cases hd with
      | tup hs ha => exact main _ _ ds rfl (.inr hs) ha (fits_len (.inr hw)) (of_decide_eq_true z)
    | _ => cases z
theorem ok_is_example {f : Addr} {fd : FuncData} (F : Fun K "is_example" "is_example" s_is_example f fd) (T : TxF mg) (D_is_row_of : DefAt P w K mg base "is_row_of" 2 ["thing", "many"] (spBp K isO)) (D_is_point : DefAt P w K mg base "is_point" 3 ["thing", "places"] (spBp K isP)) (D_is_label : DefAt P w K mg base "is_label" 1 ["thing"] (spB K isL)) : FnOk P w K mg base CX0 4 f fd ["thing", "places"] (spBp K isX) := by
  refine F.ok sc_is_example (fun vs H Q E h => ?_) (fun cdv A outer s H vs Q E hr h => ?_)
  · obtain ⟨_, _, _, rfl, _⟩ := h
    rfl
  · obtain ⟨v, d, p, rfl, hd, hw, k⟩ := h
    refine ⟨_, (pss_one (ps_ret (pe_and (pe_callD D_is_row_of (by first | exact hr | exact hr.mono (by decide) | exact hr.mono (by omega)) (by rfl) (pa_cons (pv 0) (pa_cons pe_int pa_nil))) (pe_and (pe_callD D_is_point (by first | exact hr | exact hr.mono (by decide) | exact hr.mono (by omega)) (by rfl) (pa_cons (pe_ix ix_seq (pv 0) pe_int (fun _ _ => rfl)) (pa_cons (pv 1) pa_nil))) (pe_one (pe_callD D_is_label (by first | exact hr | exact hr.mono (by decide) | exact hr.mono (by omega)) (by rfl) (pa_cons (pe_ix ix_seq (pv 0) pe_int (fun _ _ => rfl)) pa_nil))))))), ?_⟩
    have v0 : Evl.Ev (tVar 0) (start sc_is_example_N [v, .int p]) H v := Evl.ev_var rfl
    have v1 : Evl.Ev (tVar 1) (start sc_is_example_N [v, .int p]) H (.int p) := Evl.ev_var rfl
    have q : (isO 2 d && isX p d) = isX p d := by
      cases d with
      | list ds => exact isX_two (.inl rfl)
      | tuple ds => exact isX_two (.inr rfl)
      | _ => rfl
    refine Evl.s_ret (v := .bl (isX p d)) (Evl.ev_is (Evl.ev_andV (a := isO 2 d) (b := isX p d) (ev_spBpq v0 Evl.ev_c hd hw) fun z => ?_) (congrArg V.bl q)) k
    have main : ∀ (a : Addr) (xs : List V) (ds : List PyData), v = .ref a → (SqL K H a xs ∨ SqT K H a xs) → DqAll K H xs ds → ds.length = 2 → (∀ a b, ds = [a, b] → isX p d = (isP p a && isL b)) → (∀ a b, ds = [a, b] → ∃ n, fits n a) →
        Evl.Ev (tAndV (tCallD (spBp K isP) (tCons (tOp (rIxA K) (tVar 0) (tC (.int 0))) (tCons (tVar 1) tNil))) (tCallD (spB K isL) (tCons (tOp (rIxA K) (tVar 0) (tC (.int 1))) tNil))) (start sc_is_example_N [v, .int p]) H (.bl (isX p d)) := by
      rintro a xs ds rfl hx ha h2 q2 qw
      obtain ⟨d1, d2, e⟩ : ∃ d1 d2, ds = [d1, d2] := by
        match ds, h2 with
        | [a, b], _ => exact ⟨a, b, rfl⟩
      subst e
      cases ha with
      | @cons x1 _ _ _ g1 hr =>
        cases hr with
        | @cons x2 _ _ _ g2 hr2 =>
          cases hr2
          have i0 : atI [x1, x2] 0 = some x1 := rfl
          have i1 : atI [x1, x2] 1 = some x2 := rfl
          rw [q2 d1 d2 rfl]
          exact Evl.ev_andV (ev_spBpq (ev_ixA v0 hx i0) v1 g1 (qw d1 d2 rfl)) fun _ => ev_spBq (ev_ixA v0 hx i1) g2
    cases d with
    | list ds =>
      have h2 : ds.length = 2 := by have := of_decide_eq_true z; omega
      cases hd with
      | lst hs ha => exact main _ _ ds rfl (.inl hs) ha h2 (fun a b e => by rw [e]; rfl) (fun a b e => fits_in (.inl hw) (by rw [e]; simp))
    | tuple ds =>
      have h2 : ds.length = 2 := by have := of_decide_eq_true z; omega
      cases hd with
      | tup hs ha => exact main _ _ ds rfl (.inr hs) ha h2 (fun a b e => by rw [e]; rfl) (fun a b e => fits_in (.inr hw) (by rw [e]; simp))
    | _ => cases z
/-- a row: some whole numbers and a label -/
def rowD (ns : List Int) (b : Bool) : PyData := .tuple [.tuple (ns.map .int), .bool b]
def Sm (ns : List Int) : Prop := ∀ e ∈ ns, -999999 ≤ e ∧ e ≤ 999999
def Rw (p : Int) (d : PyData) : Prop := ∃ ns b, d = rowD ns b ∧ (ns.length : Int) = p ∧ ns.length ≤ 3 ∧ Sm ns
theorem rw_isX {p : Int} {d : PyData} (h : Rw p d) : isX p d = true := by
  obtain ⟨ns, b, rfl, h1, h2, h3⟩ := h
  show (decide (((ns.map PyData.int).length : Int) = p) && (ns.map PyData.int).all isI && true) = true
  rw [List.length_map, h1]
  simp [isI]
theorem rw_fits {p : Int} {d : PyData} (h : Rw p d) : fits 2 d := by
  obtain ⟨ns, b, rfl, h1, h2, h3⟩ := h
  refine ⟨by show 2 ≤ 40000; omega, fun e he => ?_⟩
  rcases List.mem_cons.mp he with z | z
  · subst z
    refine ⟨by rw [List.length_map]; omega, fun e he => ?_⟩
    obtain ⟨i, _, rfl⟩ := List.mem_map.mp he
    trivial
  · rcases List.mem_cons.mp z with z | z
    · subst z
      trivial
    · cases z
def rowL (ns : List Int) (b : Bool) : PyData := .tuple [.list (ns.map .int), .bool b]
/-- .. as a list or a tuple -/
def Rl2 (p : Int) (d : PyData) : Prop := ∃ ns b, (d = rowD ns b ∨ d = rowL ns b) ∧ (ns.length : Int) = p ∧ ns.length ≤ 3 ∧ Sm ns
def normR : PyData → PyData
  | .tuple [.list xs, b] => .tuple [.tuple xs, b]
  | d => d
theorem rl2_isX {p : Int} {d : PyData} (h : Rl2 p d) : isX p d = true := by
  obtain ⟨ns, b, rfl | rfl, h1, h2, h3⟩ := h
  · show (decide (((ns.map PyData.int).length : Int) = p) && (ns.map PyData.int).all isI && true) = true
    rw [List.length_map, h1]
    simp [isI]
  · show (decide (((ns.map PyData.int).length : Int) = p) && (ns.map PyData.int).all isI && true) = true
    rw [List.length_map, h1]
    simp [isI]
theorem rl2_fits {p : Int} {d : PyData} (h : Rl2 p d) : fits 2 d := by
  obtain ⟨ns, b, rfl | rfl, h1, h2, h3⟩ := h
  · exact rw_fits (p := p) ⟨ns, b, rfl, h1, h2, h3⟩
  · refine ⟨by show 2 ≤ 40000; omega, fun e he => ?_⟩
    rcases List.mem_cons.mp he with z | z
    · subst z
      refine ⟨by rw [List.length_map]; omega, fun e he => ?_⟩
      obtain ⟨i, _, rfl⟩ := List.mem_map.mp he
      trivial
    · rcases List.mem_cons.mp z with z | z
      · subst z
        trivial
      · cases z

def gSq (K : PySem.W.Frag) (n : Nat) (t : TGs) : TG := fun v σ H Q => gTup K n t v σ H Q ∨ gLst K n t v σ H Q
theorem pg_sq {X : Cx} {pos : Pos} {es : List Expr} {k : Nat} {t : TGs} {n : Nat} (hc : X.calm = true) (h : PGs X es t)
    (hn : (assignEach es X.env).length = n := by rfl) (hst : (assignEach es X.env).findIdx? (·.1) = none := by rfl) : PG X (.Tuple es k pos) (gSq X.K n t) :=
  ⟨fun pins s σ H v u Q I r hw => hw.elim (fun z => (pg_tup hc h hn hst).run pins s σ H v u Q I r z) fun z => (pg_lst hc h hn hst).run pins s σ H v u Q I r z⟩
/-- each of L a list -/
def Lsts (L : List Addr) (H : Hp) : Prop := ∀ a ∈ L, ∃ xs, H a = some (.lst xs)
section
variable {L : List Addr} {H H' : Hp} {a : Addr} {xs : List V}
theorem Lsts.ex (h : Lsts L H) (e : Ex H H') : Lsts L H' := fun a m => by
  obtain ⟨xs, q⟩ := h a m
  exact ⟨xs, e _ _ q⟩
theorem Lsts.hid (h : Lsts L H) : Hid L H := fun a m z => by
  obtain ⟨xs, q⟩ := h a m
  rw [z] at q
  cases q
theorem Lsts.tup (h : Lsts L H) (t : SqT K H a xs) : SqT K (W L H) a xs := by
  rcases t with (t | ⟨o, t⟩) | t
  · refine .inl (.inl (w_of (fun m => ?_) t))
    obtain ⟨ys, q⟩ := h a m
    rw [t] at q
    cases q
  · refine .inl (.inr ⟨o, w_of (fun m => ?_) t⟩)
    obtain ⟨ys, q⟩ := h a m
    rw [t] at q
    cases q
  · exact .inr t
theorem lsts_nil : Lsts [] H := fun _ m => nomatch m
theorem lsts_cons (h : H a = some (.lst xs)) (h2 : Lsts L H) : Lsts (a :: L) H := fun b m => by
  rcases List.mem_cons.mp m with z | z
  · rw [z]; exact ⟨xs, h⟩
  · exact h2 b z
end
/-- what may stand at an address for an example, made of lists or tuples -/
def rowM (o i : Bool) (ns : List Int) (b : Bool) : PyData := if o then .tuple [if i then .tuple (ns.map .int) else .list (ns.map .int), .bool b] else .list [if i then .tuple (ns.map .int) else .list (ns.map .int), .bool b]
def RlM (p : Int) (d : PyData) : Prop := ∃ o i ns b, d = rowM o i ns b ∧ (ns.length : Int) = p ∧ ns.length ≤ 3 ∧ Sm ns
theorem cpy_M {o i : Bool} {ns : List Int} {b : Bool} : cpy (rowM o i ns b) = rowD ns b := by cases o <;> cases i <;> rfl
theorem rlM_isX {p : Int} {d : PyData} (h : RlM p d) : isX p d = true := by
  obtain ⟨o, i, ns, b, rfl, h1, h2, h3⟩ := h
  have q : (decide (((ns.map PyData.int).length : Int) = p) && (ns.map PyData.int).all isI && true) = true := by
    rw [List.length_map, h1]
    simp [isI]
  cases o <;> cases i <;> exact q
theorem fits_ints {n : Nat} {ns : List Int} (h : ns.length ≤ 40000) : fits (n + 1) (.list (ns.map .int)) ∧ fits (n + 1) (.tuple (ns.map .int)) := by
  have : ∀ d ∈ ns.map PyData.int, fits n d := fun d hd => by
    obtain ⟨i, _, rfl⟩ := List.mem_map.mp hd
    cases n <;> trivial
  exact ⟨⟨by rw [List.length_map]; exact h, this⟩, ⟨by rw [List.length_map]; exact h, this⟩⟩
theorem rlM_fits {p : Int} {d : PyData} (h : RlM p d) : fits 2 d := by
  obtain ⟨o, i, ns, b, rfl, h1, h2, h3⟩ := h
  have q : ∀ e ∈ [if i then PyData.tuple (ns.map .int) else .list (ns.map .int), .bool b], fits 1 e := fun e he => by
    simp only [List.mem_cons, List.not_mem_nil, or_false] at he
    rcases he with rfl | rfl
    · cases i
      · exact (fits_ints (n := 0) (by omega)).1
      · exact (fits_ints (n := 0) (by omega)).2
    · trivial
  cases o
  · exact ⟨by show 2 ≤ 40000; omega, q⟩
  · exact ⟨by show 2 ≤ 40000; omega, q⟩
theorem Rw.toM {p : Int} {d : PyData} (h : Rw p d) : RlM p d := by
  obtain ⟨ns, b, rfl, h1, h2, h3⟩ := h
  exact ⟨true, true, ns, b, rfl, h1, h2, h3⟩
theorem dpa_intsM {H : Hp} : ∀ {ns : List Int} {ys : List V}, DpAll K H ys (ns.map PyData.int) → ∀ H', DpAll K H' ys (ns.map PyData.int)
  | [], _, h, _ => by cases h; exact .nil
  | _ :: _, _, h, H' => by
    cases h with
    | cons h1 h2 =>
      cases h1
      exact .cons (.int _) (dpa_intsM h2 H')
/-- tuple(x) of a list or a tuple of data, told without the lists of L -/
theorem evd_tupM {L : List Addr} {σ : L2.St} {H : Hp} {te : TE} {x : V} {ns : List Int} (h : Evl.Ev te σ H x) (hd : Dp K H x (.list (ns.map .int)) ∨ Dp K H x (.tuple (ns.map .int))) (hL : Lsts L H) : EvD K L (tCB (fun xs H Q => ∃ p ys, xs = [.ref p] ∧ ((SqL K H p ys ∧ ∀ l, H l = none → Q (.ref l) (upd H l (.tup ys))) ∨ (SqT K H p ys ∧ Q (.ref p) H))) (tCons te tNil)) σ H (.tuple (ns.map .int)) := fun H1 e Q q =>
  h H1 e _ fun H2 e2 => by
    rcases hd with hd | hd
    · cases hd with
      | @lst p ys _ hs ha =>
        refine ⟨p, ys, rfl, .inl ⟨Evl.ex_l (e.trans e2) hs, fun r hr => ?_⟩⟩
        exact q (.ref r) _ (e2.trans (Ex.new hr)) (.tup (SqT.of (w_new (hid_ex (e.trans e2) hL.hid) hr)) (dpa_intsM ha _))
    · cases hd with
      | @tup p ys _ hs ha =>
        refine ⟨p, ys, rfl, .inr ⟨Evl.ex_t (e.trans e2) hs, ?_⟩⟩
        exact q (.ref p) _ e2 (.tup ((hL.ex (e.trans e2)).tup (Evl.ex_t (e.trans e2) hs)) (dpa_intsM ha _))
def spCopyM (K : PySem.W.Frag) : Sp := fun vs H Q _ => ∃ v p d L, vs = [v] ∧ Lsts L H ∧ Dp K H v d ∧ RlM p d ∧ ∀ v' H', Ex H H' → Dp K (W L H') v' (cpy d) → Q v' H'
theorem ok_copiedM {f : Addr} {fd : FuncData} (F : Fun K "copied_example" "copied_example" s_copied_example f fd) (T : TxF mg) : FnOk P w K mg base CX0 1 f fd ["example"] (spCopyM K) := by
  refine F.ok sc_copied_example (fun vs H Q E h => ?_) (fun cdv A outer s H vs Q E hr h => ?_)
  · obtain ⟨_, _, _, _, rfl, _⟩ := h
    rfl
  · obtain ⟨v, p, d, L, rfl, hL, hd, hrw, k⟩ := h
    refine ⟨_, (pss_cons (ps_asg (pv 0) (pg_sq (by rfl) (pgs_cons (pg_name (i := 1) sc_copied_example.nd rfl (by first | exact Or.inl rfl | exact Or.inr rfl)) (pgs_cons (pg_name (i := 2) sc_copied_example.nd rfl (by first | exact Or.inl rfl | exact Or.inr rfl)) pgs_nil))))
    (pss_one (ps_ret (pe_tup (pa_cons (pe_callTy call_tuple_of (by rfl) T.m_tuple (by decide +kernel) (pa_cons (pv 1) pa_nil)) (pa_cons (pv 2) pa_nil)))))), ?_⟩
    obtain ⟨o, i, ns, b, rfl, h1, h2, h3⟩ := hrw
    have fin : ∀ (a : Addr) (x1 x2 : V), v = .ref a → (SqL K H a [x1, x2] ∨ SqT K H a [x1, x2]) → (Dp K H x1 (.list (ns.map .int)) ∨ Dp K H x1 (.tuple (ns.map .int))) → x2 = .bl b → tSeq (tAsg (tVar 0) (gSq K 2 (gCons (gName 1) (gCons (gName 2) gNil)))) (tRet (tTup (tCons (tCB (fun xs H Q => ∃ p ys, xs = [.ref p] ∧ ((SqL K H p ys ∧ ∀ l, H l = none → Q (.ref l) (upd H l (.tup ys))) ∨ (SqT K H p ys ∧ Q (.ref p) H))) (tCons (tVar 1) tNil)) (tCons (tVar 2) tNil)))) { nx := fun _ H' => Q .non H', rt := Q } (start sc_copied_example_N [v]) H := by
      rintro a x1 x2 rfl hs r1 rfl
      have go : tRet (tTup (tCons (tCB (fun xs H Q => ∃ p ys, xs = [.ref p] ∧ ((SqL K H p ys ∧ ∀ l, H l = none → Q (.ref l) (upd H l (.tup ys))) ∨ (SqT K H p ys ∧ Q (.ref p) H))) (tCons (tVar 1) tNil)) (tCons (tVar 2) tNil))) { nx := fun _ H' => Q .non H', rt := Q } [some (.ref a), some x1, some (.bl b)] H :=
        d_ret (K := K) (L := L) (d := rowD ns b) (evd_tup hL.hid (evds_cons (evd_tupM (Evl.ev_var rfl) r1 hL) (evds_cons (evd_of (Evl.ev_var rfl) (.bl b)) evds_nil)) (by show 2 ≤ 100000; omega)) (fun v' H' e hv => k v' H' e (by rw [cpy_M]; exact hv))
      refine ⟨_, rfl, ?_⟩
      rcases hs with hs | hs
      · exact .inr ⟨a, [x1, .bl b], rfl, hs, rfl, x1, [.bl b], rfl, .bl b, [], rfl, rfl, go⟩
      · exact .inl ⟨a, [x1, .bl b], rfl, hs, rfl, x1, [.bl b], rfl, .bl b, [], rfl, rfl, go⟩
    have pt : ∀ {x1 : V} {i : Bool}, Dp K H x1 (if i = true then .tuple (ns.map .int) else .list (ns.map .int)) → (Dp K H x1 (.list (ns.map .int)) ∨ Dp K H x1 (.tuple (ns.map .int))) := fun {x1 i} h => by
      cases i
      · exact .inl h
      · exact .inr h
    cases o with
    | true =>
      cases hd with
      | @tup a ys _ hs ha =>
        cases ha with
        | @cons x1 us1 _ _ r1 rr =>
          cases rr with
          | @cons x2 us2 _ _ r2 rr2 =>
            cases rr2
            cases r2
            exact fin a x1 _ rfl (.inr hs) (pt r1) rfl
    | false =>
      cases hd with
      | @lst a ys _ hs ha =>
        cases ha with
        | @cons x1 us1 _ _ r1 rr =>
          cases rr with
          | @cons x2 us2 _ _ r2 rr2 =>
            cases rr2
            cases r2
            exact fin a x1 _ rfl (.inl hs) (pt r1) rfl
end
end U

set_option Elab.async false
set_option linter.all false
set_option maxRecDepth 100000
set_option maxHeartbeats 4000000
namespace U
open PySem PySem.Spec PyProof.Rows L2
open Evl (Ex)
open C8 (Met Mak pe_mt pe_mt0 pe_mk)
abbrev s_Sample_init : Stmt := inClass (top 18) 0
abbrev sc_Sample_init_N : List Str := ["self", "places", "examples", "index", "thing", "example"]
theorem sc_Sample_init : FnScope sc_Sample_init_N ["self", "places", "examples"] (defScope s_Sample_init) := ⟨rfl, rfl, rfl, by decide +kernel, rfl, by decide +kernel, by decide +kernel⟩
abbrev s_Sample_examples : Stmt := inClass (top 18) 1
abbrev sc_Sample_examples_N : List Str := ["self"]
theorem sc_Sample_examples : FnScope sc_Sample_examples_N ["self"] (defScope s_Sample_examples) := ⟨rfl, rfl, rfl, by decide +kernel, rfl, by decide +kernel, by decide +kernel⟩
abbrev s_Sample_len : Stmt := inClass (top 18) 7
abbrev sc_Sample_len_N : List Str := ["self"]
theorem sc_Sample_len : FnScope sc_Sample_len_N ["self"] (defScope s_Sample_len) := ⟨rfl, rfl, rfl, by decide +kernel, rfl, by decide +kernel, by decide +kernel⟩
abbrev s_Sample_iter : Stmt := inClass (top 18) 8
abbrev sc_Sample_iter_N : List Str := ["self"]
theorem sc_Sample_iter : FnScope sc_Sample_iter_N ["self"] (defScope s_Sample_iter) := ⟨rfl, rfl, rfl, by decide +kernel, rfl, by decide +kernel, by decide +kernel⟩
abbrev s_Sample_contains : Stmt := inClass (top 18) 9
abbrev sc_Sample_contains_N : List Str := ["self", "thing"]
theorem sc_Sample_contains : FnScope sc_Sample_contains_N ["self", "thing"] (defScope s_Sample_contains) := ⟨rfl, rfl, rfl, by decide +kernel, rfl, by decide +kernel, by decide +kernel⟩
abbrev s_Sample_eq : Stmt := inClass (top 18) 11
abbrev sc_Sample_eq_N : List Str := ["self", "other"]
theorem sc_Sample_eq : FnScope sc_Sample_eq_N ["self", "other"] (defScope s_Sample_eq) := ⟨rfl, rfl, rfl, by decide +kernel, rfl, by decide +kernel, by decide +kernel⟩
section
def Smp (K : PySem.W.Frag) (L : List Addr) (H : Hp) (x C : Addr) (p : Int) (ds : List PyData) : Prop := ∃ dx v, H x = some (.ins C dx [("places", .int p), ("_pairs", v)]) ∧ Dp K (W L H) v (.tuple ds)
end
section
structure SmpC (K : PySem.W.Frag) (C : Addr) : Prop where
  cl : Cls K C
  nP : NoAttr K C "places"
  nQ : NoAttr K C "_pairs"
  kS : PySem.W.kitOne K (.ref C) (.ref C) = some true
  ha : PySem.W.findIn K (.ref C) "__class__" = some (some (.builtin "object.__class__"))
  hn : PySem.W.specialIn K (.builtin "object.__class__") "__get__" = some (some (.builtin "getset_descriptor.__get__"))
  htk : PySem.W.takesIn K (.builtin "object.__class__") = some true
  hm : PySem.W.mroIn K C (.type "object") = some true
end
section
def Rws (p : Int) (ds : List PyData) : Prop := ds.length ≤ 20000 ∧ ∀ d ∈ ds, Rw p d
end
section
theorem Rws.fit {p : Int} {ds : List PyData} (h : Rws p ds) : fits 3 (.list ds) ∧ fits 3 (.tuple ds) := ⟨⟨by have := h.1; omega, fun d hd => rw_fits (h.2 d hd)⟩, ⟨by have := h.1; omega, fun d hd => rw_fits (h.2 d hd)⟩⟩
end
section
def spExamples (K : PySem.W.Frag) (C : Addr) : Sp := fun vs H Q _ => ∃ x p ds L, vs = [.ref x] ∧ Hid L H ∧ Smp K L H x C p ds ∧ ∀ t H', H t = none → Ex H H' → Gr K L H' t ds → Q (.ref t) H'
end
section
variable {P : Program} {w : World} {K : PySem.W.Frag} {mg : Str → Option Value} {base : Heap} {C : Addr}
theorem funD_ok0 {x qual : Str} {params : Arguments} {body : List Stmt} {scope : Scope} {dvs : List V} {kws : List (Str × V)} {f : Addr} {fd : FuncData} {N ps : List Str} {k : Nat} {sp : Sp} (F : FunD K x qual params body scope dvs kws f fd) (S : FnScope N ps scope) (len : ∀ vs H Q E, sp vs H Q E → vs.length = ps.length)
    (hbody : ∀ (cdv : Value) (A : Around) (outer : List Env) (s : Shared) (H : Hp) (vs : List V) (Q : VK) (E : XK), Room k (A.deeper (envOfC qual scope s.heap.objs.size f cdv)) → sp vs H Q E →
      ∃ t, PSs (cxOf CX0 P w K mg base N qual scope f cdv A outer s H E).nox body t ∧ t { nx := fun _ H' => Q .non H', rt := Q } (start N vs) H) : FnOk P w K mg base CX0 (k + 1) f fd ps sp :=
  F.ok S len fun cdv A outer s H vs Q E hr h => by
    obtain ⟨t, h1, h2⟩ := hbody cdv A outer s H vs Q E hr h
    exact ⟨t, h1.nox, h2⟩
end
section
variable {P : Program} {w : World} {K : PySem.W.Frag} {mg : Str → Option Value} {base : Heap} {C : Addr}
theorem Smp.up {L : List Addr} {H H' : Hp} {x : Addr} {p : Int} {ds : List PyData} (h : Smp K L H x C p ds) (e : Ex H H') : Smp K L H' x C p ds := by
  obtain ⟨dx, v, h1, h2⟩ := h
  exact ⟨dx, v, e _ _ h1, h2.up (w_ex e)⟩
end
section
variable {P : Program} {w : World} {K : PySem.W.Frag} {mg : Str → Option Value} {base : Heap} {C : Addr}
theorem Smp.low {L L2 : List Addr} {H : Hp} {x : Addr} {p : Int} {ds : List PyData} (h : Smp K L2 H x C p ds) (s : ∀ a ∈ L, a ∈ L2) : Smp K L H x C p ds := by
  obtain ⟨dx, v, h1, h2⟩ := h
  exact ⟨dx, v, h1, h2.up (w_sub2 s)⟩
end
section
variable {P : Program} {w : World} {K : PySem.W.Frag} {mg : Str → Option Value} {base : Heap} {C : Addr}
theorem sfld_run {ta tv : TE} {f : Str} {D : Ends} {σ : L2.St} {H : Hp} (h : tv σ H fun y H1 => ta σ H1 fun x H2 => ∃ a C dx fs, x = .ref a ∧ H2 a = some (.ins C dx fs) ∧ Cls K C ∧ NoAttr K C f ∧ fs.length < 1000 ∧ D.nx σ (upd H2 a (.ins C dx (putF f y fs)))) : sFld K ta tv f D σ H := h
end
section
variable {P : Program} {w : World} {K : PySem.W.Frag} {mg : Str → Option Value} {base : Heap} {C : Addr}
theorem ok_Sexamples {f : Addr} {fd : FuncData} (F : Fun K "examples" "Sample.examples" s_Sample_examples f fd) (T : TxF mg) (S : SmpC K C) : FnOk P w K mg base CX0 1 f fd ["self"] (spExamples K C) := by
  refine F.ok sc_Sample_examples (fun vs H Q E h => ?_) (fun cdv A outer s H vs Q E hr h => ?_)
  · obtain ⟨_, _, _, _, rfl, _⟩ := h
    rfl
  · obtain ⟨x, p, ds, L, rfl, hL, hS, k⟩ := h
    refine ⟨_, (pss_one (ps_ret (pe_callTy call_list_of (by rfl) T.m_list (by decide +kernel) (pa_cons (pe_fld (pv 0) rfl) pa_nil)))), ?_⟩
    obtain ⟨dx, v, h1, h2⟩ := hS
    exact eg_list (ev_fld (v := v) (Evl.ev_var (v := .ref x) rfl) h1 S.cl S.nQ rfl) (.inr h2) hL _ (Ex.refl _) _ k
end

def RwsM (p : Int) (ds : List PyData) : Prop := ds.length ≤ 20000 ∧ ∀ d ∈ ds, RlM p d
section
variable {P : Program} {w : World} {K : PySem.W.Frag} {mg : Str → Option Value} {base : Heap} {C : Addr}

mutual
theorem dp_offI {H : Hp} {x dx : Addr} {fs : List (Str × V)} {L : List Addr} (hx : H x = some (.ins C dx fs)) : ∀ (d : PyData) (v : V), Dp K (W L H) v d → Dp K (W (x :: L) H) v d
  | .none, _, h => by cases h; exact .non
  | .bool _, _, h => by cases h; exact .bl _
  | .int _, _, h => by cases h; exact .int _
  | .str _, _, h => by cases h; exact .str _
  | .list ds, _, h => by
    cases h with
    | lst hs ha =>
      refine .lst ?_ (dpa_offI hx ds _ ha)
      rcases hs with (hs | ⟨o, hs⟩) | hs
      · obtain ⟨h1, n⟩ := w_in hs
        exact .inl (.inl (w_of (fun m => (List.mem_cons.mp m).elim (fun z => by rw [z, hx] at h1; cases h1) n) h1))
      · obtain ⟨h1, n⟩ := w_in hs
        exact .inl (.inr ⟨o, w_of (fun m => (List.mem_cons.mp m).elim (fun z => by rw [z, hx] at h1; cases h1) n) h1⟩)
      · exact .inr hs
  | .tuple ds, _, h => by
    cases h with
    | tup hs ha =>
      refine .tup ?_ (dpa_offI hx ds _ ha)
      rcases hs with (hs | ⟨o, hs⟩) | hs
      · obtain ⟨h1, n⟩ := w_in hs
        exact .inl (.inl (w_of (fun m => (List.mem_cons.mp m).elim (fun z => by rw [z, hx] at h1; cases h1) n) h1))
      · obtain ⟨h1, n⟩ := w_in hs
        exact .inl (.inr ⟨o, w_of (fun m => (List.mem_cons.mp m).elim (fun z => by rw [z, hx] at h1; cases h1) n) h1⟩)
      · exact .inr hs
  | .dict _, _, h => by cases h
theorem dpa_offI {H : Hp} {x dx : Addr} {fs : List (Str × V)} {L : List Addr} (hx : H x = some (.ins C dx fs)) : ∀ (ds : List PyData) (vs : List V), DpAll K (W L H) vs ds → DpAll K (W (x :: L) H) vs ds
  | [], _, h => by cases h; exact .nil
  | d :: ds, _, h => by
    cases h with
    | cons h1 h2 => exact .cons (dp_offI hx d _ h1) (dpa_offI hx ds _ h2)
end
/-- [.. for x in a list or a tuple of data], what is made told without the lists of L -/
theorem eg_seqM {L : List Addr} {σ : L2.St} {H : Hp} {te tl : TE} {a : Addr} {xs : List V} {ds : List PyData} {j : Nat} {vs : List Nat} {g : PyData → PyData} (h : Evl.Ev tl σ H (.ref a)) (hx : SqL K H a xs ∨ SqT K H a xs) (hd : DpAll K H xs ds) (hL : Lsts L H) (hz : ds.length ≤ 50000) (hw : ∀ x, wipe ((wipe σ vs).set j (some x)) vs = wipe σ vs)
    (he : ∀ L' (x : V) d H1, d ∈ ds → Lsts L' H1 → Ex H H1 → Dp K H1 x d → EvD K L' te ((wipe σ vs).set j (some x)) H1 (g d)) : EvG K L (tLc (iSeq K tl) (gName j) tYes te vs) σ H (ds.map g) := fun H0 e0 Q q => h H0 e0 _ fun H1 e1 => by
  have hlen := dpa_len hd
  have turn : ∀ (Dl : Addr) (i : Nat) (x : V) (H2 H3 : Hp), i < xs.length → Cmd K L H1 (fun i => (ds.take i).map g) Dl i H2 → YAt xs i H2 x H3 → gName j x (wipe σ vs) H3 fun σ2 H2 => wipe σ2 vs = wipe σ vs ∧ tYes σ2 H2 fun b H3 =>
      if b = true then te σ2 H3 fun y H4 => ∃ acc, H4 Dl = some (.lst acc) ∧ acc.length < sizeLine ∧ Cmd K L H1 (fun i => (ds.take i).map g) Dl (i + 1) (upd H4 Dl (.lst (acc ++ [y]))) else Cmd K L H1 (fun i => (ds.take i).map g) Dl (i + 1) H3 := by
    intro Dl i x H2 H3 hi p yp
    obtain ⟨rfl, hu⟩ := yp
    obtain ⟨d, hd1, hd2⟩ := dpa_get hd hu
    obtain ⟨p1, p2, p3⟩ := id p
    refine ⟨hw x, ?_⟩
    refine yes_lc (A := fun H3 => te ((wipe σ vs).set j (some x)) H3 fun y H4 => ∃ acc, H4 Dl = some (.lst acc) ∧ acc.length < sizeLine ∧ Cmd K L H1 (fun i => (ds.take i).map g) Dl (i + 1) (upd H4 Dl (.lst (acc ++ [y])))) (B := fun H3 => Cmd K L H1 (fun i => (ds.take i).map g) Dl (i + 1) H3) ?_
    obtain ⟨_, acc, p4, _⟩ := id p3
    refine cmd_yes p (by simp; omega) (Ex.refl _) (he _ x d _ (List.mem_of_getElem? hd1) (lsts_cons p4 (hL.ex ((e0.trans e1).trans p2))) ((e0.trans e1).trans p2) (hd2.up ((e0.trans e1).trans p2))) ?_
    have hi' : i < ds.length := by omega
    rw [List.take_add_one, hd1]
    simp
  have fin : ∀ Dl H2, Cmd K L H1 (fun i => (ds.take i).map g) Dl xs.length H2 → Q (.ref Dl) H2 := fun Dl H2 p => by
    obtain ⟨p1, p2, p3⟩ := p
    refine q Dl H2 (Evl.fresh_back e1 p1) (e1.trans p2) ?_
    have e : (ds.take xs.length).map g = ds.map g := by rw [hlen, List.take_length]
    rw [← e]
    exact p3
  have hL1 : Hid L H1 := hid_ex (e0.trans e1) hL.hid
  refine ⟨a, rfl, ?_⟩
  rcases hx with x1 | x1
  · refine .inl ⟨⟨xs, Evl.ex_l (e0.trans e1) x1⟩, fun Dl hD => ?_⟩
    exact lc_it (walk_list (xs := xs)) (Cmd K L H1 (fun i => (ds.take i).map g) Dl) (cmd_0 hL1 hD rfl) (fun i H2 _ p => Evl.ex_l ((e0.trans e1).trans p.2.1) x1) (fun i x H2 H3 hi p y => turn Dl i x H2 H3 hi p y) (fun H2 p => fin Dl H2 p)
  · refine .inr ⟨⟨xs, Evl.ex_t (e0.trans e1) x1⟩, fun Dl hD => ?_⟩
    exact lc_it (walk_tup (xs := xs)) (Cmd K L H1 (fun i => (ds.take i).map g) Dl) (cmd_0 hL1 hD rfl) (fun i H2 _ p => Evl.ex_t ((e0.trans e1).trans p.2.1) x1) (fun i x H2 H3 hi p y => turn Dl i x H2 H3 hi p y) (fun H2 p => fin Dl H2 p)
theorem ev_spCopyM {L : List Addr} {σ : L2.St} {H : Hp} {te : TE} {v : V} {d : PyData} {p : Int} (h : Evl.Ev te σ H v) (hL : Lsts L H) (hd : Dp K H v d) (hr : RlM p d) : EvD K L (tCallD (spCopyM K) (tCons te tNil)) σ H (cpy d) := fun H1 e Q q =>
  h H1 e _ fun H2 e2 => ⟨v, p, d, L, rfl, hL.ex (e.trans e2), hd.up (e.trans e2), hr, fun v' H' e' hv => q v' H' (e2.trans e') hv⟩
def spInitM (K : PySem.W.Frag) (C : Addr) : Sp := fun vs H Q _ => ∃ x dx v p ds L, vs = [.ref x, .int p, v] ∧ H x = some (.ins C dx []) ∧ 1 ≤ p ∧ p ≤ 3 ∧ Lsts L H ∧ (Dp K H v (.list ds) ∨ Dp K H v (.tuple ds)) ∧ RwsM p ds ∧
  ∀ H', (∀ a o, a ≠ x → H a = some o → H' a = some o) → Smp K L H' x C p (ds.map cpy) → Q .non H'
theorem ok_SinitM {f : Addr} {fd : FuncData} {T0 : Addr} (F : FunD K "__init__" "Sample.__init__" (defArgs s_Sample_init) (defBody s_Sample_init) (defScope s_Sample_init) [.ref T0] [] f fd) (T : TxF mg) (S : SmpC K C)
    (D_is_number_of_places : DefAt P w K mg base "is_number_of_places" 2 ["thing"] (spB K isN)) (D_is_row : DefAt P w K mg base "is_row" 1 ["thing"] (spB K isR)) (D_is_example : DefAt P w K mg base "is_example" 4 ["thing", "places"] (spBp K isX))
    (D_copied_example : DefAt P w K mg base "copied_example" 1 ["example"] (spCopyM K)) : FnOk P w K mg base CX0 5 f fd ["self", "places", "examples"] (spInitM K C) := by
  refine funD_ok0 F sc_Sample_init (fun vs H Q E h => ?_) (fun cdv A outer s H vs Q E hr h => ?_)
  · obtain ⟨_, _, _, _, _, _, rfl, _⟩ := h
    rfl
  · obtain ⟨x, dx, v, p, ds, L, rfl, hx, p1, p3, hL, hd, hR, k⟩ := h
    refine ⟨_, (pss_cons (ps_if (pt_not (pt_val (pe_callD D_is_number_of_places (by first | exact hr | exact hr.mono (by decide) | exact hr.mono (by omega)) (by rfl) (pa_cons (pv 1) pa_nil)))) (pss_one ps_never) pss_nil)
    (pss_cons (ps_if (pt_not (pt_val (pe_callD D_is_row (by first | exact hr | exact hr.mono (by decide) | exact hr.mono (by omega)) (by rfl) (pa_cons (pv 2) pa_nil)))) (pss_one ps_never) pss_nil)
    (pss_cons (ps_for PassesOwn.never rfl (pi_enumA (by rfl) T.m_enumerate (pa_cons (pv 2) pa_nil)) (pg_tup (by rfl) (pgs_cons (pg_name (i := 3) sc_Sample_init.nd rfl (by first | exact Or.inl rfl | exact Or.inr rfl)) (pgs_cons (pg_name (i := 4) sc_Sample_init.nd rfl (by first | exact Or.inl rfl | exact Or.inr rfl)) pgs_nil)))
      (pss_one (ps_if (pt_not (pt_val (pe_callD D_is_example (by first | exact hr | exact hr.mono (by decide) | exact hr.mono (by omega)) (by rfl) (pa_cons (pv 4) (pa_cons (pv 1) pa_nil))))) (pss_one ps_never) pss_nil)))
    (pss_cons (ps_fld (pv 0) (pv 1) rfl)
    (pss_one (ps_fld (pv 0) (pe_callTy call_tuple_of (by rfl) T.m_tuple (by decide +kernel) (pa_cons (pe_lc (own := [("example", 5)]) (g := gName 5) (tt := tYes) (by rfl) sc_Sample_init.nd (pi_seq (pv 2)) (blkOk_by (N := sc_Sample_init_N) (sc := defScope s_Sample_init) (by decide +kernel)) (fun _ _ _ _ _ => (pg_name (i := 5) sc_Sample_init.nd rfl (by first | exact Or.inl rfl | exact Or.inr rfl))) (fun _ _ _ _ _ => pts_nil) (fun _ _ _ _ _ => (pe_callD D_copied_example (by first | exact hr | exact hr.mono (by decide) | exact hr.mono (by omega)) (by rfl) (pa_cons (pv 5) pa_nil)))) pa_nil)) rfl)))))), ?_⟩
    have v1 : Evl.Ev (tVar 1) (start sc_Sample_init_N [.ref x, .int p, v]) H (.int p) := Evl.ev_var rfl
    have v2 : Evl.Ev (tVar 2) (start sc_Sample_init_N [.ref x, .int p, v]) H v := Evl.ev_var rfl
    have hN : isN (.int p) = true := by
      show (decide (1 ≤ p) && decide (p ≤ 3)) = true
      simp [p1, p3]
    obtain ⟨d0, hd0, hR0⟩ : ∃ d0, Dp K H v d0 ∧ isR d0 = true := hd.elim (fun z => ⟨_, z, rfl⟩) fun z => ⟨_, z, rfl⟩
    refine Evl.q_when (b := false) (Evl.et_is (Evl.et_not (Evl.et_B (ev_spB v1 (.int p)))) (by rw [hN]; rfl)) (fun z => by cases z) (fun _ H1 e1 => ?_)
    refine Evl.q_when (b := false) (Evl.et_is (Evl.et_not (Evl.et_B (ev_spB (v2.mono e1) (hd0.up e1)))) (by rw [hR0]; rfl)) (fun z => by cases z) (fun _ H2 e2 => ?_)
    have e12 := e1.trans e2
    obtain ⟨a, xs, rfl, hs, ha⟩ : ∃ a xs, v = .ref a ∧ (SqL K H a xs ∨ SqT K H a xs) ∧ DpAll K H xs ds := by
      rcases hd with hd | hd
      · cases hd with
        | lst hs ha => exact ⟨_, _, rfl, .inl hs, ha⟩
      · cases hd with
        | tup hs ha => exact ⟨_, _, rfl, .inr hs, ha⟩
    have hlen := dpa_len ha
    let Pv : Nat → L2.St → Hp → Prop := fun _ σ' H' => Ex H H' ∧ ∃ s3 s4, σ' = [some (.ref x), some (.int p), some (.ref a), s3, s4, none]
    have turn : ∀ (i : Nat) (y : V) (σ' : L2.St) (H3 H4 : Hp) (D : Ends) (u : TS), i < xs.length → Pv i σ' H3 → YPair (fun i => some (.int (i : Nat))) (fun i => xs[i]?) i H3 y H4 → gTup K 2 (gCons (gName 3) (gCons (gName 4) gNil)) y σ' H4 fun σ2 H5 =>
        tIfS (tNot (tB (tCallD (spBp K isX) (tCons (tVar 4) (tCons (tVar 1) tNil))))) tNever tNext { D with nx := Pv (i + 1), ct := Pv (i + 1), bk := D.nx } σ2 H5 := by
      intro i y σ' H3 H4 D u hi pv yp
      obtain ⟨e3, s3, s4, rfl⟩ := pv
      obtain ⟨Tt, u1, u2, rfl, hT, rfl, hu1, hu2⟩ := yp
      have hu2' : xs[i]? = some u2 := hu2
      obtain ⟨d, hd1, hd2⟩ := dpa_get ha hu2'
      have hrw := hR.2 d (List.mem_of_getElem? hd1)
      refine ⟨Tt, [u1, u2], rfl, SqT.of upd_same, rfl, u1, [u2], rfl, u2, [], rfl, rfl, ?_⟩
      have e4 := e3.trans (Ex.new (o := .tup [u1, u2]) hT)
      refine Evl.s_when (b := false) (Evl.et_is (Evl.et_not (Evl.et_B (ev_spBp (d := d) (p := p) (Evl.ev_var rfl) (Evl.ev_var rfl) (hd2.up e4) ⟨2, rlM_fits hrw⟩))) (by rw [rlM_isX hrw]; rfl)) (fun z => by cases z) (fun _ H6 e6 => ?_)
      exact ⟨e4.trans e6, _, _, rfl⟩
    have fin : ∀ σ' H3, Pv xs.length σ' H3 → tSeq (sFld K (tVar 0) (tVar 1) "places") (sFld K (tVar 0) (tCB (fun xs H Q => ∃ p ys, xs = [.ref p] ∧ ((SqL K H p ys ∧ ∀ l, H l = none → Q (.ref l) (upd H l (.tup ys))) ∨ (SqT K H p ys ∧ Q (.ref p) H)))
        (tCons (tLc (iSeq K (tVar 2)) (gName 5) tYes (tCallD (spCopyM K) (tCons (tVar 5) tNil)) [5]) tNil)) "_pairs") { nx := fun _ H' => Q .non H', rt := Q } σ' H3 := by
      rintro σ' H3 ⟨e3, s3, s4, rfl⟩
      refine ⟨_, rfl, _, rfl, x, C, dx, [], rfl, e3 x _ hx, S.cl, S.nP, by decide, ?_⟩
      have hx3 := e3 x _ hx
      have hxL : x ∉ L := fun m => by
        obtain ⟨ys, q⟩ := hL x m
        rw [hx] at q
        cases q
      have off : ∀ {H4 : Hp}, Ex H H4 → ∀ {o}, Ex (W [x] H4) (upd H4 x o) := fun {H4} e {o} b u hb => by
        obtain ⟨h1, n⟩ := w_in hb
        rw [upd_ne (fun z => n (by rw [z]; exact List.mem_singleton.mpr rfl))]
        exact h1
      have ha3 : DpAll K (W [x] H3) xs ds := dpa_offI (L := []) hx3 ds xs (by rw [w_nil]; exact ha.up e3)
      have ha2 : DpAll K (upd H3 x (.ins C dx (putF "places" (.int p) []))) xs ds := ha3.up (off e3)
      have hL2 : Lsts L (upd H3 x (.ins C dx (putF "places" (.int p) []))) := fun b m => by
        obtain ⟨ys, q⟩ := hL b m
        exact ⟨ys, by rw [upd_ne (fun z => hxL (by rw [← z]; exact m))]; exact e3 _ _ q⟩
      have hs2 : SqL K (upd H3 x (.ins C dx (putF "places" (.int p) []))) a xs ∨ SqT K (upd H3 x (.ins C dx (putF "places" (.int p) []))) a xs := by
        have one : Dp K (upd H3 x (.ins C dx (putF "places" (.int p) []))) (.ref a) (.list ds) ∨ Dp K (upd H3 x (.ins C dx (putF "places" (.int p) []))) (.ref a) (.tuple ds) := by
          rcases hd with hd | hd
          · exact .inl ((dp_offI (L := []) hx3 _ _ (by rw [w_nil]; exact hd.up e3)).up (off e3))
          · exact .inr ((dp_offI (L := []) hx3 _ _ (by rw [w_nil]; exact hd.up e3)).up (off e3))
        rcases hs with hs | hs
        · refine .inl ?_
          rcases hs with (hs | ⟨o, hs⟩) | hs
          · exact .inl (.inl (by rw [upd_ne (fun z => by rw [z, hx] at hs; cases hs)]; exact e3 _ _ hs))
          · exact .inl (.inr ⟨o, by rw [upd_ne (fun z => by rw [z, hx] at hs; cases hs)]; exact e3 _ _ hs⟩)
          · exact .inr hs
        · refine .inr ?_
          rcases hs with (hs | ⟨o, hs⟩) | hs
          · exact .inl (.inl (by rw [upd_ne (fun z => by rw [z, hx] at hs; cases hs)]; exact e3 _ _ hs))
          · exact .inl (.inr ⟨o, by rw [upd_ne (fun z => by rw [z, hx] at hs; cases hs)]; exact e3 _ _ hs⟩)
          · exact .inr hs
      have eg := eg_seqM (K := K) (L := L) (te := tCallD (spCopyM K) (tCons (tVar 5) tNil)) (tl := tVar 2) (j := 5) (vs := [5]) (g := cpy) (σ := [some (.ref x), some (.int p), some (.ref a), s3, s4, none]) (Evl.ev_var rfl) hs2 ha2 hL2 (by have := hR.1; omega) (fun _ => rfl)
        (fun L' y d H1 hd1 hL' e' hd' => ev_spCopyM (Evl.ev_var rfl) hL' hd' (hR.2 d hd1))
      refine sfld_run (evd_tupG eg hL2.hid _ (Ex.refl _) _ fun y H4 e4 hy => ?_)
      have hx4 := e4 x _ upd_same
      refine ⟨_, rfl, x, C, dx, _, rfl, hx4, S.cl, S.nQ, by show 1 < 1000; omega, ?_⟩
      refine k _ (fun b o nb hb => ?_) ⟨dx, y, upd_same, ?_⟩
      · rw [upd_ne nb]
        refine e4 b o ?_
        rw [upd_ne nb]
        exact e3 b o hb
      · refine (dp_offI hx4 _ _ hy).up fun b o hb => ?_
        obtain ⟨h1, n⟩ := w_in hb
        have nb : b ≠ x := fun z => n (by rw [z]; exact List.mem_cons_self ..)
        exact w_of (fun m => n (List.mem_cons_of_mem _ m)) (by rw [upd_ne nb]; exact h1)
    refine ⟨_, rfl, a, xs, rfl, ?_⟩
    rcases hs with x1 | x1
    · exact .inl ⟨Evl.ex_l e12 x1, for_it (walk_enum (xs := xs)) Pv ⟨e12, none, none, rfl⟩ (fun i σ' H3 _ pv => Evl.ex_l pv.1 x1) (fun i y σ' H3 H4 hi pv yp => turn i y σ' H3 H4 _ tNext hi pv yp) fin⟩
    · exact .inr ⟨Evl.ex_t e12 x1, for_it (walk_enumT (xs := xs)) Pv ⟨e12, none, none, rfl⟩ (fun i σ' H3 _ pv => Evl.ex_t pv.1 x1) (fun i y σ' H3 H4 hi pv yp => turn i y σ' H3 H4 _ tNext hi pv yp) fin⟩
end
end U

set_option Elab.async false
set_option linter.all false
set_option maxRecDepth 100000
set_option maxHeartbeats 4000000
/-! samples made and their rows drawn; the sample's methods -/
namespace U
open PySem PySem.Spec PyProof.Rows L2
open Evl (Ex)
open C8 (Met Mak pe_mt pe_mt0 pe_mk)
abbrev s_point : Stmt := top 25
abbrev sc_point_N : List Str := ["_law_draws", "_law_places", "_law_wide", "_law_k"]
theorem sc_point : FnScope sc_point_N ["_law_draws", "_law_places", "_law_wide"] (defScope s_point) := ⟨rfl, rfl, rfl, by decide +kernel, rfl, by decide +kernel, by decide +kernel⟩
abbrev s_rows : Stmt := top 26
abbrev sc_rows_N : List Str := ["_law_draws", "_law_places", "_law_most", "_law_wide", "_law_rows_here", "_law_k", "_law_point_here"]
theorem sc_rows : FnScope sc_rows_N ["_law_draws", "_law_places", "_law_most", "_law_wide"] (defScope s_rows) := ⟨rfl, rfl, rfl, by decide +kernel, rfl, by decide +kernel, by decide +kernel⟩
section
def EvS (K : PySem.W.Frag) (L : List Addr) (C : Addr) (p : Int) (ds : List PyData) (te : TE) (σ : L2.St) (H : Hp) : Prop := ∀ H1, Ex H H1 → ∀ Q : VK, (∀ y H2, Ex H1 H2 → Smp K L H2 y C p ds → Q (.ref y) H2) → te σ H1 Q
end
section
variable {P : Program} {w : World} {K : PySem.W.Frag} {mg : Str → Option Value} {base : Heap} {C : Addr} {L : List Addr} {σ : L2.St} {H H1 H' : Hp} {p : Int} {ds es : List PyData} {tp tl te : TE} {x y : Addr}
theorem s_retS {D : Ends} (h : EvS K L C p ds te σ H) (k : ∀ y H1, Ex H H1 → Smp K L H1 y C p ds → D.rt (.ref y) H1) : tRet te D σ H := h H (Ex.refl H) _ k
end
section
variable {P : Program} {w : World} {K : PySem.W.Frag} {mg : Str → Option Value} {base : Heap} {C : Addr} {L : List Addr} {σ : L2.St} {H H1 H' : Hp} {p : Int} {ds es : List PyData} {tp tl te : TE} {x y : Addr}
theorem Smp.inv (h : Smp K L H x C p ds) : ∃ dx t xs, H x = some (.ins C dx [("places", .int p), ("_pairs", .ref t)]) ∧ SqT K H t xs ∧ DpAll K (W L H) xs ds ∧ Dp K (W L H) (.ref t) (.tuple ds) := by
  obtain ⟨dx, v, h1, h2⟩ := h
  have h2' := h2
  cases h2 with
  | @tup t xs _ hs ha => exact ⟨dx, t, xs, h1, Evl.ex_t w_sub hs, ha, h2'⟩
end
section
theorem lay_all : ∀ {ds : List PyData}, (∀ d ∈ ds, d.canLay0 = true ∧ d.depth ≤ 2) → PyData.canLayAll0 ds = true ∧ PyData.depthAll ds ≤ 2
  | [], _ => ⟨rfl, Nat.zero_le _⟩
  | d :: ds, h => by
    obtain ⟨h1, h2⟩ := h d (List.mem_cons_self ..)
    obtain ⟨h3, h4⟩ := lay_all (ds := ds) fun e he => h e (List.mem_cons_of_mem _ he)
    exact ⟨by show (d.canLay0 && PyData.canLayAll0 ds) = true; rw [h1, h3]; rfl, by show max d.depth (PyData.depthAll ds) ≤ 2; omega⟩
end
section
theorem lay_ints : ∀ ns : List Int, PyData.canLayAll0 (ns.map .int) = true ∧ PyData.depthAll (ns.map .int) = 0
  | [] => ⟨rfl, rfl⟩
  | n :: ns => by
    obtain ⟨h1, h2⟩ := lay_ints ns
    exact ⟨by show (true && PyData.canLayAll0 (ns.map .int)) = true; rw [h1]; rfl, by show max 0 (PyData.depthAll (ns.map .int)) = 0; rw [h2]; rfl⟩
end
section
theorem Rws.shaped {p : Int} {ds : List PyData} (h : Rws p ds) : SeqAt.shaped (.tuple ds) = true ∧ SeqAt.shaped (.list ds) = true := by
  have q : ∀ d ∈ ds, d.canLay0 = true ∧ d.depth ≤ 2 := fun d hd => by
    obtain ⟨ns, b, rfl, _⟩ := h.2 d hd
    obtain ⟨h1, h2⟩ := lay_ints ns
    refine ⟨?_, ?_⟩
    · show (PyData.canLayAll0 (ns.map .int) && true) = true
      rw [h1]
      rfl
    · show max (PyData.depthAll (ns.map .int) + 1) 0 + 1 ≤ 2
      rw [h2]
      decide
  obtain ⟨h1, h2⟩ := lay_all q
  have e1 : PyData.canLay0 (.tuple ds) = true := h1
  have e2 : PyData.depth (.tuple ds) ≤ 64 := by show PyData.depthAll ds + 1 ≤ 64; omega
  have e3 : PyData.canLay0 (.list ds) = true := h1
  have e4 : PyData.depth (.list ds) ≤ 64 := by show PyData.depthAll ds + 1 ≤ 64; omega
  exact ⟨Bool.and_eq_true_iff.mpr ⟨e1, decide_eq_true e2⟩, Bool.and_eq_true_iff.mpr ⟨e3, decide_eq_true e4⟩⟩
end
section
variable {P : Program} {w : World} {K : PySem.W.Frag} {mg : Str → Option Value} {base : Heap} {C U : Addr}
theorem ev_isS {σ : L2.St} {H : Hp} {te : TE} {y dx : Addr} {fs : List (Str × V)} (S : SmpC K C) (h : Evl.Ev te σ H (.ref y)) (hy : H y = some (.ins C dx fs)) : Evl.Ev (tCB (rIsi K) (tCons te (tCons (tC (.ref C)) tNil))) σ H (.bl true) := fun H1 e1 Q q =>
  h H1 e1 _ fun H2 e2 => ⟨.ref y, .ref C, .ref C, .ref C, true, rfl, .own C, .base (.ins ((e1.trans e2) y _ hy) S.cl S.ha S.hn S.htk S.hm), S.kS, q H2 e2⟩
end
section
def spPoint (K : PySem.W.Frag) : Sp := fun vs H Q _ => ∃ (l : Addr) (p w : Int) (n : Nat) (L : List Addr), vs = [.ref l, .int p, .int w] ∧ Dr n H l ∧ n < 900000 ∧ l ∈ L ∧ Hid L H ∧ 1 ≤ p ∧ p ≤ 3 ∧ 0 ≤ w ∧ w ≤ 1000 ∧
  ∀ v ns H', ExB l H H' → Dr (n + 3) H' l → ((ns : List Int).length : Int) = p → (∀ e ∈ ns, -w ≤ e ∧ e ≤ w) → Dp K (W L H') v (.tuple (ns.map .int)) → Q v H'
end
section
def spRows (K : PySem.W.Frag) : Sp := fun vs H Q _ => ∃ (l : Addr) (p m w : Int) (n : Nat) (L : List Addr), vs = [.ref l, .int p, .int m, .int w] ∧ Dr n H l ∧ n < 800000 ∧ l ∈ L ∧ Hid L H ∧ 1 ≤ p ∧ p ≤ 3 ∧ 0 ≤ m ∧ m ≤ 100 ∧ 0 ≤ w ∧ w ≤ 99 ∧
  ∀ t ds H', ExB l H H' → Dr (n + 701) H' l → Gr K L H' t ds → (ds.length : Int) ≤ m → (∀ d ∈ ds, Rw p d) → Q (.ref t) H'
end
section
theorem dpa_ints {K : PySem.W.Frag} {H : Hp} : ∀ ns : List Int, DpAll K H (ns.map V.int) (ns.map PyData.int)
  | [] => .nil
  | n :: ns => .cons (.int n) (dpa_ints ns)
end
section
variable {P : Program} {w : World} {K : PySem.W.Frag} {mg : Str → Option Value} {base : Heap}
theorem draw_run {σ : L2.St} {H : Hp} {tm : TE} {l : Addr} {n : Nat} {many : Int} {Q : VK} (h0 : σ[0]? = some (some (.ref l))) (hd : Dr n H l) (hn : n < 1000000) (hm : Evl.Ev tm σ H (.int many)) (m0 : 0 < many) (m1 : many < 1073741824)
    (k : ∀ r H', 0 ≤ r → r < many → Dr (n + 1) H' l → ExB l H H' → Q (.int r) H') : tCallD spDraw (tCons (tVar 0) (tCons tm tNil)) σ H Q :=
  ⟨_, h0, hm H (Ex.refl H) _ fun H1 e1 => ⟨l, many, n, rfl, hd.ex e1, hn, m0, m1, fun r o r0 r1 hd' => k r _ r0 r1 hd' ((ExB.of e1).trans ExB.upd)⟩⟩
end
section
variable {P : Program} {w : World} {K : PySem.W.Frag} {mg : Str → Option Value} {base : Heap}
theorem ok_point {f : Addr} {fd : FuncData} (F : Fun K "_law_point" "_law_point" s_point f fd) (T : TxF mg) (D_draw : DefAt P w K mg base "_law_draw" 1 ["_law_draws", "_law_many"] spDraw) : FnOk P w K mg base CX0 2 f fd ["_law_draws", "_law_places", "_law_wide"] (spPoint K) := by
  refine F.ok sc_point (fun vs H Q E h => ?_) (fun cdv A outer s H vs Q E hr h => ?_)
  · obtain ⟨_, _, _, _, _, rfl, _⟩ := h
    rfl
  · obtain ⟨l, p, w, n, L, rfl, hd, hn, hl, hL, p1, p3, w0, w1, k⟩ := h
    refine ⟨_, (pss_one (ps_ret (pe_callTy call_tuple_of (by rfl) T.m_tuple (by decide +kernel) (pa_cons (pe_lc (own := [("_law_k", 3)]) (g := gName 3) (tt := tYes) (by rfl) sc_point.nd (pi_range1 (by rfl) T.m_range (pa_cons (pv 1) pa_nil)) (blkOk_by (N := sc_point_N) (sc := defScope s_point) (by decide +kernel)) (fun _ _ _ _ _ => (pg_name (i := 3) sc_point.nd rfl (by first | exact Or.inl rfl | exact Or.inr rfl))) (fun _ _ _ _ _ => pts_nil) (fun _ _ _ _ _ => (pe_op op_sub (pe_callD D_draw (by first | exact hr | exact hr.mono (by decide) | exact hr.mono (by omega)) (by rfl) (pa_cons (pv 0) (pa_cons (pe_op op_add (pe_op op_mul pe_int (pv 2)) pe_int) pa_nil))) (pv 2)))) pa_nil)))), ?_⟩
    refine ⟨_, rfl, p, rfl, by omega, by omega, fun Dl hD => ?_⟩
    have hDl : Dl ≠ l := fun e => hd.ne (by rw [← e]; exact hD)
    let Pv : Nat → Hp → Prop := fun i H' => ExB l H H' ∧ Dr (n + i) H' l ∧ ∃ ns : List Int, ns.length = i ∧ (∀ e ∈ ns, -w ≤ e ∧ e ≤ w) ∧ H' Dl = some (.lst (ns.map V.int))
    refine lc_range (lo := 0) (n := p.toNat) Pv ⟨ExB.of (Ex.new hD), hd.ex (Ex.new hD), [], rfl, (fun _ z => nomatch z), upd_same⟩ (fun i H2 hi pv => ?_) (fun H2 pv => ?_)
    · obtain ⟨e2, hd2, ns, hns, hb, hl2⟩ := pv
      refine ⟨rfl, ?_⟩
      refine yes_lc (B := fun H3 => Pv (i + 1) H3) ?_
      refine draw_run (n := n + i) (many := 2 * w + 1) (by rfl) hd2 (by omega) (Evl.ev_op (Evl.ev_op Evl.ev_c (Evl.ev_var rfl) (Evl.rv_I (C := CMul) (g := fun i j => .int (i * j)) (i := 2) (j := w) (.inl ⟨by decide, by decide⟩))) Evl.ev_c (Evl.rv_I0 (g := fun i j => .int (i + j)))) (by omega) (by omega) fun r H3 r0 r1 hd3 e3 => ?_
      have h3 : H3 Dl = some (.lst (ns.map V.int)) := e3 Dl _ hDl hl2
      refine ⟨_, rfl, _, _, rfl, rfl, ns.map V.int, h3, Evl.sz_lt (by rw [List.length_map]; omega), ?_, ?_, ns ++ [r - w], ?_, (fun e he => (List.mem_append.mp he).elim (hb e) fun q => by
        rw [List.mem_singleton.mp q]
        omega), ?_⟩
      · intro b o hb hbo
        have nb : b ≠ Dl := ne_of_none hbo hD
        rw [upd_ne nb]
        exact e3 b o hb (e2 b o hb hbo)
      · obtain ⟨x, y, z, q1, q2⟩ := hd3
        exact ⟨x, y, z, by rw [upd_ne (Ne.symm hDl)]; exact q1, q2⟩
      · rw [List.length_append, hns]
        rfl
      · rw [upd_same, List.map_append]
        rfl
    · obtain ⟨e2, hd2, ns, hns, hb, hl2⟩ := pv
      have hDL : Dl ∉ L := hid_not hL hD
      refine ⟨Dl, ns.map V.int, rfl, .inl ⟨SqL.of hl2, fun r hr => ?_⟩⟩
      have hLr : r ∉ L := fun m => (e2.hid hd2.ne hL) r m hr
      refine k _ ns _ (e2.trans (ExB.of (Ex.new hr))) ((hd2.ex (Ex.new hr)).up (by omega)) (by omega) hb (.tup (SqT.of (w_of hLr upd_same)) (dpa_ints ns))
end
section
variable {P : Program} {w : World} {K : PySem.W.Frag} {mg : Str → Option Value} {base : Heap}
theorem Dr.upd_ne {n : Nat} {H : Hp} {l t : Addr} {o : HO} (h : Dr n H l) (ne : t ≠ l) : Dr n (upd H t o) l := by
  obtain ⟨x, y, z, q1, q2⟩ := h
  exact ⟨x, y, z, by rw [L2.upd_ne (Ne.symm ne)]; exact q1, q2⟩
end
section
variable {P : Program} {w : World} {K : PySem.W.Frag} {mg : Str → Option Value} {base : Heap}
theorem Gr.exB {L : List Addr} {H H' : Hp} {l t : Addr} {ds : List PyData} (h : Gr K L H t ds) (e : ExB l H H') (m : l ∈ L) : Gr K L H' t ds := by
  obtain ⟨n, xs, h1, h2⟩ := h
  exact ⟨n, xs, e t _ (fun z => n (by rw [z]; exact m)) h1, h2.up (e.w (List.mem_cons_of_mem _ m))⟩
end
section
variable {P : Program} {w : World} {K : PySem.W.Frag} {mg : Str → Option Value} {base : Heap}
def spPickV (K : PySem.W.Frag) : Sp := fun vs H Q _ => ∃ (l t : Addr) (xs : List V) (n : Nat) (L : List Addr), vs = [.ref l, .ref t] ∧ Dr n H l ∧ n < 1000000 ∧ l ∈ L ∧ SqL K (W L H) t xs ∧ 0 < xs.length ∧ xs.length < 1073741824 ∧
  ∀ v o, v ∈ xs → Dr (n + 1) (upd H l o) l → Q v (upd H l o)
end
section
variable {P : Program} {w : World} {K : PySem.W.Frag} {mg : Str → Option Value} {base : Heap}
theorem ok_pickV {f : Addr} {fd : FuncData} (F : Fun K "_law_pick" "_law_pick" s_pick f fd) (T : TxB mg) (D_draw : DefAt P w K mg base "_law_draw" 1 ["_law_draws", "_law_many"] spDraw) : FnOk P w K mg base CX0 2 f fd ["_law_draws", "_law_things"] (spPickV K) := by
  refine F.ok sc_pick (fun vs H Q E h => ?_) (fun cdv A outer s H vs Q E hr h => ?_)
  · obtain ⟨_, _, _, _, _, rfl, _⟩ := h
    rfl
  · obtain ⟨l, t, xs, n, L, rfl, hd, hn, hL, hs, h0, h1, k⟩ := h
    refine ⟨_, (pss_one (ps_ret (pe_ix ix_list (pv 1) (pe_callD D_draw (by first | exact hr | exact hr.mono (by decide) | exact hr.mono (by omega)) (by rfl) (pa_cons (pv 0) (pa_cons (pe_callB call_len_seq (by rfl) T.m_len (by decide +kernel) (pa_cons (pv 1) pa_nil)) pa_nil))) (fun _ _ => rfl)))), ?_⟩
    refine ⟨_, rfl, _, rfl, _, rfl, t, xs, rfl, .inl (Evl.ex_l w_sub hs), ?_⟩
    refine ⟨l, _, n, rfl, hd, hn, by omega, by omega, fun r o r0 r1 hd' => ?_⟩
    have hr' : r.toNat < xs.length := by omega
    have er : ((r.toNat : Nat) : Int) = r := by omega
    refine ⟨t, xs, r, xs[r.toNat], rfl, rfl, Evl.ex_l (w_sub (L := L)) (by rw [w_upd_in hL]; exact hs), ?_, ?_⟩
    · have q := atI_nat (List.getElem?_eq_getElem hr')
      rw [er] at q
      exact q
    · exact k _ o (List.getElem_mem hr') hd'
end
section
variable {P : Program} {w : World} {K : PySem.W.Frag} {mg : Str → Option Value} {base : Heap}
theorem ok_rows {f : Addr} {fd : FuncData} (F : Fun K "_law_rows" "_law_rows" s_rows f fd) (T : TxF mg) (D_draw : DefAt P w K mg base "_law_draw" 1 ["_law_draws", "_law_many"] spDraw) (D_pick : DefAt P w K mg base "_law_pick" 2 ["_law_draws", "_law_things"] (spPickV K))
    (D_point : DefAt P w K mg base "_law_point" 2 ["_law_draws", "_law_places", "_law_wide"] (spPoint K)) : FnOk P w K mg base CX0 3 f fd ["_law_draws", "_law_places", "_law_most", "_law_wide"] (spRows K) := by
  refine F.ok sc_rows (fun vs H Q E h => ?_) (fun cdv A outer s H vs Q E hr h => ?_)
  · obtain ⟨_, _, _, _, _, _, rfl, _⟩ := h
    rfl
  · obtain ⟨l, p, m, wd, n, L, rfl, hd, hn, hl, hL, p1, p3, m0, m1, w0, w1, k⟩ := h
    refine ⟨_, (pss_cons (ps_set (i := 4) sc_rows.nd rfl (by first | exact Or.inl rfl | exact Or.inr rfl) (pe_lst pa_nil))
    (pss_cons (ps_for PassesOwn.never rfl (pi_range1 (by rfl) T.m_range (pa_cons (pe_callD D_draw (by first | exact hr | exact hr.mono (by decide) | exact hr.mono (by omega)) (by rfl) (pa_cons (pv 0) (pa_cons (pe_op op_add (pv 2) pe_int) pa_nil))) pa_nil)) (pg_name (i := 5) sc_rows.nd rfl (by first | exact Or.inl rfl | exact Or.inr rfl))
      (pss_cons (ps_set (i := 6) sc_rows.nd rfl (by first | exact Or.inl rfl | exact Or.inr rfl) (pe_callD D_point (by first | exact hr | exact hr.mono (by decide) | exact hr.mono (by omega)) (by rfl) (pa_cons (pv 0) (pa_cons (pv 1) (pa_cons (pv 3) pa_nil)))))
      (pss_cons (ps_if (PW.pt (pw_and (pt_cmpR (op_neD hr.units) (pv 4) (pe_lst pa_nil) (nomark _)) (pw_and1 (pt_cmpR op_eq (pe_callD D_draw (by first | exact hr | exact hr.mono (by decide) | exact hr.mono (by omega)) (by rfl) (pa_cons (pv 0) (pa_cons pe_int pa_nil))) pe_int (nomark _))))) (pss_one (ps_set (i := 6) sc_rows.nd rfl (by first | exact Or.inl rfl | exact Or.inr rfl) (pe_ix ix_tup (pe_callD D_pick (by first | exact hr | exact hr.mono (by decide) | exact hr.mono (by omega)) (by rfl) (pa_cons (pv 0) (pa_cons (pv 4) pa_nil))) pe_int (fun _ _ => rfl)))) pss_nil)
      (pss_one (ps_expr (pe_bm PySem.F.plainAttrs_list PySem.F.slot_list_append PySem.F.type_list_append mt_append (pv 4) (pa_cons (pe_tup (pa_cons (pv 6) (pa_cons (pe_cmpR op_eq (pe_callD D_draw (by first | exact hr | exact hr.mono (by decide) | exact hr.mono (by omega)) (by rfl) (pa_cons (pv 0) (pa_cons pe_int pa_nil))) pe_int (nomark _)) pa_nil))) pa_nil)))))))
    (pss_one (ps_ret (pv 4))))), ?_⟩
    refine Evl.q_asgL (xs := []) (Evl.el_lst Evl.ea_nil (by decide)) fun t H1 ht e1 ht1 => ?_
    have htl : t ≠ l := fun e => hd.ne (by rw [← e]; exact ht)
    have htL : t ∉ L := hid_not hL ht
    have lt : l ∈ t :: L := List.mem_cons_of_mem _ hl
    let Pv : Nat → L2.St → Hp → Prop := fun i σ' H' => ExB l H H' ∧ Dr (n + 1 + 7 * i) H' l ∧ (∃ ds : List PyData, ds.length = i ∧ Gr K L H' t ds ∧ ∀ d ∈ ds, Rw p d) ∧ ∃ s5 s6, σ' = [some (.ref l), some (.int p), some (.int m), some (.int wd), some (.ref t), s5, s6]
    refine draw_run (n := n) (many := m + 1) (by rfl) (hd.ex e1) (by omega) (Evl.ev_op (Evl.ev_var rfl) Evl.ev_c (Evl.rv_I0 (g := fun i j => .int (i + j)))) (by omega) (by omega) fun r H2 r0 r1 hd2 e2 => ⟨r, rfl, by omega, by omega, for_range (lo := 0) (n := r.toNat) Pv ?_ (fun i σ' H3 hi pv => ?_) (fun σ' H3 pv => ?_)⟩
    · refine ⟨(ExB.of e1).trans e2, hd2, ⟨[], rfl, ?_, fun _ z => nomatch z⟩, none, none, rfl⟩
      exact ⟨htL, [], e2 t _ htl ht1, .nil⟩
    · obtain ⟨e3, hd3, ⟨ds, hds, hg, hrw⟩, s5, s6, rfl⟩ := pv
      have hi100 : i < 101 := by omega
      -- the row is made and kept
      have app : ∀ (s5 : Option V) (v6 : V) (ns : List Int) (N : Nat) (H5 : Hp) (D : Ends), D.nx = Pv (i + 1) → ExB l H3 H5 → Dr N H5 l → N ≤ n + 1 + 7 * i + 6 → Gr K L H5 t ds → Dp K (W (t :: L) H5) v6 (.tuple (ns.map .int)) → (ns.length : Int) = p → Sm ns →
          tDrop (tBM K "list" rAppend (tVar 4) (tCons (tTup (tCons (tVar 6) (tCons (tOp rEq (tCallD spDraw (tCons (tVar 0) (tCons (tC (.int 2)) tNil))) (tC (.int 0))) tNil))) tNil)) D [some (.ref l), some (.int p), some (.int m), some (.int wd), some (.ref t), s5, some v6] H5 := by
        intro s5 v6 ns N H5 D hD e5 hd5 hN hg5 hv hns hsm
        obtain ⟨_, xs, hx, hxs⟩ := id hg5
        have hlen := dpa_len hxs
        refine ⟨_, rfl, Or.inl ⟨rfl, xs, SqL.of hx⟩, _, rfl, ?_⟩
        refine draw_run (n := N) (many := 2) (by rfl) hd5 (by omega) Evl.ev_c (by omega) (by omega) fun q H6 q0 q1 hd6 e6 => ?_
        refine ⟨rfl, by show 2 ≤ sizeLine; decide, fun a ha => ?_⟩
        have g6 : Gr K L H6 t ds := hg5.exB e6 hl
        obtain ⟨_, xs6, hx6, hxs6⟩ := id g6
        have hlen6 := dpa_len hxs6
        have eN : Ex H6 (upd H6 a (.tup [v6, .bl (decide (V.int q = V.int 0))])) := Ex.new ha
        have hid6 : Hid (t :: L) H6 := fun b hb => by
          rcases List.mem_cons.mp hb with z | z
          · rw [z]
            exact g6.ne
          · exact (((e3.trans e5).trans e6).hid hd6.ne hL) b z
        refine ⟨t, xs6, .ref a, rfl, rfl, eN t _ hx6, Evl.sz_lt (by omega), ?_⟩
        show D.nx _ _
        rw [hD]
        refine ⟨?_, ?_, ⟨ds ++ [rowD ns (decide (V.int q = V.int 0))], by rw [List.length_append, hds]; rfl, ?_, ?_⟩, s5, some v6, rfl⟩
        · intro b o hb hbo
          have nb : b ≠ t := ne_of_none hbo ht
          rw [L2.upd_ne nb]
          exact eN b o (((e3.trans e5).trans e6) b o hb hbo)
        · exact ((hd6.ex eN).upd_ne htl).up (by omega)
        · refine gr_app htL (eN t _ hx6) (hxs6.up (w_ex eN)) (.tup (SqT.of (w_new hid6 ha)) (.cons ?_ (.cons (.bl _) .nil)))
          exact (hv.up (e6.w lt)).up (w_ex eN)
        · intro d hd
          rcases List.mem_append.mp hd with z | z
          · exact hrw d z
          · have : d = rowD ns (decide (V.int q = V.int 0)) := by simpa using z
            exact ⟨ns, _, this, hns, by omega, hsm⟩
      have hidt : ∀ {H5 : Hp}, ExB l H3 H5 → Dr 1000000 H5 l → Gr K L H5 t ds → Hid (t :: L) H5 := fun e5 hd5 g5 b hb => by
        rcases List.mem_cons.mp hb with z | z
        · rw [z]
          exact g5.ne
        · exact ((e3.trans e5).hid hd5.ne hL) b z
      refine ⟨_, rfl, _, rfl, _, rfl, l, p, wd, n + 1 + 7 * i, t :: L, rfl, hd3, by omega, lt, hidt (ExB.refl _ _) (hd3.up (by omega)) hg, p1, p3, w0, by omega, fun v ns H4 e4 hd4 hns hbd hv => ?_⟩
      have hsm : Sm ns := fun e he => by
        have := hbd e he
        omega
      have g4 : Gr K L H4 t ds := hg.exB e4 hl
      refine ⟨_, rfl, by show 0 ≤ sizeLine; exact Nat.zero_le _, fun q hq => ?_⟩
      have eq : Ex H4 (upd H4 q (.lst [])) := Ex.new hq
      have hRws : Rws p ds := ⟨by omega, hrw⟩
      refine ⟨.list ds, .list [], (g4.dp.up w_sub).up eq, .lst (SqL.of upd_same) .nil, hRws.shaped.2, by decide, _, rfl, ?_⟩
      have hdq : Dr (n + 1 + 7 * i + 3) (upd H4 q (.lst [])) l := hd4.ex eq
      refine ite2 (fun hb => ?_) (fun hb => ite2 (fun z => by cases z) fun _ => ?_)
      · have hne : 0 < ds.length := by
          rcases Nat.eq_zero_or_pos ds.length with z | z
          · have : ds = [] := List.eq_nil_of_length_eq_zero z
            subst this
            rw [PySem.SeqAt.eqv_refl _ (SeqAt.canLay_of_shaped hRws.shaped.2)] at hb
            cases hb
          · exact z
        refine draw_run (n := n + 1 + 7 * i + 3) (many := 6) (by rfl) hdq (by omega) Evl.ev_c (by omega) (by omega) fun c H5 c0 c1 hd5 e5 => ⟨rfl, _, rfl, ?_⟩
        have e45 : ExB l H3 H5 := (e4.trans (ExB.of eq)).trans e5
        have g5 : Gr K L H5 t ds := (g4.up eq).exB e5 hl
        refine ite2 (fun hc => ?_) (fun hc => ?_)
        · obtain ⟨_, ys, hy, hys⟩ := id g5
          have ylen := dpa_len hys
          refine ⟨_, rfl, _, rfl, l, t, ys, n + 1 + 7 * i + 3 + 1, L, rfl, hd5, by omega, hl, SqL.of (w_of htL hy), by omega, by omega, fun u o hum hd6 => ?_⟩
          obtain ⟨j, hj, rfl⟩ := List.getElem_of_mem hum
          obtain ⟨d, hd1, hd2⟩ := dpa_get hys (List.getElem?_eq_getElem hj)
          obtain ⟨ns2, b2, rfl, hns2, _, hsm2⟩ := hrw d (List.mem_of_getElem? hd1)
          have e6 : ExB l H5 (upd H5 l o) := ExB.upd
          have hd3 := hd2.up (e6.w lt)
          generalize ys[j] = u at hd3 ⊢
          cases hd3 with
          | @tup a6 zs _ hs6 ha6 =>
            cases ha6 with
            | @cons v6 _ _ _ r6 rr6 =>
              cases rr6 with
              | @cons v7 _ _ _ r7 rr7 =>
                cases rr7
                refine ⟨a6, [v6, v7], 0, v6, rfl, rfl, Evl.ex_t w_sub hs6, rfl, ?_⟩
                exact app _ v6 ns2 (n + 1 + 7 * i + 3 + 1 + 1) _ _ rfl (e45.trans e6) hd6 (by omega) (g5.exB e6 hl) r6 hns2 hsm2
        · exact app _ v ns (n + 1 + 7 * i + 3 + 1) H5 _ rfl e45 hd5 (by omega) g5 ((hv.up (w_ex eq)).up (e5.w lt)) hns hsm
      · exact app _ v ns (n + 1 + 7 * i + 3) (upd H4 q (.lst [])) _ rfl (e4.trans (ExB.of eq)) hdq (by omega) (g4.up eq) (hv.up (w_ex eq)) hns hsm
    · obtain ⟨e3, hd3, ⟨ds, hds, hg, hrw⟩, s5, s6, rfl⟩ := pv
      exact Evl.s_ret (Evl.ev_var rfl) fun H4 e4 => k t ds H4 (e3.trans (ExB.of e4)) ((hd3.ex e4).up (by omega)) (hg.up e4) (by omega) hrw
end

section
variable {P : Program} {w : World} {K : PySem.W.Frag} {mg : Str → Option Value} {base : Heap} {C : Addr} {L : List Addr} {σ : L2.St} {H H1 H' : Hp} {p : Int} {ds es : List PyData} {tp tl te : TE} {x T0 : Addr}
/-- what stands behind the making of a sample -/
theorem mk_atM {v : V} {H3 : Hp} {Q : VK} (hv : Dp K H3 v (.list ds) ∨ Dp K H3 v (.tuple ds)) (hL : Lsts L H3) (p1 : 1 ≤ p) (p3 : p ≤ 3) (hR : RwsM p ds) (q : ∀ y H', Ex H3 H' → Smp K L H' y C p (ds.map cpy) → Q (.ref y) H') :
    ∀ x dx, H3 x = none → H3 dx = none → dx ≠ x → spInitM K C [.ref x, .int p, v] (upd (upd H3 dx (.own x)) x (.ins C dx [])) (fun v H2 => v = .non ∧ Q (.ref x) H2) E0 := by
  intro x dx hx hdx ne
  have ex2 : (upd H3 dx (.own x)) x = none := by rw [upd_ne (Ne.symm ne)]; exact hx
  have eN : Ex H3 (upd (upd H3 dx (.own x)) x (.ins C dx [])) := (Ex.new hdx).trans (Ex.new ex2)
  exact ⟨x, dx, v, p, ds, L, rfl, upd_same, p1, p3, hL.ex eN, hv.imp (fun z => z.up eN) (fun z => z.up eN), hR, fun H' hk hS => ⟨rfl, q x H' (fun b o hb => hk b o (ne_of_none hb hx) (eN b o hb)) hS⟩⟩
theorem mk_runM (hp : Evl.Ev tp σ H (.int p)) (hd : EvD K [] tl σ H (.list ds) ∨ EvD K [] tl σ H (.tuple ds)) (hL : Lsts L H) (p1 : 1 ≤ p) (p3 : p ≤ 3) (hR : RwsM p ds) : EvS K L C p (ds.map cpy) (tMake C (spInitM K C) [] E0 (tCons tp (tCons tl tNil))) σ H := fun H1 e Q q => by
  refine hp H1 e _ fun H2 e2 => ?_
  rcases hd with hd | hd
  · exact hd H2 (e.trans e2) _ fun v H3 e3 hv => mk_atM (L := L) (.inl (by rw [w_nil] at hv; exact hv)) (hL.ex ((e.trans e2).trans e3)) p1 p3 hR fun y H' e' hS => q y H' ((e2.trans e3).trans e') hS
  · exact hd H2 (e.trans e2) _ fun v H3 e3 hv => mk_atM (L := L) (.inr (by rw [w_nil] at hv; exact hv)) (hL.ex ((e.trans e2).trans e3)) p1 p3 hR fun y H' e' hS => q y H' ((e2.trans e3).trans e') hS
/-- a sample without examples -/
theorem mk_run0 (hT : ∀ H, Dp K H (.ref T0) (.tuple [])) (hp : Evl.Ev tp σ H (.int p)) (hL : Lsts L H) (p1 : 1 ≤ p) (p3 : p ≤ 3) : EvS K L C p [] (tMake C (spInitM K C) [.ref T0] E0 (tCons tp tNil)) σ H := fun H1 e Q q => by
  refine hp H1 e _ fun H2 e2 => ?_
  exact mk_atM (ds := []) (L := L) (.inr (hT H2)) (hL.ex (e.trans e2)) p1 p3 ⟨Nat.zero_le _, fun _ h => nomatch h⟩ fun y H' e' hS => q y H' (e2.trans e') hS
theorem Rws.toM (h : Rws p ds) : RwsM p ds ∧ ds.map cpy = ds := ⟨⟨h.1, fun d hd => (h.2 d hd).toM⟩, by
  have e : ∀ d ∈ ds, cpy d = id d := fun d hd => by
    obtain ⟨ns, b, e, h1, h2⟩ := h.2 d hd
    rw [e]
    rfl
  rw [List.map_congr_left e, List.map_id]⟩
theorem RwsM.cpy (h : RwsM p ds) : Rws p (ds.map cpy) := ⟨by rw [List.length_map]; exact h.1, fun d hd => by
  obtain ⟨e, he, rfl⟩ := List.mem_map.mp hd
  obtain ⟨o, i, ns, b, rfl, h1⟩ := h.2 e he
  exact ⟨ns, b, cpy_M, h1⟩⟩
/-! ### len, iter, in -/
def spLen (K : PySem.W.Frag) (C : Addr) : Sp := fun vs H Q _ => ∃ x p ds L, vs = [.ref x] ∧ Smp K L H x C p ds ∧ ∀ H', Ex H H' → Q (.int (ds.length : Int)) H'
theorem ok_Slen {f : Addr} {fd : FuncData} (F : Fun K "__len__" "Sample.__len__" s_Sample_len f fd) (T : TxF mg) (S : SmpC K C) : FnOk P w K mg base CX0 1 f fd ["self"] (spLen K C) := by
  refine F.ok sc_Sample_len (fun vs H Q E h => ?_) (fun cdv A outer s H vs Q E hr h => ?_)
  · obtain ⟨_, _, _, _, rfl, _⟩ := h
    rfl
  · obtain ⟨x, p, ds, L, rfl, hS, k⟩ := h
    refine ⟨_, (pss_one (ps_ret (pe_callB call_len_seq (by rfl) T.m_len (by decide +kernel) (pa_cons (pe_fld (pv 0) rfl) pa_nil)))), ?_⟩
    obtain ⟨dx, t, xs, hx, hs, ha, _⟩ := hS.inv
    exact Evl.s_ret (Evl.ev_is (ev_lenS (xs := xs) (ev_fld (v := .ref t) (Evl.ev_var (v := .ref x) rfl) hx S.cl S.nQ rfl) (.inr hs)) (congrArg V.int (by rw [dpa_len ha]))) k
theorem ok_Siter {f : Addr} {fd : FuncData} (F : Fun K "__iter__" "Sample.__iter__" s_Sample_iter f fd) (m_iter : mg "iter" = none) (S : SmpC K C) (hb : Binds K fd ["self"] []) : IterG P w K mg base 0 C f "_pairs" := by
  intro A outer s H a t dx fs xs Q hr e0 ha hf ht q
  obtain ⟨oc, od, kV, doc, pm, an, cdv, ct, osl, rfl, lk, hcd⟩ := F.ex
  have KX : K.In s.heap := e0.mod.kin.keeps fun b o e => (e0.bs b o e).1
  refine LamX.run_ofS (CX := CX0) (E := E0) (N := sc_Sample_iter_N) (ps := ["self"]) (us := [Value.ref a]) (vs := [V.ref a]) lk hcd sc_Sample_iter hr e0 (by have := hb s [.ref a] KX rfl; simpa using this) (show Vals [V.ref a] [Value.ref a] from .cons rfl .nil) rfl fun r => ?_
  have body : ∃ t, PSs (cxOf CX0 P w K mg base sc_Sample_iter_N "Sample.__iter__" (defScope s_Sample_iter) f cdv A outer s H E0).nox (defBody s_Sample_iter) t ∧ t { nx := fun _ H' => Q .non H', rt := Q } (L2.start sc_Sample_iter_N [V.ref a]) H := by
    refine ⟨_, (pss_one (ps_ret (pe_callB call_iterT (by rfl) m_iter (by decide +kernel) (pa_cons (pe_fld (pv 0) rfl) pa_nil)))), ?_⟩
    exact ⟨_, rfl, a, C, dx, fs, .ref t, rfl, ha, S.cl, S.nQ, hf, t, xs, rfl, ht, fun it h1 h2 => q it h1 h2⟩
  obtain ⟨t, h1, h2⟩ := body
  exact ⟨t, h1.nox, h2⟩
theorem rowD_shaped (ns : List Int) (b : Bool) : SeqAt.shaped (rowD ns b) = true := by
  have h := lay_ints ns
  refine Bool.and_eq_true_iff.mpr ⟨?_, decide_eq_true ?_⟩
  · show ((PyData.canLayAll0 (ns.map .int)) && (true && true)) = true
    rw [h.1]
    rfl
  · show (max (PyData.depthAll (ns.map .int) + 1) (max 0 0)) + 1 ≤ 64
    rw [h.2]
    decide
def spHasM (K : PySem.W.Frag) (C : Addr) : Sp := fun vs H Q _ => ∃ x v p ds d L, vs = [.ref x, v] ∧ Smp K L H x C p ds ∧ Rws p ds ∧ Dq K H v d ∧ (∃ n, fits n d) ∧ (isX p d = true → Dp K H v d ∧ RlM p d) ∧ ∀ H', Ex H H' → Q (.bl (isX p d && ds.any fun z => PyData.eqv z (cpy d))) H'
theorem ok_ShasM {f : Addr} {fd : FuncData} (F : Fun K "__contains__" "Sample.__contains__" s_Sample_contains f fd) (T : TxF mg) (S : SmpC K C) (D_is_example : DefAt P w K mg base "is_example" 4 ["thing", "places"] (spBp K isX))
    (D_copied_example : DefAt P w K mg base "copied_example" 1 ["example"] (spCopyM K)) : FnOk P w K mg base CX0 5 f fd ["self", "thing"] (spHasM K C) := by
  refine F.ok sc_Sample_contains (fun vs H Q E h => ?_) (fun cdv A outer s H vs Q E hr h => ?_)
  · obtain ⟨_, _, _, _, _, _, rfl, _⟩ := h
    rfl
  · obtain ⟨x, v, p, ds, d, L, rfl, hS, hR, hd, hw, hX, k⟩ := h
    refine ⟨_, (pss_one (ps_ret (pe_and (pe_callD D_is_example (by first | exact hr | exact hr.mono (by decide) | exact hr.mono (by omega)) (by rfl) (pa_cons (pv 1) (pa_cons (pe_fld (pv 0) rfl) pa_nil))) (pe_one (pe_cmpR (op_inDT (show (A.deeper _).units + 65 < cLine by have := hr.un; omega)) (pe_callD D_copied_example (by first | exact hr | exact hr.mono (by decide) | exact hr.mono (by omega)) (by rfl) (pa_cons (pv 1) pa_nil)) (pe_fld (pv 0) rfl) (by rfl)))))), ?_⟩
    obtain ⟨dx, t, xs, hx, hs, ha, hD⟩ := hS.inv
    have v0 : Evl.Ev (tVar 0) (start sc_Sample_contains_N [.ref x, v]) H (.ref x) := Evl.ev_var rfl
    have v1 : Evl.Ev (tVar 1) (start sc_Sample_contains_N [.ref x, v]) H v := Evl.ev_var rfl
    refine Evl.s_ret (v := .bl (isX p d && ds.any fun z => PyData.eqv z (cpy d))) (Evl.ev_andV (a := isX p d) (b := ds.any fun z => PyData.eqv z (cpy d)) (ev_spBpq v1 (ev_fld (v := .int p) v0 hx S.cl S.nP rfl) hd hw) fun hz => ?_) k
    obtain ⟨hd2, hr2⟩ := hX hz
    obtain ⟨o, i, ns, b, rfl, _⟩ := id hr2
    exact fun H1 e1 Q q => ev_spCopyM (L := []) v1 lsts_nil hd2 hr2 H1 e1 _ fun v' H2 e2 hv => ⟨.ref x, rfl, x, C, dx, _, .ref t, rfl, (e1.trans e2) _ _ hx, S.cl, S.nQ, rfl, cpy (rowM o i ns b), ds, by rw [w_nil] at hv; exact hv, (hD.up (w_ex (e1.trans e2))).up w_sub, by rw [cpy_M]; exact rowD_shaped ns b, hR.shaped.1, q H2 e2⟩
end
end U

set_option Elab.async false
set_option linter.all false
set_option maxRecDepth 100000
set_option maxHeartbeats 4000000
/-! == of samples, and of a sample with data -/
namespace U
open PySem PySem.Spec PyProof.Rows L2
open Evl (Ex)
open C8 (Met Mak pe_mt pe_mt0 pe_mk)
theorem sub_dat (K : PySem.W.Frag) (C : Addr) (d : PyData) : PySem.W.subIn K (.type (tyOf d)) (.ref C) = some false := by
  cases d <;> rfl
section
variable {P : Program} {w : World} {K : PySem.W.Frag} {mg : Str → Option Value} {base : Heap} {C : Addr} {L : List Addr} {σ : L2.St} {H H1 H' : Hp} {p q : Int} {ds es : List PyData} {ta tb te : TE} {x y : Addr}
/-- the class as a class -/
structure ClsI (K : PySem.W.Frag) (C : Addr) : Prop where
  ic : PySem.W.isClsIn K C = true
  ty : PySem.W.typeIn K (.ref C) = some (.type "type")
theorem kit_dat (I : ClsI K C) (d : PyData) : PySem.W.kitOne K (.type (tyOf d)) (.ref C) = some false := by
  unfold PySem.W.kitOne
  have e : (Value.type (tyOf d) == Value.ref C) = false := rfl
  rw [e]
  unfold PySem.W.kitCls
  have h1 : (PySem.W.clsIn K C).isSome = true := I.ic
  have b : ((PySem.W.clsIn K C).isSome && PySem.W.typeIn K (.ref C) == some (.type "type")) = true := by rw [h1, I.ty]; rfl
  show (if false = true then _ else (if _ then _ else _)) = _
  rw [if_neg Bool.false_ne_true, if_pos b]
  exact sub_dat K C d
theorem ev_isD {te : TE} {v : V} {d : PyData} (I : ClsI K C) (h : Evl.Ev te σ H v) (hd : Dq K H v d) : Evl.Ev (tCB (rIsi K) (tCons te (tCons (tC (.ref C)) tNil))) σ H (.bl false) := fun H1 e1 Q q =>
  h H1 e1 _ fun H2 e2 => ⟨v, .ref C, _, _, false, rfl, .own C, dq_ty (hd.up (e1.trans e2)), kit_dat I d, q H2 e2⟩
/-- what a sample may be compared with -/
def Cmpd (K : PySem.W.Frag) (C : Addr) (L : List Addr) (H : Hp) (p : Int) (ds : List PyData) (y : V) (r : Bool) : Prop :=
  (∃ b q es, y = .ref b ∧ Smp K L H b C q es ∧ Rws q es ∧ r = (decide (p = q) && PyData.eqvAll ds es)) ∨ (∃ d, Dq K H y d ∧ r = false)
theorem Cmpd.up {y : V} {r : Bool} (h : Cmpd K C L H p ds y r) (e : Ex H H') : Cmpd K C L H' p ds y r := by
  rcases h with ⟨b, q, es, h1, h2, h3⟩ | ⟨d, h1, h2⟩
  · exact .inl ⟨b, q, es, h1, h2.up e, h3⟩
  · exact .inr ⟨d, h1.up e, h2⟩
def spEqM (K : PySem.W.Frag) (C : Addr) : Sp := fun vs H Q _ => ∃ x y p ds L r, vs = [.ref x, y] ∧ Smp K L H x C p ds ∧ Rws p ds ∧ Cmpd K C L H p ds y r ∧ ∀ H', Ex H H' → Q (.bl r) H'
theorem ok_SeqM {f : Addr} {fd : FuncData} (F : Fun K "__eq__" "Sample.__eq__" s_Sample_eq f fd) (T : TxF mg) (S : SmpC K C) (I : ClsI K C) (N_gC : mg "Sample" = some (.ref C)) : FnOk P w K mg base CX0 1 f fd ["self", "other"] (spEqM K C) := by
  refine F.ok sc_Sample_eq (fun vs H Q E h => ?_) (fun cdv A outer s H vs Q E hr h => ?_)
  · obtain ⟨_, _, _, _, _, _, rfl, _⟩ := h
    rfl
  · obtain ⟨a, y, p, ds, L, r, rfl, h1, hR, hC, k⟩ := h
    refine ⟨_, (pss_one (ps_ret (pe_and (pe_callB call_isi (by rfl) T.m_isinstance (by decide +kernel) (pa_cons (pv 1) (pa_cons (pe_glob (v := .ref C) (by rfl) N_gC rfl) pa_nil))) (pe_and (pe_cmpR op_eq (pe_fld (pv 0) rfl) (pe_fld (pv 1) rfl) (nomark _)) (pe_one (pe_cmpR (op_eqD hr.units) (pe_fld (pv 0) rfl) (pe_fld (pv 1) rfl) (nomark _))))))), ?_⟩
    obtain ⟨dx, t, xs, hx, hT, hA, hD⟩ := h1.inv
    rcases hC with ⟨b, q, es, rfl, h2, hS, rfl⟩ | ⟨d, hd, rfl⟩
    · obtain ⟨dy, t2, ys, hy, hT2, hA2, hD2⟩ := h2.inv
      have va : Evl.Ev (tVar 0) (start sc_Sample_eq_N [.ref a, .ref b]) H (.ref a) := Evl.ev_var rfl
      have vb : Evl.Ev (tVar 1) (start sc_Sample_eq_N [.ref a, .ref b]) H (.ref b) := Evl.ev_var rfl
      have e1 : Evl.Ev (tOp rEq (tFld K (tVar 0) "places") (tFld K (tVar 1) "places")) (start sc_Sample_eq_N [.ref a, .ref b]) H (.bl (decide (p = q))) := Evl.ev_is (Evl.ev_op (ev_fld va hx S.cl S.nP (v := .int p) rfl) (ev_fld vb hy S.cl S.nP (v := .int q) rfl) (Evl.rv_eq rfl)) (congrArg V.bl (decide_eq_decide.mpr ⟨fun h => by injection h, fun h => by rw [h]⟩))
      have e2 : Evl.Ev (tOp (rEqD K) (tFld K (tVar 0) "_pairs") (tFld K (tVar 1) "_pairs")) (start sc_Sample_eq_N [.ref a, .ref b]) H (.bl (PyData.eqvAll ds es)) := ev_eqD (ev_fld va hx S.cl S.nQ (v := .ref t) rfl) (ev_fld vb hy S.cl S.nQ (v := .ref t2) rfl) (hD.up w_sub) (hD2.up w_sub) hR.shaped.1 hS.shaped.1
      exact Evl.s_ret (v := .bl (decide (p = q) && PyData.eqvAll ds es)) (Evl.ev_is (Evl.ev_andV (a := true) (b := decide (p = q) && PyData.eqvAll ds es) (ev_isS S vb hy) fun _ => Evl.ev_andV (a := decide (p = q)) (b := PyData.eqvAll ds es) e1 fun _ => e2) (congrArg V.bl (Bool.true_and _))) k
    · exact Evl.s_ret (v := .bl false) (Evl.ev_andV (a := false) (b := false) (ev_isD I (Evl.ev_var rfl) hd) fun z => nomatch z) k
structure EqSp (P : Program) (w : World) (K : PySem.W.Frag) (mg : Str → Option Value) (base : Heap) (C : Addr) : Prop where
  ex : ∃ f fd, FnOk P w K mg base CX0 1 f fd ["self", "other"] (spEqM K C) ∧ EqC K C f ∧ Binds K fd ["self", "other"] []
def tSeq2 (K : PySem.W.Frag) (C : Addr) (g : Bool → Bool) (ta tb : TE) : TE := tOp (rOwnQ K C (spEqM K C) g) ta tb
theorem pe_seq {X : Cx} {C : Addr} {j : Nat} {a b : Expr} {ta tb : TE} {pos : Pos} (M : EqSp X.prog X.w X.K X.mg X.base C) (hr : Room j X.A) (hj : 1 ≤ j) (ha : PE X a ta) (hb : PE X b tb) : PE X (.Compare a [.Eq] [b] pos) (tSeq2 X.K C id ta tb) := by
  obtain ⟨f, fd, F, e, hB⟩ := M.ex
  exact pe_cmpR (op_eqOwn F (hr.mono hj) e hB) ha hb (nomark _)
theorem pe_sne {X : Cx} {C : Addr} {j : Nat} {a b : Expr} {ta tb : TE} {pos : Pos} (M : EqSp X.prog X.w X.K X.mg X.base C) (hr : Room j X.A) (hj : 2 ≤ j) (ha : PE X a ta) (hb : PE X b tb) : PE X (.Compare a [.NotEq] [b] pos) (tSeq2 X.K C not ta tb) := by
  obtain ⟨f, fd, F, e, hB⟩ := M.ex
  exact pe_cmpR (op_neOwn F (hr.mono hj) e hB) ha hb (nomark _)
/-- sample == y -/
theorem ev_seqV (S : SmpC K C) (I : ClsI K C) {g : Bool → Bool} {v : V} {r : Bool} (h : Evl.Ev ta σ H (.ref x)) (h2 : Evl.Ev tb σ H v) (h3 : Smp K L H x C p ds) (hR : Rws p ds) (hC : Cmpd K C L H p ds v r) : Evl.Ev (tSeq2 K C g ta tb) σ H (.bl (g r)) := fun H1 e Q k => h H1 e _ fun H2 e2 => h2 H2 (e.trans e2) _ fun H3 e3 => by
  have eA := (e.trans e2).trans e3
  obtain ⟨dx, v0, hx, _⟩ := id (h3.up eA)
  have hC3 := hC.up eA
  have ty : ∃ t, TyX K H3 v t ∧ PySem.W.notFirst K C t = true := by
    rcases hC3 with ⟨b, q, es, rfl, hb, _⟩ | ⟨d, hd, _⟩
    · obtain ⟨dy, v2, hy, _⟩ := id hb
      exact ⟨_, .base (.ins hy S.cl S.ha S.hn S.htk S.hm), by unfold PySem.W.notFirst; simp⟩
    · exact ⟨_, dq_ty hd, by unfold PySem.W.notFirst; rw [sub_dat]; rfl⟩
  obtain ⟨t, t1, t2⟩ := ty
  exact ⟨x, dx, _, _, rfl, hx, t1, t2, x, v, p, ds, L, r, rfl, h3.up eA, hR, hC3, fun H4 e4 => ⟨_, rfl, k H4 ((e2.trans e3).trans e4)⟩⟩
end
end U

set_option Elab.async false
set_option linter.all false
set_option maxRecDepth 100000
set_option maxHeartbeats 4000000
/-! a tuple times a number from 1 on -/
namespace U
open PySem PySem.Spec PyProof.Rows L2
open Evl (Ex)
open AutoSeq1 (wpAny_loadPart')
theorem tuple_mul1 (l : Addr) (items : Array Value) (n : Nat) (dd : Option Addr) (sl : Array (Option Value)) (u : Tok) (c1 : (items.isEmpty || (1 : Int) == 1) = true) :
    Meets (Builtin.«tuple.__mul__» ⟨[.ref l, .int 1 u], []⟩) (fun _ R s => s.heap.get? l = some { cls := .type "tuple", dict := dd, data := .seq items n, slots := sl } ∧
      R (.ok (.ret (Value.ref l))) s) :=
  .of_wp fun prog w A R s h => by
    obtain ⟨hp, g, d, tk, os⟩ := s
    obtain ⟨hl, h⟩ := h
    have f1 := AutoSeq1.idx_int
    have c0 : (decide ((1 : Int) < -(2 ^ 63)) || decide ((1 : Int) ≥ 2 ^ 63)) = false := by decide
    wp_walk using wpAny_loadPart' hl
    repeat (first
      | (refine wpAny_ite_false (decide_eq_false (by rw [c0]; exact Bool.false_ne_true)) ?_; wp_walk using wpAny_loadPart' hl)
      | (refine wpAny_ite_true (decide_eq_true c1) ?_; wp_walk using wpAny_loadPart' hl))
    exact ⟨_, rfl, h⟩

def rRepA (K : PySem.W.Frag) : R2 := fun x y H Q => ∃ l k xs, x = .ref l ∧ y = .int k ∧ SqT K H l xs ∧ xs ≠ [] ∧ 1 ≤ k ∧ k ≤ 1000 ∧ xs.length ≤ 1000 ∧ (k = 1 → Q (.ref l) H) ∧ (2 ≤ k → ∀ p, H p = none → Q (.ref p) (upd H p (.tup (List.replicate k.toNat xs).flatten)))
theorem op_repA {X : Cx} : OpR X (binaryOp .Mult) (rRepA X.K) := by
  intro pins s σ H x y v u Q I rx ry h
  obtain ⟨l, k, xs, rfl, rfl, hT, hne, h1, h2, hz, q1, q2⟩ := h
  by_cases hk : k = 1
  · subst hk
    cases rx
    obtain ⟨t, rfl⟩ := ry
    obtain ⟨its, r, ⟨⟨cls, dd, data, sl⟩, ho, hc, n, hd⟩, hs⟩ := I.tuple hT
    simp only at hc hd
    subst hc hd
    refine wpAny_binaryOp_repeat_ref (T := "tuple") (U := "int") (by decide) ⟨_, ho, rfl⟩ (fun s' => typeIs_int s' 1 t) noFill_tuple_mul PySem.F.fills_int_mul PySem.F.slot_int_rmul repeat_tuple PySem.F.slot_int_index.lookup
      (call_meets PySem.F.slot_int_rmul (typeIs_int s 1 t) PySem.F.entry_int_rmul (PySem.F.args_int_rmul_2 _ _) (int_rmul_tuple 1 t l its.toArray n dd sl)
        ⟨ho, rfl, ⟨_, ho, rfl⟩, call_meets PySem.F.slot_tuple_mul ⟨_, ho, rfl⟩ PySem.F.entry_tuple_mul (PySem.F.args_tuple_mul_2 _ _) (tuple_mul1 l its.toArray n dd sl t (by simp)) ⟨ho, ?_⟩⟩)
    exact ⟨.ref l, H, I, rfl, q1 rfl⟩
  · exact op_repT pins s σ H _ _ v u Q I rx ry ⟨l, k, xs, rfl, rfl, hT, hne, by omega, h2, hz, q2 (by omega)⟩
section
variable {K : PySem.W.Frag} {σ : L2.St} {H : Hp} {te tb : TE} {L : List Addr}
/-- (0,) * k -/
theorem evd_zeros {k : Int} (hL : Hid L H) (h : Evl.Ev tb σ H (.int k)) (h1 : 1 ≤ k) (h2 : k ≤ 100) : EvD K L (tOp (rRepA K) (tTup (tCons (tC (.int 0)) tNil)) tb) σ H (.tuple ((List.replicate k.toNat (0 : Int)).map .int)) := fun H1 e Q q => by
  refine ⟨by show 1 ≤ sizeLine; decide, fun p hp => h _ (e.trans (Ex.new hp)) _ fun H2 e2 => ?_⟩
  have hp2 := e2 _ _ (upd_same (H := H1) (a := p) (o := .tup [.int 0]))
  have dp : ∀ (n : Nat) (H : Hp), DpAll K H (List.replicate n (V.int 0)) ((List.replicate n (0 : Int)).map .int) := fun n H => by
    induction n with
    | zero => exact .nil
    | succ n ih => exact .cons (.int 0) ih
  have eA : Ex H1 H2 := (Ex.new hp).trans e2
  have hpL : p ∉ L := hid_not (hid_ex e hL) hp
  refine ⟨p, k, [.int 0], rfl, rfl, SqT.of hp2, by simp, h1, by omega, by show 1 ≤ 1000; omega, fun hk => ?_, fun hk r hr => ?_⟩
  · subst hk
    exact q (.ref p) H2 eA (.tup (SqT.of (w_of hpL hp2)) (dp 1 _))
  · refine q (.ref r) _ (eA.trans (Ex.new hr)) (.tup (SqT.of (w_new (hid_ex (e.trans eA) hL) hr)) ?_)
    rw [List.flatten_replicate_singleton]
    exact dp _ _
end
end U

set_option Elab.async false
set_option linter.all false
set_option maxRecDepth 100000
set_option maxHeartbeats 4000000
/-! what the law asks of a sample -/
namespace U
open PySem PySem.Spec PyProof.Rows L2
open Evl (Ex)
open C8 (Met Mak pe_mt pe_mt0 pe_mk)
abbrev s_mixed : Stmt := top 23
abbrev sc_mixed_N : List Str := ["_law_draws", "_law_things", "_law_left", "_law_k"]
theorem sc_mixed : FnScope sc_mixed_N ["_law_draws", "_law_things"] (defScope s_mixed) := ⟨rfl, rfl, rfl, by decide +kernel, rfl, by decide +kernel, by decide +kernel⟩
abbrev s_is_so : Stmt := top 28
abbrev sc_is_so_N : List Str := ["_law_sample", "_law_places", "_law_rows_here", "_law_told", "_law_row"]
theorem sc_is_so : FnScope sc_is_so_N ["_law_sample", "_law_places", "_law_rows_here"] (defScope s_is_so) := ⟨rfl, rfl, rfl, by decide +kernel, rfl, by decide +kernel, by decide +kernel⟩
theorem erase_permV : ∀ (l : List V) (k : Nat) (h : k < l.length), (l[k] :: l.eraseIdx k).Perm l
  | _ :: _, 0, _ => List.Perm.refl _
  | a :: l, k + 1, h => (List.Perm.swap a (l[k]'(by simpa using h)) (l.eraseIdx k)).trans (List.Perm.cons a (erase_permV l k (by simpa using h)))
theorem dpa_perm {K : PySem.W.Frag} {H : Hp} {ms xs : List V} (h : ms.Perm xs) : ∀ {ds : List PyData}, DpAll K H ms ds → ∃ es, DpAll K H xs es ∧ ds.Perm es := by
  induction h with
  | nil => intro ds hd; cases hd; exact ⟨[], .nil, .refl _⟩
  | cons x h ih =>
    intro ds hd
    cases hd with
    | cons r t =>
      obtain ⟨es, h1, h2⟩ := ih t
      exact ⟨_ :: es, .cons r h1, h2.cons _⟩
  | swap x y l =>
    intro ds hd
    cases hd with
    | cons r t =>
      cases t with
      | cons r2 t2 => exact ⟨_ :: _ :: _, .cons r2 (.cons r t2), List.Perm.swap ..⟩
  | trans h1 h2 ih1 ih2 =>
    intro ds hd
    obtain ⟨es, q1, q2⟩ := ih1 hd
    obtain ⟨fs, q3, q4⟩ := ih2 q1
    exact ⟨fs, q3, q2.trans q4⟩
section
variable {P : Program} {w : World} {K : PySem.W.Frag} {mg : Str → Option Value} {base : Heap} {C : Addr}
def spMixed (K : PySem.W.Frag) : Sp := fun vs H Q _ => ∃ (l a : Addr) (xs : List V) (n : Nat), vs = [.ref l, .ref a] ∧ Dr n H l ∧ n < 900000 ∧ a ≠ l ∧ SqL K H a xs ∧ xs.length ≤ 100 ∧
  ∀ t ms H', ExB l H H' → Dr (n + 100) H' l → t ≠ l → (ms : List V).Perm xs → H t = none → H' t = some (.lst ms) → Q (.ref t) H'
theorem ok_mixed {f : Addr} {fd : FuncData} (F : Fun K "_law_mixed" "_law_mixed" s_mixed f fd) (T : TxF mg) (D_draw : DefAt P w K mg base "_law_draw" 1 ["_law_draws", "_law_many"] spDraw) : FnOk P w K mg base CX0 2 f fd ["_law_draws", "_law_things"] (spMixed K) := by
  refine F.ok sc_mixed (fun vs H Q E h => ?_) (fun cdv A outer s H vs Q E hr h => ?_)
  · obtain ⟨_, _, _, _, rfl, _⟩ := h
    rfl
  · obtain ⟨l, a, xs, n, rfl, hd, hn, hal, hs, hz, k⟩ := h
    refine ⟨_, (pss_cons (ps_set (i := 2) sc_mixed.nd rfl (by first | exact Or.inl rfl | exact Or.inr rfl) (pe_callTy call_list_of (by rfl) T.m_list (by decide +kernel) (pa_cons (pv 1) pa_nil)))
    (pss_one (ps_ret (pe_lc (own := [("_law_k", 3)]) (g := gName 3) (tt := tYes) (te := tBM K "list" rPopAt (tVar 2) (tCons (tCallD spDraw (tCons (tVar 0) (tCons (tCB (Evl.rLenS K) (tCons (tVar 2) tNil)) tNil))) tNil)) (by rfl) sc_mixed.nd (pi_range1 (by rfl) T.m_range (pa_cons (pe_callB call_len_seq (by rfl) T.m_len (by decide +kernel) (pa_cons (pv 2) pa_nil)) pa_nil)) (blkOk_by (N := sc_mixed_N) (sc := defScope s_mixed) (by decide +kernel)) (fun _ _ _ _ _ => (pg_name (i := 3) sc_mixed.nd rfl (by first | exact Or.inl rfl | exact Or.inr rfl))) (fun _ _ _ _ _ => pts_nil) (fun _ _ _ _ _ => (pe_bm PySem.F.plainAttrs_list PySem.F.slot_list_pop PySem.F.type_list_pop mt_popAt (pv 2) (pa_cons (pe_callD D_draw (by first | exact hr | exact hr.mono (by decide) | exact hr.mono (by omega)) (by rfl) (pa_cons (pv 0) (pa_cons (pe_callB call_len_seq (by rfl) T.m_len (by decide +kernel) (pa_cons (pv 2) pa_nil)) pa_nil))) pa_nil))))))), ?_⟩
    refine ⟨_, rfl, a, _, rfl, .inl hs, fun c hc => ?_⟩
    have hcl : c ≠ l := fun e => hd.ne (by rw [← e]; exact hc)
    refine ⟨_, rfl, c, _, rfl, .inl (SqL.of upd_same), (xs.length : Int), rfl, by omega, by omega, fun Dl hD => ?_⟩
    have hDc : Dl ≠ c := fun e => by
      rw [e, upd_same] at hD
      cases hD
    have hD0 : H Dl = none := by rwa [upd_ne hDc] at hD
    have hDl : Dl ≠ l := fun e => hd.ne (by rw [← e]; exact hD0)
    let Pv : Nat → Hp → Prop := fun i H' => ExB l H H' ∧ Dr (n + i) H' l ∧ ∃ ms rest : List V, ms.length = i ∧ (ms ++ rest).Perm xs ∧ H' c = some (.lst rest) ∧ H' Dl = some (.lst ms)
    have e1 : Ex H (upd (upd H c (.lst xs)) Dl (.lst [])) := (Ex.new hc).trans (Ex.new hD)
    rw [Int.toNat_natCast]
    refine lc_range (lo := 0) (n := xs.length) Pv ⟨ExB.of e1, hd.ex e1, [], xs, rfl, List.Perm.refl _, by rw [upd_ne (Ne.symm hDc), upd_same], upd_same⟩ (fun i H2 hi pv => ?_) (fun H2 pv => ?_)
    · obtain ⟨e2, hd2, ms, rest, hms, hp, hc2, hl2⟩ := pv
      have hlen := hp.length_eq
      rw [List.length_append] at hlen
      refine ⟨rfl, ?_⟩
      refine yes_lc (B := fun H3 => Pv (i + 1) H3) ?_
      refine ⟨_, rfl, Or.inl ⟨rfl, _, SqL.of hc2⟩, ?_⟩
      refine draw_run (n := n + i) (many := (rest.length : Int)) (by rfl) hd2 (by omega) (ev_lenS (Evl.ev_var rfl) (.inl (SqL.of hc2))) (by omega) (by omega) fun r H3 r0 r1 hd3 e3 => ?_
      have hc3 := e3 c _ hcl hc2
      have hl3 := e3 Dl _ hDl hl2
      have hr : r.toNat < rest.length := by omega
      refine ⟨c, rest, r, r.toNat, rest[r.toNat], rfl, rfl, hc3, by omega, by omega, ?_, List.getElem?_eq_getElem hr, ?_⟩
      · unfold seqIndex?
        have h1 : ¬ r < 0 := by omega
        simp only [if_neg h1]
        rw [if_pos (by simp; omega)]
      · refine ⟨ms, by rw [upd_ne hDc]; exact hl3, Evl.sz_lt (by omega), ?_, ?_, ms ++ [rest[r.toNat]], rest.eraseIdx r.toNat, ?_, ?_, ?_, ?_⟩
        · intro b o hb hbo
          have nb : b ≠ Dl := ne_of_none hbo hD0
          have nb2 : b ≠ c := ne_of_none hbo hc
          rw [upd_ne nb, upd_ne nb2]
          exact e3 b o hb (e2 b o hb hbo)
        · obtain ⟨x, y, z, q1, q2⟩ := hd3
          exact ⟨x, y, z, by rw [upd_ne (Ne.symm hDl), upd_ne (Ne.symm hcl)]; exact q1, q2⟩
        · rw [List.length_append, hms]
          rfl
        · refine List.Perm.trans ?_ hp
          rw [List.append_assoc]
          exact List.Perm.append_left ms (erase_permV rest r.toNat hr)
        · rw [upd_ne (Ne.symm hDc), upd_same]
        · rw [upd_same]
    · obtain ⟨e2, hd2, ms, rest, hms, hp, hc2, hl2⟩ := pv
      have hlen := hp.length_eq
      rw [List.length_append] at hlen
      have hr0 : rest = [] := List.eq_nil_of_length_eq_zero (by omega)
      subst hr0
      rw [List.append_nil] at hp
      exact k Dl ms H2 e2 (hd2.up (by omega)) hDl hp hD0 hl2

theorem same_ev {σ : L2.St} {H : Hp} {te tf : TE} {d : PyData} {n : Nat} (h1 : EvD K [] te σ H d) (h2 : EvD K [] tf σ H d) (hf : fits n d) : Evl.Ev (tCallD (spSame K n) (tCons te (tCons tf tNil))) σ H (.bl true) := fun H1 e Q q =>
  h1 H1 e _ fun v H2 e2 hv => h2 H2 (e.trans e2) _ fun w H3 e3 hw => ⟨v, w, d, rfl, (hv.up (w_ex e3)).up w_sub, hw.up w_sub, hf, fun H4 e4 => q H4 ((e2.trans e3).trans e4)⟩
theorem eg_examples {L : List Addr} {σ : L2.St} {H : Hp} {te : TE} {x : Addr} {p : Int} {ds : List PyData} (h : Evl.Ev te σ H (.ref x)) (hS : Smp K L H x C p ds) (hL : Hid L H) : EvG K L (tMeth C "examples" (spExamples K C) [] E0 te tNil) σ H ds := fun H1 e Q q => h H1 e _ fun H2 e2 => by
  have hS2 := hS.up (e.trans e2)
  obtain ⟨dx, v, h1, h2⟩ := id hS2
  exact ⟨x, dx, _, rfl, h1, rfl, x, p, ds, L, rfl, hid_ex (e.trans e2) hL, hS2, fun t H3 ht e3 g => q t H3 (Evl.fresh_back e2 ht) (e2.trans e3) g⟩
theorem ev_lenM {L : List Addr} {σ : L2.St} {H : Hp} {te : TE} {x : Addr} {p : Int} {ds : List PyData} (h : Evl.Ev te σ H (.ref x)) (hS : Smp K L H x C p ds) (hz : ds.length ≤ 100000) : Evl.Ev (tCB (rLenO C (spLen K C)) (tCons te tNil)) σ H (.int (ds.length : Int)) := fun H1 e Q q => h H1 e _ fun H2 e2 => by
  have hS2 := hS.up (e.trans e2)
  obtain ⟨dx, v, h1, h2⟩ := id hS2
  exact ⟨x, dx, _, rfl, h1, x, p, ds, L, rfl, hS2, fun H3 e3 => ⟨ds.length, rfl, hz, q H3 (e2.trans e3)⟩⟩
/-- [row for row in sample] -/
theorem eg_own {σ : L2.St} {H : Hp} {tl : TE} {x : Addr} {p : Int} {ds : List PyData} {j : Nat} {vs : List Nat} (h : Evl.Ev tl σ H (.ref x)) (hS : Smp K [] H x C p ds) (hz : ds.length ≤ 40000) (hw : ∀ x, wipe ((wipe σ vs).set j (some x)) vs = wipe σ vs) (hj : ∀ x, ((wipe σ vs).set j (some x))[j]? = some (some x)) :
    EvG K [] (tLc (iOwn K C "_pairs" tl) (gName j) tYes (tVar j) vs) σ H ds := fun H0 e0 Q q => h H0 e0 _ fun H1 e1 => by
  have hS1 := hS.up (e0.trans e1)
  obtain ⟨dx, t, xs, hx, ht, ha, hD⟩ := hS1.inv
  have hlen := dpa_len ha
  refine ⟨x, dx, _, t, xs, rfl, hx, rfl, ht, fun Dl hD => ?_⟩
  refine lc_it (walk_tup (xs := xs)) (Cmd K [] H1 (fun i => ds.take i) Dl) (cmd_0 (fun _ m => nomatch m) hD rfl) (fun i H2 _ p => Evl.ex_t p.2.1 ht) (fun i y H2 H3 hi p yp => ?_) (fun H2 p => ?_)
  · obtain ⟨rfl, hu⟩ := yp
    obtain ⟨d, hd1, hd2⟩ := dpa_get ha hu
    obtain ⟨p1, p2, p3⟩ := id p
    refine ⟨hw y, ?_⟩
    refine yes_lc (A := fun H3 => (tVar j) ((wipe σ vs).set j (some y)) H3 fun y H4 => ∃ acc, H4 Dl = some (.lst acc) ∧ acc.length < sizeLine ∧ Cmd K [] H1 (fun i => ds.take i) Dl (i + 1) (upd H4 Dl (.lst (acc ++ [y])))) (B := fun H3 => Cmd K [] H1 (fun i => ds.take i) Dl (i + 1) H3) ?_
    refine cmd_yes p (by simp; omega) (Ex.refl _) (evd_of (v := y) (Evl.ev_var (hj y)) (hd2.up (w_past p1 p2))) ?_
    rw [List.take_add_one, hd1]
    rfl
  · obtain ⟨p1, p2, p3⟩ := p
    refine q Dl H2 (Evl.fresh_back e1 p1) (e1.trans p2) ?_
    dsimp only at p3
    rw [hlen, List.take_length] at p3
    exact p3
def spIsSo (K : PySem.W.Frag) (C : Addr) : Sp := fun vs H Q _ => ∃ (x t : Addr) (p : Int) (ds : List PyData), vs = [.ref x, .int p, .ref t] ∧ Smp K [] H x C p ds ∧ Rws p ds ∧ Dp K H (.ref t) (.list ds) ∧ ∀ H', Ex H H' → Q (.bl true) H'
theorem ok_isso {f fl fi : Addr} {fd fdl : FuncData} (F : Fun K "_law_is_so" "_law_is_so" s_is_so f fd) (T : TxF mg) (S : SmpC K C) (M_examples : Met P w K mg base 1 C "examples" (spExamples K C) []) (FL : FnOk P w K mg base CX0 1 fl fdl ["self"] (spLen K C)) (eL : SpM K C fl "__len__") (bL : Binds K fdl ["self"] [])
    (GI : IterG P w K mg base 0 C fi "_pairs") (eI : SpM K C fi "__iter__") (D_same : DefAt P w K mg base "_law_same" 6 ["_law_found", "_law_due"] (spSame K 5)) : FnOk P w K mg base CX0 8 f fd ["_law_sample", "_law_places", "_law_rows_here"] (spIsSo K C) := by
  refine F.ok sc_is_so (fun vs H Q E h => ?_) (fun cdv A outer s H vs Q E hr h => ?_)
  · obtain ⟨_, _, _, _, rfl, _⟩ := h
    rfl
  · obtain ⟨x, t, p, ds, rfl, hS, hR, hd, k⟩ := h
    refine ⟨_, (pss_cons (ps_set (i := 3) sc_is_so.nd rfl (by first | exact Or.inl rfl | exact Or.inr rfl) (pe_mt0 M_examples hr (by decide) (pv 0)))
    (pss_cons (ps_if (pt_not (pt_val (pe_callD D_same (by first | exact hr | exact hr.mono (by decide) | exact hr.mono (by omega)) (by rfl) (pa_cons (pe_lst (pa_cons (pe_fld (pv 0) rfl) (pa_cons (pv 3) (pa_cons (pe_callB (call_lenO FL (hr.mono (by omega)) eL bL) (by rfl) T.m_len (by decide +kernel) (pa_cons (pv 0) pa_nil)) pa_nil)))) (pa_cons (pe_lst (pa_cons (pv 1) (pa_cons (pv 2) (pa_cons (pe_callB call_len_seq (by rfl) T.m_len (by decide +kernel) (pa_cons (pv 2) pa_nil)) pa_nil)))) pa_nil))))) (pss_one (ps_ret pe_bl)) pss_nil)
    (pss_cons (ps_expr (pe_bm PySem.F.plainAttrs_list PySem.F.slot_list_append PySem.F.type_list_append mt_append (pv 3) (pa_cons pe_str pa_nil)))
    (pss_one (ps_ret (pe_and (pe_callD D_same (by first | exact hr | exact hr.mono (by decide) | exact hr.mono (by omega)) (by rfl) (pa_cons (pe_lc (own := [("_law_row", 4)]) (g := gName 4) (tt := tYes) (by rfl) sc_is_so.nd (pi_own GI (hr.mono (by omega)) eI (pv 0)) (blkOk_by (N := sc_is_so_N) (sc := defScope s_is_so) (by decide +kernel)) (fun _ _ _ _ _ => (pg_name (i := 4) sc_is_so.nd rfl (by first | exact Or.inl rfl | exact Or.inr rfl))) (fun _ _ _ _ _ => pts_nil) (fun _ _ _ _ _ => (pv 4))) (pa_cons (pv 2) pa_nil))) (pe_one (pe_callD D_same (by first | exact hr | exact hr.mono (by decide) | exact hr.mono (by omega)) (by rfl) (pa_cons (pe_mt0 M_examples hr (by decide) (pv 0)) (pa_cons (pv 2) pa_nil)))))))))), ?_⟩
    have hid0 : ∀ H : Hp, Hid [] H := fun H a m => nomatch m
    have hz := hR.1
    have hf := hR.fit
    have f5 : fits 5 (.list [.int p, .list ds, .int ds.length]) := ⟨by show 3 ≤ 40000; omega, fun d hd => by
      simp only [List.mem_cons, List.not_mem_nil, or_false] at hd
      rcases hd with rfl | rfl | rfl
      · trivial
      · exact fits_up (by decide) hf.1
      · trivial⟩
    obtain ⟨ts, hts, hta⟩ : ∃ ts, SqL K H t ts ∧ DpAll K H ts ds := by
      cases hd with
      | lst hs ha => exact ⟨_, hs, ha⟩
    have lts := dpa_len hta
    refine (eg_examples (L := []) (Evl.ev_var (v := .ref x) rfl) hS (hid0 _)) H (Ex.refl _) _ fun G H1 hG e1 gG => ?_
    have hS1 := hS.up e1
    have hd1 := hd.up e1
    obtain ⟨dx, v0, hx1, _⟩ := id hS1
    dsimp only [gName, List.set]
    refine Evl.q_when (b := false) (Evl.et_is (Evl.et_not (a := true) (Evl.et_B (same_ev (n := 5) (d := .list [.int p, .list ds, .int ds.length])
      (evd_lst (hid0 _) (evds_cons (evd_evI (ev_fld (Evl.ev_var (v := .ref x) rfl) hx1 S.cl S.nP rfl)) (evds_cons (evd_of (Evl.ev_var (v := .ref G) rfl) gG.dp) (evds_cons (evd_evI (ev_lenM (Evl.ev_var (v := .ref x) rfl) hS1 (by omega))) evds_nil))) (by show 3 ≤ 100000; omega))
      (evd_lst (hid0 _) (evds_cons (evd_evI (Evl.ev_var rfl)) (evds_cons (evd_of (Evl.ev_var (v := .ref t) rfl) (by rw [w_nil]; exact hd1)) (evds_cons (evd_evI (Evl.ev_is (ev_lenS (xs := ts) (Evl.ev_var (v := .ref t) rfl) (.inl (Evl.ex_l e1 hts))) (congrArg V.int (by rw [lts])))) evds_nil))) (by show 3 ≤ 100000; omega)) f5))) rfl) (fun z => nomatch z) (fun _ H2 e2 => ?_)
    obtain ⟨_, gx, hgx, hga⟩ := id (gG.up e2)
    have lg := dpa_len hga
    refine Evl.q_app hgx (Evl.ev_var rfl) Evl.ev_c (by omega) fun H3 e3 => ?_
    have hG0 : H G = none := hG
    have e23 := e2.trans e3
    have eX : Ex H (upd H3 G (.lst (gx ++ [.str "more"]))) := ((e1.trans e23)).mut hG0
    have hS3 := hS.up eX
    have hd3 := hd.up eX
    refine Evl.s_ret (v := .bl true) (Evl.ev_is (Evl.ev_andV (a := true) (b := true) (same_ev (n := 5) (d := .list ds) (eg_own (Evl.ev_var (v := .ref x) rfl) hS3 (by omega) (fun _ => rfl) (fun _ => rfl)).dat (evd_of (Evl.ev_var (v := .ref t) rfl) (by rw [w_nil]; exact hd3)) (fits_up (by decide) hf.1))
      fun _ => same_ev (n := 5) (d := .list ds) (eg_examples (L := []) (Evl.ev_var (v := .ref x) rfl) hS3 (hid0 _)).dat (evd_of (Evl.ev_var (v := .ref t) rfl) (by rw [w_nil]; exact hd3)) (fits_up (by decide) hf.1)) rfl) fun H4 e4 => k H4 (eX.trans e4)
end
end U

set_option Elab.async false
set_option linter.all false
set_option maxRecDepth 100000
set_option maxHeartbeats 4000000
/-! samples compared -/
namespace U
open PySem PySem.Spec PyProof.Rows L2
open Evl (Ex)
open C8 (Met Mak pe_mt pe_mt0 pe_mk)
abbrev s_equals : Stmt := top 29
abbrev sc_equals_N : List Str := ["_law_draws", "_law_sample", "_law_places", "_law_rows_here", "_law_twin", "_law_more", "_law_thing"]
theorem sc_equals : FnScope sc_equals_N ["_law_draws", "_law_sample", "_law_places", "_law_rows_here"] (defScope s_equals) := ⟨rfl, rfl, rfl, by decide +kernel, rfl, by decide +kernel, by decide +kernel⟩
abbrev RB := List Int × Bool
def rowR (r : RB) : PyData := rowD r.1 r.2
theorem eqv_ints : ∀ a b : List Int, PyData.eqvAll (a.map .int) (b.map .int) = decide (a = b)
  | [], [] => rfl
  | [], _ :: _ => rfl
  | _ :: _, [] => rfl
  | x :: a, y :: b => by
    show ((x == y) && PyData.eqvAll (a.map .int) (b.map .int)) = _
    rw [eqv_ints a b]
    by_cases h1 : x = y <;> by_cases h2 : a = b <;> simp [h1, h2]
theorem eqv_row (r s : RB) : PyData.eqv (rowR r) (rowR s) = decide (r = s) := by
  show (PyData.eqvAll (r.1.map .int) (s.1.map .int) && ((r.2 == s.2) && true)) = _
  rw [eqv_ints]
  obtain ⟨a, b⟩ := r
  obtain ⟨c, d⟩ := s
  by_cases h1 : a = c <;> by_cases h2 : b = d <;> simp [h1, h2]
theorem eqv_rows : ∀ a b : List RB, PyData.eqvAll (a.map rowR) (b.map rowR) = decide (a = b)
  | [], [] => rfl
  | [], _ :: _ => rfl
  | _ :: _, [] => rfl
  | x :: a, y :: b => by
    show (PyData.eqv (rowR x) (rowR y) && PyData.eqvAll (a.map rowR) (b.map rowR)) = _
    rw [eqv_rows a b, eqv_row]
    by_cases h1 : x = y <;> by_cases h2 : a = b <;> simp [h1, h2]
theorem rws_rs : ∀ {p : Int} {ds : List PyData}, (∀ d ∈ ds, Rw p d) → ∃ rs : List RB, ds = rs.map rowR
  | _, [], _ => ⟨[], rfl⟩
  | p, d :: ds, h => by
    obtain ⟨ns, b, rfl, _⟩ := h d (List.mem_cons_self ..)
    obtain ⟨rs, rfl⟩ := rws_rs (p := p) (ds := ds) fun e he => h e (List.mem_cons_of_mem _ he)
    exact ⟨(ns, b) :: rs, rfl⟩
section
variable {P : Program} {w : World} {K : PySem.W.Frag} {mg : Str → Option Value} {base : Heap} {C : Addr} {L : List Addr} {σ : L2.St} {H H' : Hp} {x l : Addr} {p q : Int} {ds es : List PyData} {te ta tb : TE} {d : PyData}
theorem mk_eN {x dx : Addr} (hx : H x = none) (hdx : H dx = none) (ne : dx ≠ x) : Ex H (upd (upd H dx (.own x)) x (.ins C dx [])) := (Ex.new hdx).trans (Ex.new (by rw [upd_ne (Ne.symm ne)]; exact hx))
theorem evd_low (h : EvD K L te σ H d) : EvD K [] te σ H d := fun H1 e Q k => h H1 e _ fun v H2 e2 hv => k v H2 e2 (by rw [w_nil]; exact hv.up w_sub)
theorem q_asgS {D : Ends} {tz : TS} {i : Nat} (h : EvS K L C p ds te σ H) (k : ∀ y H1, Ex H H1 → Smp K L H1 y C p ds → tz D (σ.set i (some (.ref y))) H1) : tSeq (tAsg te (gName i)) tz D σ H := h H (Ex.refl H) _ fun y H1 e s => k y H1 e s
theorem Smp.exB (h : Smp K L H x C p ds) (b : ExB l H H') (ml : l ∈ L) (hne : x ≠ l) : Smp K L H' x C p ds := by
  obtain ⟨dx, v, h1, h2⟩ := h
  exact ⟨dx, v, b _ _ hne h1, h2.up (b.w ml)⟩
theorem Smp.ne {n : Nat} (h : Smp K L H x C p ds) (hd : Dr n H l) : x ≠ l := fun e => by
  obtain ⟨dx, v, h1, _⟩ := h
  obtain ⟨a, b, c, h2, _⟩ := hd
  rw [e, h2] at h1
  cases h1
theorem Dr.lsts {n : Nat} (hd : Dr n H l) : Lsts [l] H := by
  obtain ⟨a, b, c, h2, _⟩ := hd
  exact lsts_cons h2 lsts_nil
/-- sample == a new sample -/
theorem ev_seqS (S : SmpC K C) (I : ClsI K C) {g : Bool → Bool} (h : Evl.Ev ta σ H (.ref x)) (h2 : EvS K L C q es tb σ H) (h3 : Smp K L H x C p ds) (hR : Rws p ds) (hRe : Rws q es) : Evl.Ev (tSeq2 K C g ta tb) σ H (.bl (g (decide (p = q) && PyData.eqvAll ds es))) := fun H1 e Q k => h H1 e _ fun H2 e2 => h2 H2 (e.trans e2) _ fun y H3 e3 hy => by
  have eA := (e.trans e2).trans e3
  obtain ⟨dx, v0, hx, _⟩ := id (h3.up eA)
  obtain ⟨dy, v2, hyx, _⟩ := id hy
  exact ⟨x, dx, _, _, rfl, hx, .base (.ins hyx S.cl S.ha S.hn S.htk S.hm), by unfold PySem.W.notFirst; simp, x, .ref y, p, ds, L, _, rfl, h3.up eA, hR, .inl ⟨y, q, es, rfl, hy, hRe, rfl⟩, fun H4 e4 => ⟨_, rfl, k H4 ((e2.trans e3).trans e4)⟩⟩
/-- any([.. for x in a new tuple of data]), each false -/
theorem ev_anyTup {j : Nat} {src : TE} (hsrc : ∀ H1, Ex H H1 → ∀ Q : VK, (∀ t xs H2, Ex H1 H2 → SqT K H2 t xs → xs.length ≤ 100 → (∀ v ∈ xs, ∃ d, Dq K H2 v d) → Q (.ref t) H2) → src σ H1 Q) (hw : ∀ x, wipe ((wipe σ [j]).set j (some x)) [j] = wipe σ [j])
    (he : ∀ v d H1, Ex H H1 → Dq K H1 v d → Evl.Ev te ((wipe σ [j]).set j (some v)) H1 (.bl false)) : Evl.Ev (tCB (rAny K) (tCons (tLc (iTup K src) (gName j) tYes te [j]) tNil)) σ H (.bl false) := fun H0 e0 Q q => hsrc H0 e0 _ fun t xs H1 e1 ht hz hd => ⟨t, rfl, ⟨xs, ht⟩, fun Dl hD =>
  lc_it (walk_tup (xs := xs)) (Cm H1 (fun _ => V.bl false) Dl) (cm_0 hD) (fun i H2 _ p => Evl.ex_t p.2.1 ht) (fun i x H2 H3 hi p y => by
    obtain ⟨rfl, hx'⟩ := y
    obtain ⟨d, hd⟩ := hd x (List.mem_of_getElem? hx')
    refine ⟨hw x, ?_⟩
    exact yes_lc (A := fun H3 => te ((wipe σ [j]).set j (some x)) H3 fun y H4 => ∃ acc, H4 Dl = some (.lst acc) ∧ acc.length < sizeLine ∧ Cm H1 (fun _ => V.bl false) Dl (i + 1) (upd H4 Dl (.lst (acc ++ [y])))) (B := fun H3 => Cm H1 (fun _ => V.bl false) Dl (i + 1) H3) <| cm_turn p (by omega) _ (Ex.refl _) (he x d _ (e0.trans e1) hd))
    (fun H2 p => by
      have hb : (List.range xs.length).map (fun _ => V.bl false) = (List.replicate xs.length false).map V.bl := by rw [List.map_const', List.length_range, List.map_replicate]
      have p3 := p.2.2
      rw [hb] at p3
      refine ⟨Dl, List.replicate xs.length false, rfl, SqL.of p3, ?_⟩
      have e : (List.replicate xs.length false).any id = false := by simp
      rw [e]
      exact q H2 (e1.trans p.2.1))⟩
end
section
variable {P : Program} {w : World} {K : PySem.W.Frag} {mg : Str → Option Value} {base : Heap} {C T0 : Addr}
structure TxH (mg : Str → Option Value) : Prop extends TxF mg where
  m_any : mg "any" = none
def spEquals (K : PySem.W.Frag) (C : Addr) : Sp := fun vs H Q _ => ∃ (l x t : Addr) (p : Int) (ds : List PyData) (n : Nat), vs = [.ref l, .ref x, .int p, .ref t] ∧ Dr n H l ∧ n < 800000 ∧ (1 ≤ p ∧ p ≤ 3) ∧ Smp K [l] H x C p ds ∧ Rws p ds ∧ ds.length ≤ 100 ∧ Gr K [l] H t ds ∧ ∀ H', Dr (n + 100) H' l → ExB l H H' → Q (.bl true) H'
theorem ok_equals {f fl fi fq : Addr} {fd fdl fdq : FuncData} (F : Fun K "_law_equals" "_law_equals" s_equals f fd) (T : TxH mg) (S : SmpC K C) (I : ClsI K C) (FL : FnOk P w K mg base CX0 1 fl fdl ["self"] (spLen K C)) (eL : SpM K C fl "__len__") (bL : Binds K fdl ["self"] [])
    (FQ : FnOk P w K mg base CX0 1 fq fdq ["self", "other"] (spEqM K C)) (eQ : EqC K C fq) (bQ : Binds K fdq ["self", "other"] []) (hT : ∀ H, Dp K H (.ref T0) (.tuple [])) (N_Sample : Mak P w K mg base 5 "Sample" C (spInitM K C) []) (N_Sample0 : Mak P w K mg base 5 "Sample" C (spInitM K C) [.ref T0])
    (GI : IterG P w K mg base 1 C fi "_pairs") (eI : SpM K C fi "__iter__") (D_mixed : DefAt P w K mg base "_law_mixed" 2 ["_law_draws", "_law_things"] (spMixed K)) : FnOk P w K mg base CX0 8 f fd ["_law_draws", "_law_sample", "_law_places", "_law_rows_here"] (spEquals K C) := by
  refine F.ok sc_equals (fun vs H Q E h => ?_) (fun cdv A outer s H vs Q E hr h => ?_)
  · obtain ⟨_, _, _, _, _, _, rfl, _⟩ := h
    rfl
  · obtain ⟨l, x, t, p, ds, n, rfl, hdr, hn, P1, hS, hR, hz, hg, k⟩ := h
    refine ⟨_, (pss_cons (ps_set (i := 4) sc_equals.nd rfl (by first | exact Or.inl rfl | exact Or.inr rfl) (pe_mk N_Sample hr (by decide) (by rfl) (pa_cons (pv 2) (pa_cons (pe_callD D_mixed (by first | exact hr | exact hr.mono (by decide) | exact hr.mono (by omega)) (by rfl) (pa_cons (pv 0) (pa_cons (pv 3) pa_nil))) pa_nil))))
    (pss_cons (ps_if (PW.pt (pw_or (pt_cmpR op_ne (pe_cmpR (op_eqOwn FQ (hr.mono (by omega)) eQ bQ) (pv 1) (pv 4) (nomark _)) (pe_cmpR (op_eqD hr.units) (pe_callTy (call_listO GI eI FL bL eL (Nat.le_refl 1) (hr.mono (by omega)) rfl) (by rfl) T.m_list (by decide +kernel) (pa_cons (pv 4) pa_nil)) (pv 3) (nomark _)) (nomark _)) (pw_or1 (pt_not (pt_cmpR (op_eqOwn FQ (hr.mono (by omega)) eQ bQ) (pv 1) (pe_mk N_Sample hr (by decide) (by rfl) (pa_cons (pv 2) (pa_cons (pv 3) pa_nil))) (nomark _)))))) (pss_one (ps_ret pe_bl)) pss_nil)
    (pss_cons (ps_if (pt_val (pe_callB (cr_any rfl) (by rfl) T.m_any (by decide +kernel) (pa_cons (pe_lc (own := [("_law_thing", 6)]) (g := gName 6) (tt := tYes) (te := tOp (rOwnQ K C (spEqM K C) id) (tVar 1) (tVar 6)) (by rfl) sc_equals.nd (pi_tup (pe_tup (pa_cons pe_non (pa_cons pe_int (pa_cons (pv 3) (pa_cons (pe_callTy call_tuple_of (by rfl) T.m_tuple (by decide +kernel) (pa_cons (pv 3) pa_nil)) (pa_cons pe_str pa_nil))))))) (blkOk_by (N := sc_equals_N) (sc := defScope s_equals) (by decide +kernel)) (fun _ _ _ _ _ => (pg_name (i := 6) sc_equals.nd rfl (by first | exact Or.inl rfl | exact Or.inr rfl))) (fun _ _ _ _ _ => pts_nil) (fun _ _ _ _ _ => (pe_cmpR (op_eqOwn FQ (hr.mono (by omega)) eQ bQ) (pv 1) (pv 6) (nomark _)))) pa_nil))) (pss_one (ps_ret pe_bl)) pss_nil)
    (pss_cons (ps_set (i := 5) sc_equals.nd rfl (by first | exact Or.inl rfl | exact Or.inr rfl) (pe_mk N_Sample hr (by decide) (by rfl) (pa_cons (pv 2) (pa_cons (pe_op op_cat (pv 3) (pe_lst (pa_cons (pe_tup (pa_cons (pe_op op_repA (pe_tup (pa_cons pe_int pa_nil)) (pv 2)) (pa_cons pe_bl pa_nil))) pa_nil))) pa_nil))))
    (pss_cons (ps_if (PW.pt (pw_or (pt_cmpR (op_eqOwn FQ (hr.mono (by omega)) eQ bQ) (pv 1) (pv 5) (nomark _)) (pw_or1 (pt_not (pt_cmpR (op_neOwn FQ (hr.mono (by omega)) eQ bQ) (pv 1) (pv 5) (nomark _)))))) (pss_one (ps_ret pe_bl)) pss_nil)
    (pss_one (ps_ret (pe_or (pe_cmpR (op_neD hr.units) (pv 3) (pe_lst pa_nil) (nomark _)) (pe_one (pe_not (pe_cmpR (op_eqOwn FQ (hr.mono (by omega)) eQ bQ) (pv 1) (pe_mk N_Sample0 hr (by decide) (by rfl) (pa_cons (pe_op op_add (pe_op op_mod (pv 2) pe_int) pe_int) pa_nil)) (nomark _)))))))))))), ?_⟩
    have htl : t ≠ l := fun e => hg.1 (by rw [e]; exact List.mem_singleton.mpr rfl)
    obtain ⟨_, xs, hts, hxs0⟩ := id hg
    have hxs : DpAll K (W [l] H) xs ds := hxs0.up w_cons
    have lxs := dpa_len hxs
    have ml : l ∈ [l] := List.mem_singleton.mpr rfl
    refine ⟨.int p, rfl, .ref l, rfl, .ref t, rfl, l, t, xs, n, rfl, hdr, by omega, htl, SqL.of hts, by omega, fun m ms H1 b1 d1 mlne hperm hm hmx => ?_⟩
    obtain ⟨es, hes, hpe⟩ := dpa_perm hperm.symm (hxs.up (b1.w ml))
    have hRe : Rws p es := ⟨by rw [← hpe.length_eq]; exact hR.1, fun d hd => hR.2 d (hpe.mem_iff.mpr hd)⟩
    obtain ⟨toM, nrm⟩ := hRe.toM
    refine fun y dy hy0 hdy ney => ⟨y, dy, .ref m, p, es, [l], rfl, upd_same, P1.1, P1.2, d1.lsts.ex (mk_eN hy0 hdy ney), .inl (Dp.up (.lst (SqL.of hmx) (hes.up w_sub)) (mk_eN hy0 hdy ney)), toM, fun H2 hk2 hy => ⟨rfl, ?_⟩⟩
    have e2 : Ex H1 H2 := fun b o hb => hk2 b o (ne_of_none hb hy0) (mk_eN (C := C) hy0 hdy ney b o hb)
    rw [nrm] at hy
    have b2 : ExB l H H2 := b1.trans (ExB.of e2)
    have d2 := d1.ex e2
    have hS2 := hS.exB b2 ml (hS.ne hdr)
    have hg2 : Gr K [l] H2 t ds := hg.exB b2 ml
    have hid2 : Hid [l] H2 := d2.lsts.hid
    obtain ⟨rs, rfl⟩ := rws_rs hR.2
    obtain ⟨ss, rfl⟩ := rws_rs hRe.2
    obtain ⟨dy, ty, ys, hyx, hyT, hyA, hyD⟩ := hy.inv
    have lys := dpa_len hyA
    have hRes := hRe.1
    dsimp only [gName, List.set]
    have A1 : ∀ H3, Ex H2 H3 → Evl.Ev (tOp (rOwnQ K C (spEqM K C) id) (tVar 1) (tVar 4)) [some (.ref l), some (.ref x), some (.int p), some (.ref t), some (.ref y), none, none] H3 (.bl (decide (rs = ss))) := fun H3 e3 => Evl.ev_is (ev_seqV S I (g := id) (Evl.ev_var (v := .ref x) rfl) (Evl.ev_var (v := .ref y) rfl) (hS2.up e3) hR (.inl ⟨y, p, ss.map rowR, rfl, hy.up e3, hRe, rfl⟩)) (congrArg V.bl (by show (decide (p = p) && _) = _; rw [eqv_rows, decide_eq_true rfl, Bool.true_and]))
    have B1 : ∀ H3, Ex H2 H3 → Evl.Ev (tOp (rEqD K) (tCB (rListO K C "_pairs" (spLen K C)) (tCons (tVar 4) tNil)) (tVar 3)) [some (.ref l), some (.ref x), some (.int p), some (.ref t), some (.ref y), none, none] H3 (.bl (decide (rs = ss))) := fun H3 e3 H4 e4 Q q => by
      have e34 := e3.trans e4
      refine ⟨.ref y, rfl, y, dy, _, ty, ys, rfl, e34 _ _ hyx, rfl, Evl.ex_t e34 hyT, by omega, fun H5 e5 => ⟨y, p, ss.map rowR, [l], rfl, hy.up (e34.trans e5), fun H6 e6 => ⟨by rw [lys], e6⟩⟩, fun S' H5 hS' e5 hSx => ⟨.ref t, rfl, .list (ss.map rowR), .list (rs.map rowR), .lst (SqL.of hSx) ((hyA.up w_sub).up (e34.trans e5)), ((hg2.up (e34.trans e5)).dp).up w_sub, hRe.shaped.2, hR.shaped.2, ?_⟩⟩
      show Q (.bl (PyData.eqvAll (ss.map rowR) (rs.map rowR))) H5
      rw [eqv_rows, show decide (ss = rs) = decide (rs = ss) from decide_eq_decide.mpr ⟨Eq.symm, Eq.symm⟩]
      exact q H5 e5
    have hRx := hR.toM
    have C1 : ∀ H3, Ex H2 H3 → EvS K [l] C p (rs.map rowR) (tMake C (spInitM K C) [] E0 (tCons (tVar 2) (tCons (tVar 3) tNil))) [some (.ref l), some (.ref x), some (.int p), some (.ref t), some (.ref y), none, none] H3 := fun H3 e3 => by
      have := mk_runM (K := K) (C := C) (L := [l]) (tp := tVar 2) (tl := tVar 3) (σ := [some (.ref l), some (.ref x), some (.int p), some (.ref t), some (.ref y), none, none]) (Evl.ev_var rfl) (.inl (evd_low (L := [l]) (evd_of (Evl.ev_var rfl) (hg2.up e3).dp))) ((d2.lsts).ex e3) P1.1 P1.2 hRx.1
      rw [hRx.2] at this
      exact this
    refine Evl.q_when (b := false) (Evl.et_is (Evl.et_or (a := false) (b := false) (Evl.et_is (Evl.et_test (ev_neB (A1 H2 (Ex.refl _)) (B1 H2 (Ex.refl _)))) (by simp)) fun _ => Evl.et_is (Evl.et_not (a := true) (Evl.et_test (Evl.ev_is (ev_seqS S I (g := id) (Evl.ev_var (v := .ref x) rfl) (C1 H2 (Ex.refl _)) hS2 hR hR) (congrArg V.bl (by show (decide (p = p) && _) = _; rw [eqv_rows]; simp))))) rfl) rfl) (fun z => nomatch z) (fun _ H3 e3 => ?_)
    have e23 := e3
    have hS3 := hS2.up e23
    have hg3 := hg2.up e23
    obtain ⟨_, xs3, hts3, hxs3⟩ := id hg3
    refine Evl.q_when (b := false) (Evl.et_B (ev_anyTup (K := K) (j := 6) (fun H4 e4 Q q => ⟨.ref t, rfl, .ref t, rfl, t, xs3, rfl, .inl ⟨SqL.of (e4 _ _ hts3), fun u hu => ⟨by show 5 ≤ sizeLine; decide, fun Tt hTt => q Tt _ _ ((Ex.new hu).trans (Ex.new hTt)) (SqT.of upd_same) (by show 5 ≤ 100; omega) fun v hv => ?_⟩⟩⟩) (fun _ => rfl) (fun v d H4 e4 hd4 => ev_seqV S I (g := id) (Evl.ev_var (v := .ref x) rfl) (Evl.ev_var rfl) (hS3.up e4) hR (.inr ⟨d, hd4, rfl⟩)))) (fun z => nomatch z) (fun _ H4 e4 => ?_)
    · have e5 := (Ex.new (o := .tup xs3) hu).trans (Ex.new (o := .tup [.non, .int 5, .ref t, .ref u, .str "ab"]) hTt)
      have dx := (((hxs3.up w_cons).up (w_ex (e4.trans e5))).up w_sub)
      simp only [List.mem_cons, List.not_mem_nil, or_false] at hv
      rcases hv with rfl | rfl | rfl | rfl | rfl
      · exact ⟨_, .non⟩
      · exact ⟨_, .int 5⟩
      · exact ⟨_, Dp.q (.lst (SqL.of ((e4.trans e5) _ _ hts3)) dx)⟩
      · exact ⟨_, Dp.q (.tup (SqT.of ((Ex.new hTt) _ _ upd_same)) dx)⟩
      · exact ⟨_, .str _⟩
    have e24 := e23.trans e4
    have hS4 := hS2.up e24
    have hg4 := hg2.up e24
    have d4 := d2.ex e24
    let zr : RB := (List.replicate p.toNat 0, true)
    have hRz : Rws p ((rs ++ [zr]).map rowR) := ⟨by have := hR.1; rw [List.length_map] at this hz; rw [List.length_map, List.length_append, List.length_singleton]; omega, fun d hd => by
      rw [List.map_append] at hd
      rcases List.mem_append.mp hd with hd | hd
      · exact hR.2 d hd
      · rw [List.mem_singleton.mp hd]
        exact ⟨_, _, rfl, by show ((List.replicate p.toNat (0 : Int)).length : Int) = p; rw [List.length_replicate]; omega, by show (List.replicate p.toNat (0 : Int)).length ≤ 3; rw [List.length_replicate]; omega, fun e he => by
          have he : e ∈ List.replicate p.toNat (0 : Int) := he
          rw [List.eq_of_mem_replicate he]; omega⟩⟩
    have hRzM := hRz.toM
    have mkz := mk_runM (K := K) (C := C) (L := [l]) (tp := tVar 2) (tl := tOp rCat (tVar 3) (tLst (tCons (tTup (tCons (tOp (rRepA K) (tTup (tCons (tC (.int 0)) tNil)) (tVar 2)) (tCons (tC (.bl true)) tNil))) tNil))) (σ := [some (.ref l), some (.ref x), some (.int p), some (.ref t), some (.ref y), none, none]) (H := H4) (ds := (rs ++ [zr]).map rowR) (Evl.ev_var rfl) (.inl (by
      rw [List.map_append]
      exact evd_low (L := [l]) (evd_cat d4.lsts.hid hg4 (Evl.ev_var rfl) (evds_cons (evd_tup d4.lsts.hid (evds_cons (evd_zeros d4.lsts.hid (Evl.ev_var rfl) P1.1 (by omega)) (evds_cons evd_bl evds_nil)) (by show 2 ≤ 100000; omega)) evds_nil) (by rw [List.length_map] at hz ⊢; show rs.length + 1 ≤ 100000; omega)))) d4.lsts P1.1 P1.2 hRzM.1
    rw [hRzM.2] at mkz
    refine q_asgS mkz fun mo H5 e5 hmo => ?_
    have hS5 := hS4.up e5
    have hg5 := hg4.up e5
    have hneq : decide (rs = rs ++ [zr]) = false := decide_eq_false fun h => by
      have := congrArg List.length h
      rw [List.length_append, List.length_singleton] at this
      omega
    have hr1 : (decide (p = p) && PyData.eqvAll (rs.map rowR) ((rs ++ [zr]).map rowR)) = false := by rw [eqv_rows, hneq, Bool.and_false]
    have cm : ∀ H6, Ex H5 H6 → Cmpd K C [l] H6 p (rs.map rowR) (.ref mo) false := fun H6 e6 => .inl ⟨mo, p, _, rfl, hmo.up e6, hRz, hr1.symm⟩
    refine Evl.q_when (b := false) (Evl.et_is (Evl.et_or (a := false) (b := false) (Evl.et_test (ev_seqV S I (g := id) (Evl.ev_var (v := .ref x) rfl) (Evl.ev_var (v := .ref mo) rfl) hS5 hR (cm _ (Ex.refl _)))) fun _ => Evl.et_is (Evl.et_not (a := true) (Evl.et_test (ev_seqV S I (g := not) (Evl.ev_var (v := .ref x) rfl) (Evl.ev_var (v := .ref mo) rfl) hS5 hR (cm _ (Ex.refl _))))) rfl) rfl) (fun z => nomatch z) (fun _ H6 e6 => ?_)
    have hS6 := hS5.up e6
    have hg6 := hg5.up e6
    have e26 := (e24.trans e5).trans e6
    have d6 := d2.ex e26
    have hq : 1 ≤ p % 3 + 1 ∧ p % 3 + 1 ≤ 3 ∧ p ≠ p % 3 + 1 := by
      have cp : p = 1 ∨ p = 2 ∨ p = 3 := by omega
      rcases cp with rfl | rfl | rfl <;> decide
    refine Evl.s_ret (v := .bl true) (Evl.ev_is (Evl.ev_orV (a := !decide (rs = [])) (b := true) (fun H7 e7 Q q => ⟨.ref t, rfl, by show 0 ≤ sizeLine; decide, fun r hr => ⟨.list (rs.map rowR), .list [], ((hg6.up e7).dp.up w_sub).up (Ex.new hr), .lst (SqL.of upd_same) .nil, hR.shaped.2, rfl, ?_⟩⟩) fun hb => ?_) (congrArg V.bl (by simp))) fun H7 e7 => k H7 ((d6.ex e7).up (by omega)) (b2.trans (ExB.of (e26.trans e7)))
    · show Q (.bl (!PyData.eqvAll (rs.map rowR) (([] : List RB).map rowR))) _
      rw [eqv_rows]
      exact q _ (Ex.new hr)
    · refine Evl.ev_is (Evl.ev_notV (a := false) (Evl.ev_is (ev_seqS S I (g := id) (q := p % 3 + 1) (es := []) (Evl.ev_var (v := .ref x) rfl) (mk_run0 hT (Evl.ev_is (Evl.ev_op (Evl.ev_op (Evl.ev_var (v := .int p) rfl) Evl.ev_c (Evl.rv_I (g := fun i j => .int (i % j)) (by decide))) Evl.ev_c (Evl.rv_I0 (g := fun i j => .int (i + j)))) rfl) d6.lsts hq.1 hq.2.1) hS6 hR ⟨Nat.zero_le _, fun _ h => nomatch h⟩) (congrArg V.bl ?_))) rfl
      · show (decide (p = p % 3 + 1) && _) = false
        rw [decide_eq_false hq.2.2]
        rfl
end
end U

set_option Elab.async false
set_option linter.all false
set_option maxRecDepth 100000
set_option maxHeartbeats 4000000
/-! rows handed over as lists or tuples -/
namespace U
open PySem PySem.Spec PyProof.Rows L2
open Evl (Ex)
open C8 (Met Mak pe_mt pe_mt0 pe_mk)
abbrev s_handed : Stmt := top 27
abbrev sc_handed_N : List Str := ["_law_draws", "_law_rows_here", "_law_found", "_law_point_here", "_law_label", "_law_inner"]
theorem sc_handed : FnScope sc_handed_N ["_law_draws", "_law_rows_here"] (defScope s_handed) := ⟨rfl, rfl, rfl, by decide +kernel, rfl, by decide +kernel, by decide +kernel⟩
theorem paired_imp {α β : Type} {F G : α → β → Prop} : ∀ {xs : List α} {ys : List β}, Paired F xs ys → (∀ x y, F x y → G x y) → Paired G xs ys
  | _, _, .nil, _ => .nil
  | _, _, .cons h t, q => .cons (q _ _ h) (paired_imp t q)
theorem paired_snoc {α β : Type} {F : α → β → Prop} : ∀ {xs : List α} {ys : List β} {x : α} {y : β}, Paired F xs ys → F x y → Paired F (xs ++ [x]) (ys ++ [y])
  | _, _, _, _, .nil, h => .cons h .nil
  | _, _, _, _, .cons r t, h => .cons r (paired_snoc t h)
/-- all but the cells of L stay -/
def ChL (L : List Addr) (H H' : Hp) : Prop := ∀ a o, a ∉ L → H a = some o → H' a = some o
section
variable {K : PySem.W.Frag} {L : List Addr} {H H' H2 : Hp} {C x l : Addr} {p : Int} {ds : List PyData}
theorem ChL.refl : ChL L H H := fun _ _ _ h => h
theorem ChL.of (e : Ex H H') : ChL L H H' := fun a o _ h => e a o h
theorem ChL.trans (a : ChL L H H') (b : ChL L H' H2) : ChL L H H2 := fun c o n h => b c o n (a c o n h)
theorem ChL.w (e : ChL L H H') : Ex (W L H) (W L H') := fun a o h => by
  obtain ⟨h1, n⟩ := w_in h
  exact w_of n (e a o n h1)
theorem ChL.upd {o : HO} (m : x ∈ L) : ChL L H (upd H x o) := fun a u n h => by
  rw [upd_ne (fun z => n (by rw [z]; exact m))]
  exact h
theorem ChL.ofB (e : ExB l H H') (m : l ∈ L) : ChL L H H' := fun a o n h => e a o (fun z => n (by rw [z]; exact m)) h
theorem ChL.more {L2 : List Addr} (e : ChL L H H') (s : ∀ a ∈ L, a ∈ L2) : ChL L2 H H' := fun a o n h => e a o (fun m => n (s a m)) h
theorem Smp.ch (h : Smp K L H x C p ds) (e : ChL L H H') (n : x ∉ L) : Smp K L H' x C p ds := by
  obtain ⟨dx, v, h1, h2⟩ := h
  exact ⟨dx, v, e _ _ n h1, h2.up e.w⟩
end
/-- a row as it was handed over, told without the cells of L; a list's address is among M -/
def ItH (K : PySem.W.Frag) (H : Hp) (L M : List Addr) (u : V) (d : PyData) : Prop := ∃ (a : Addr) (i : V) (b k : Bool) (ns : List Int), u = .ref a ∧ Dp K (W L H) i (if k then .tuple (ns.map .int) else .list (ns.map .int)) ∧
  ((H a = some (.lst [i, .bl b]) ∧ a ∈ M ∧ d = rowM false k ns b) ∨ (H a = some (.tup [i, .bl b]) ∧ a ∉ L ∧ d = rowM true k ns b))
/-- the rows as they were handed over -/
structure HdOk (K : PySem.W.Frag) (H : Hp) (l G : Addr) (M : List Addr) (v : V) (ds : List PyData) : Prop where
  ls : Lsts (l :: G :: M) H
  gm : G ∉ M
  lg : l ≠ G
  lm : l ∉ M
  ex : ∃ o its, v = .ref o ∧ ((o = G ∧ H G = some (.lst its)) ∨ (o ∉ l :: G :: M ∧ H o = some (.tup its))) ∧ Paired (ItH K H (l :: G :: M) M) its ds
section
variable {P : Program} {w : World} {K : PySem.W.Frag} {mg : Str → Option Value} {base : Heap} {C : Addr}
def spHanded (K : PySem.W.Frag) : Sp := fun vs H Q _ => ∃ (l t : Addr) (p : Int) (rs : List RB) (n : Nat), vs = [.ref l, .ref t] ∧ Dr n H l ∧ n < 800000 ∧ Gr K [l] H t (rs.map rowR) ∧ Rws p (rs.map rowR) ∧ rs.length ≤ 100 ∧
  ∀ v H' G M ds, ExB l H H' → Dr (n + 300) H' l → HdOk K H' l G M v ds → (∀ a ∈ G :: M, H a = none) → ds.map cpy = rs.map rowR → RwsM p ds → Q v H'
theorem ok_handed {f : Addr} {fd : FuncData} (F : Fun K "_law_handed" "_law_handed" s_handed f fd) (T : TxF mg) (D_pick : DefAt P w K mg base "_law_pick" 2 ["_law_draws", "_law_things"] (spPickV K)) : FnOk P w K mg base CX0 3 f fd ["_law_draws", "_law_rows_here"] (spHanded K) := by
  refine F.ok sc_handed (fun vs H Q E h => ?_) (fun cdv A outer s H vs Q E hr h => ?_)
  · obtain ⟨_, _, _, _, _, rfl, _⟩ := h
    rfl
  · obtain ⟨l, t, p, rs, n, rfl, hdr, hn, hg, hR, hz, k⟩ := h
    refine ⟨_, (pss_cons (ps_set (i := 2) sc_handed.nd rfl (by first | exact Or.inl rfl | exact Or.inr rfl) (pe_lst pa_nil))
    (pss_cons (ps_for PassesOwn.never rfl (pi_list (pv 1)) (pg_tup (by rfl) (pgs_cons (pg_name (i := 3) sc_handed.nd rfl (by first | exact Or.inl rfl | exact Or.inr rfl)) (pgs_cons (pg_name (i := 4) sc_handed.nd rfl (by first | exact Or.inl rfl | exact Or.inr rfl)) pgs_nil)))
      (pss_cons (ps_set (i := 5) sc_handed.nd rfl (by first | exact Or.inl rfl | exact Or.inr rfl) (pe_callD D_pick (by first | exact hr | exact hr.mono (by decide) | exact hr.mono (by omega)) (by rfl) (pa_cons (pv 0) (pa_cons (pe_lst (pa_cons (pe_callTy call_list_of (by rfl) T.m_list (by decide +kernel) (pa_cons (pv 3) pa_nil)) (pa_cons (pv 3) pa_nil))) pa_nil))))
      (pss_one (ps_expr (pe_bm PySem.F.plainAttrs_list PySem.F.slot_list_append PySem.F.type_list_append mt_append (pv 2) (pa_cons (pe_callD D_pick (by first | exact hr | exact hr.mono (by decide) | exact hr.mono (by omega)) (by rfl) (pa_cons (pv 0) (pa_cons (pe_lst (pa_cons (pe_lst (pa_cons (pv 5) (pa_cons (pv 4) pa_nil))) (pa_cons (pe_tup (pa_cons (pv 5) (pa_cons (pv 4) pa_nil))) pa_nil))) pa_nil))) pa_nil))))))
    (pss_one (ps_ret (pe_callD D_pick (by first | exact hr | exact hr.mono (by decide) | exact hr.mono (by omega)) (by rfl) (pa_cons (pv 0) (pa_cons (pe_lst (pa_cons (pv 2) (pa_cons (pe_callTy call_tuple_of (by rfl) T.m_tuple (by decide +kernel) (pa_cons (pv 2) pa_nil)) pa_nil))) pa_nil))))))), ?_⟩
    have ml : l ∈ [l] := List.mem_singleton.mpr rfl
    have htl : t ≠ l := fun e => hg.1 (by rw [e]; exact ml)
    obtain ⟨_, xs, hts, hxs0⟩ := id hg
    have hxs : DpAll K (W [l] H) xs (rs.map rowR) := hxs0.up w_cons
    have lxs := dpa_len hxs
    rw [List.length_map] at lxs
    refine Evl.q_asgL (xs := []) (Evl.el_lst Evl.ea_nil (by show 0 ≤ 100000; omega)) fun G H1 hG e1 hGx => ?_
    have hGl : l ≠ G := fun e => hdr.ne (by rw [e]; exact hG)
    have htG : t ≠ G := fun e => by rw [e, hG] at hts; cases hts
    have toH : ∀ {H2}, ChL [l, G] H1 H2 → ExB l H H2 := fun c a o na h => c a o (fun m => by
      rcases List.mem_cons.mp m with z | m
      · exact na z
      · rw [List.mem_singleton.mp m, hG] at h
        cases h) (e1 _ _ h)
    refine Evl.q_forL (xs := xs) (Evl.ev_var (v := .ref t) rfl) (SqL.of (e1 _ _ hts)) (fun i σ' H' => ChL [l, G] H1 H' ∧ Dr (n + 2 * i) H' l ∧ (∃ its ds M, its.length = i ∧ H' G = some (.lst its) ∧ Paired (ItH K H' (l :: G :: M) M) its ds ∧ ds.map cpy = (rs.take i).map rowR ∧ (∀ d ∈ ds, RlM p d) ∧ (∀ a ∈ M, H a = none ∧ a ≠ G ∧ ∃ ys, H' a = some (.lst ys))) ∧ ∃ o3 o4 o5, σ' = [some (.ref l), some (.ref t), some (.ref G), o3, o4, o5]) (fun H2 e2 => ⟨ChL.of e2, (hdr.ex e1).ex e2, ⟨[], [], [], rfl, e2 _ _ hGx, .nil, rfl, (fun d h => nomatch h), (fun a h => nomatch h)⟩, _, _, _, rfl⟩) (fun i σ' H' _ pv => SqL.of ((toH pv.1) _ _ htl hts)) ?_ ?_
    · rintro i u σ' H2 hu ⟨c2, d2, ⟨its, ds, M, hi, hG2, hP, hcp, hRl, hM⟩, o3, o4, o5, rfl⟩
      have il : i < xs.length := (List.getElem?_eq_some_iff.mp hu).1
      obtain ⟨d, hd1, hd2⟩ := dpa_get hxs hu
      rw [List.getElem?_map] at hd1
      obtain ⟨r, hr, rfl⟩ := Option.map_eq_some_iff.mp hd1
      have hrw := hR.2 (rowR r) (List.mem_map.mpr ⟨r, List.mem_of_getElem? hr, rfl⟩)
      have bH2 := toH c2
      have hd3 : Dp K H2 u (rowR r) := (hd2.up (bH2.w ml)).up w_sub
      obtain ⟨a2, v1, v2, rfl, hs2, q1, q2⟩ : ∃ a2 v1 v2, u = .ref a2 ∧ SqT K H2 a2 [v1, v2] ∧ Dp K H2 v1 (.tuple (r.1.map .int)) ∧ v2 = .bl r.2 := by
        cases hd3 with
        | @tup a zs _ hs ha =>
          cases ha with
          | @cons z1 _ _ _ w1 rr =>
            cases rr with
            | @cons z2 _ _ _ w2 rr2 =>
              cases rr2
              cases w2
              exact ⟨a, z1, _, rfl, hs, w1, rfl⟩
      subst q2
      obtain ⟨pt, ps, rfl, hpt, hpd⟩ : ∃ pt ps, v1 = .ref pt ∧ SqT K H2 pt ps ∧ DpAll K H2 ps (r.1.map .int) := by
        cases q1 with
        | @tup a zs _ hs ha => exact ⟨a, zs, rfl, hs, ha⟩
      refine ⟨a2, [.ref pt, .bl r.2], rfl, hs2, rfl, .ref pt, [.bl r.2], rfl, .bl r.2, [], rfl, rfl, ?_⟩
      -- the inner one
      have hl2 := d2.ne
      refine ⟨.ref l, rfl, .ref pt, rfl, pt, ps, rfl, .inr hpt, fun c hc => ⟨.ref pt, rfl, by show 2 ≤ sizeLine; decide, fun tm htm => ?_⟩⟩
      have ec : Ex H2 (upd (upd H2 c (.lst ps)) tm (.lst [.ref c, .ref pt])) := (Ex.new hc).trans (Ex.new htm)
      have hcx : (upd (upd H2 c (.lst ps)) tm (.lst [.ref c, .ref pt])) c = some (.lst ps) := Ex.new htm _ _ upd_same
      have html : tm ≠ l := fun e => by rw [e] at htm; rw [upd_ne (fun z => hl2 (by rw [z]; exact hc))] at htm; exact hl2 htm
      have htmx : (upd (upd H2 c (.lst ps)) tm (.lst [.ref c, .ref pt])) tm = some (.lst [.ref c, .ref pt]) := upd_same
      generalize upd (upd H2 c (.lst ps)) tm (.lst [.ref c, .ref pt]) = H3 at ec hcx htmx ⊢
      have hcl : c ≠ l := fun e => hl2 (by rw [← e]; exact hc)
      have hcG : c ≠ G := fun e => by rw [e, hG2] at hc; cases hc
      have hcM : c ∉ M := fun m => by
        obtain ⟨_, _, ys, q⟩ := hM c m
        rw [q] at hc
        cases hc
      refine ⟨l, tm, [.ref c, .ref pt], n + 2 * i, [l], rfl, d2.ex ec, by omega, ml, SqL.of (w_of (by simp [html]) htmx), by show 0 < 2; decide, by show 2 < 1073741824; decide, fun v o hv d4 => ?_⟩
      have b4 : ExB l H3 (upd H3 l o) := ExB.upd
      generalize upd H3 l o = H4 at d4 b4 ⊢
      have hc4 := b4 c _ hcl hcx
      have c24 : ChL [l] H2 H4 := (ChL.of ec).trans (ChL.ofB b4 ml)
      have hpt4 : SqT K H4 pt ps ∧ ∀ {L : List Addr}, Lsts L H2 → Lsts L H4 → SqT K (W L H4) pt ps := by
        have h1 : SqT K (W [l] H2) pt ps := d2.lsts.tup hpt
        have h2 := Evl.ex_t c24.w h1
        exact ⟨Evl.ex_t w_sub h2, fun _ h4 => h4.tup (Evl.ex_t w_sub h2)⟩
      have hM4 : ∀ a ∈ M, ∃ ys, H4 a = some (.lst ys) := fun a m => by
        obtain ⟨q0, _, ys, q⟩ := hM a m
        exact ⟨ys, c24 a _ (by simp only [List.mem_singleton]; intro z; rw [z] at q0; exact hdr.ne q0) q⟩
      have hG4 : H4 G = some (.lst its) := c24 G _ (by simp only [List.mem_singleton]; exact fun z => hGl z.symm) hG2
      have hl4 : ∃ ys, H4 l = some (.lst ys) := by
        obtain ⟨a, b, c, h, _⟩ := d4
        exact ⟨_, h⟩
      have L4 : Lsts (l :: G :: M) H4 := fun a m => by
        rcases List.mem_cons.mp m with z | m
        · rw [z]; exact hl4
        · rcases List.mem_cons.mp m with z | m
          · rw [z]; exact ⟨_, hG4⟩
          · exact hM4 a m
      have c24L : ChL (l :: G :: M) H2 H4 := c24.more fun a m => by rw [List.mem_singleton.mp m]; exact List.mem_cons_self ..
      obtain ⟨kk, hin⟩ : ∃ kk : Bool, Dp K (W (l :: G :: M) H4) v (if kk then .tuple (r.1.map .int) else .list (r.1.map .int)) := by
        simp only [List.mem_cons, List.not_mem_nil, or_false] at hv
        rcases hv with rfl | rfl
        · exact ⟨false, .lst (SqL.of (w_of (by simp [hcl, hcG, hcM]) hc4)) (dpa_intsM hpd _)⟩
        · exact ⟨true, .tup (L4.tup hpt4.1) (dpa_intsM hpd _)⟩
      have hP4 : Paired (ItH K H4 (l :: G :: M) M) its ds := paired_imp hP fun u d ⟨a, i, b, k, ns, h1, h2, h3⟩ => ⟨a, i, b, k, ns, h1, h2.up c24L.w, h3.imp (fun z => ⟨c24 a _ (by simp only [List.mem_singleton]; intro q; rw [q] at z; exact hdr.ne (hM l z.2.1).1) z.1, z.2⟩) (fun z => ⟨c24L a _ z.2.1 z.1, z.2⟩)⟩
      -- the row, appended
      refine ⟨_, rfl, Or.inl ⟨rfl, its, SqL.of hG4⟩, .ref l, rfl, v, rfl, .bl r.2, rfl, by show 2 ≤ sizeLine; decide, fun a ha => ⟨v, rfl, .bl r.2, rfl, by show 2 ≤ sizeLine; decide, fun bt hbt => ⟨by show 2 ≤ sizeLine; decide, fun t2 ht2 => ?_⟩⟩⟩
      have ea : Ex H4 (upd H4 a (.lst [v, .bl r.2])) := Ex.new ha
      have eb := Ex.new (o := .tup [v, .bl r.2]) hbt
      have et := Ex.new (o := .lst [.ref a, .ref bt]) ht2
      have e45 := (ea.trans eb).trans et
      have hax := et _ _ (eb _ _ (upd_same (H := H4) (a := a) (o := .lst [v, .bl r.2])))
      have hbx := et _ _ (upd_same (H := upd H4 a (.lst [v, .bl r.2])) (a := bt) (o := .tup [v, .bl r.2]))
      have htx := upd_same (H := upd (upd H4 a (.lst [v, .bl r.2])) bt (.tup [v, .bl r.2])) (a := t2) (o := .lst [.ref a, .ref bt])
      have hb4 : H4 bt = none := by
        cases q : H4 bt with
        | none => rfl
        | some o => rw [ea _ _ q] at hbt; cases hbt
      have ht4 : H4 t2 = none := by
        cases q : H4 t2 with
        | none => rfl
        | some o => rw [eb _ _ (ea _ _ q)] at ht2; cases ht2
      generalize upd (upd (upd H4 a (.lst [v, .bl r.2])) bt (.tup [v, .bl r.2])) t2 (.lst [.ref a, .ref bt]) = H5 at e45 hax hbx htx ⊢
      have nl : ∀ b, H4 b = none → b ≠ l := fun b q z => by rw [z] at q; exact d4.ne q
      have nG : ∀ b, H4 b = none → b ≠ G := fun b q z => by rw [z, hG4] at q; cases q
      refine ⟨l, t2, [.ref a, .ref bt], n + 2 * i + 1, [l], rfl, d4.ex e45, by omega, ml, SqL.of (w_of (by simp [nl t2 ht4]) htx), by show 0 < 2; decide, by show 2 < 1073741824; decide, fun v2 o2 hv2 d6 => ?_⟩
      have b6 : ExB l H5 (upd H5 l o2) := ExB.upd
      generalize upd H5 l o2 = H6 at d6 b6 ⊢
      have hG6 : H6 G = some (.lst its) := b6 G _ (Ne.symm hGl) (e45 _ _ hG4)
      refine ⟨G, its, v2, rfl, rfl, hG6, by rw [hi, sizeLine_eq]; omega, ?_⟩
      have c47 : ChL [l, G] H4 (upd H6 G (.lst (its ++ [v2]))) := ((ChL.of e45).trans (ChL.ofB b6 (List.mem_cons_self ..))).trans (ChL.upd (by simp))
      have d7 : Dr (n + 2 * (i + 1)) (upd H6 G (.lst (its ++ [v2]))) l := (d6.upd_ne (Ne.symm hGl)).up (by omega)
      have h7a : (upd H6 G (.lst (its ++ [v2]))) a = some (.lst [v, .bl r.2]) := by rw [upd_ne (nG a ha)]; exact b6 _ _ (nl a ha) hax
      have h7b : (upd H6 G (.lst (its ++ [v2]))) bt = some (.tup [v, .bl r.2]) := by rw [upd_ne (nG bt hb4)]; exact b6 _ _ (nl bt hb4) hbx
      have h7G : (upd H6 G (.lst (its ++ [v2]))) G = some (.lst (its ++ [v2])) := upd_same
      generalize upd H6 G (.lst (its ++ [v2])) = H7 at c47 d7 h7a h7b h7G ⊢
      have sub2 : ∀ {M : List Addr}, ∀ a ∈ [l, G], a ∈ l :: G :: M := fun {M} a m => by
        rcases List.mem_cons.mp m with z | m
        · rw [z]; exact List.mem_cons_self ..
        · rw [List.mem_singleton.mp m]; exact List.mem_cons_of_mem _ (List.mem_cons_self ..)
      have aM : a ∉ M := fun m => by
        obtain ⟨ys, q⟩ := hM4 a m
        rw [ha] at q
        cases q
      have bH4 : ExB l H H4 := bH2.trans fun b o hb h => c24 b o (by simp only [List.mem_singleton]; exact hb) h
      have hH0 : ∀ b, H4 b = none → H b = none := fun b q => by
        cases z : H b with
        | none => rfl
        | some o =>
          have hb : b ≠ l := nl b q
          rw [bH4 b o hb z] at q
          cases q
      have fin : ∀ (M' : List Addr) (d : PyData), (∀ m ∈ M, m ∈ M') → (∀ m ∈ M', m ∈ M ∨ m = a) → cpy d = rowR r → RlM p d → ItH K H7 (l :: G :: M') M' v2 d → (∃ its ds M, its.length = i + 1 ∧ H7 G = some (.lst its) ∧ Paired (ItH K H7 (l :: G :: M) M) its ds ∧ ds.map cpy = (rs.take (i + 1)).map rowR ∧ (∀ d ∈ ds, RlM p d) ∧ (∀ a ∈ M, H a = none ∧ a ≠ G ∧ ∃ ys, H7 a = some (.lst ys))) := by
        intro M' d hs hn hc hr2 hit
        have out : ∀ b, b ∉ l :: G :: M → H4 b ≠ none → b ∉ l :: G :: M' := fun b hb hne m => by
          rcases List.mem_cons.mp m with z | m
          · exact hb (by rw [z]; exact List.mem_cons_self ..)
          · rcases List.mem_cons.mp m with z | m
            · exact hb (by rw [z]; exact List.mem_cons_of_mem _ (List.mem_cons_self ..))
            · rcases hn b m with m | m
              · exact hb (List.mem_cons_of_mem _ (List.mem_cons_of_mem _ m))
              · rw [m] at hne
                exact hne ha
        have eW : Ex (W (l :: G :: M) H4) (W (l :: G :: M') H7) := fun b o h => by
          obtain ⟨h1, nb⟩ := w_in h
          exact w_of (out b nb (by rw [h1]; simp)) (c47 b o (fun m => nb (sub2 b m)) h1)
        refine ⟨its ++ [v2], ds ++ [d], M', by rw [List.length_append, hi]; rfl, h7G, ?_, ?_, ?_, ?_⟩
        · refine paired_snoc (paired_imp hP4 fun u d ⟨a0, i0, b0, k0, ns0, h1, h2, h3⟩ => ⟨a0, i0, b0, k0, ns0, h1, h2.up eW, h3.imp (fun z => ⟨c47 a0 _ (fun m => ?_) z.1, hs _ z.2.1, z.2.2⟩) (fun z => ⟨c47 a0 _ (fun m => z.2.1 (sub2 a0 m)) z.1, out a0 z.2.1 (by rw [z.1]; simp), z.2.2⟩)⟩) hit
          obtain ⟨m1, m2, _⟩ := hM a0 z.2.1
          rcases List.mem_cons.mp m with q | m
          · rw [q] at m1
            exact hdr.ne m1
          · exact m2 (List.mem_singleton.mp m)
        · rw [List.map_append, hcp, List.take_succ, hr, List.map_append]
          show _ ++ [cpy d] = _ ++ [rowR r]
          rw [hc]
        · intro e he
          rcases List.mem_append.mp he with he | he
          · exact hRl e he
          · rw [List.mem_singleton.mp he]
            exact hr2
        · intro b hb
          rcases hn b hb with hb | hb
          · obtain ⟨m1, m2, ys, _⟩ := hM b hb
            obtain ⟨ys, q⟩ := hM4 b hb
            exact ⟨m1, m2, ys, c47 b _ (fun m => by
              rcases List.mem_cons.mp m with q | m
              · rw [q] at m1
                exact hdr.ne m1
              · exact m2 (List.mem_singleton.mp m)) q⟩
          · rw [hb]
            exact ⟨hH0 a ha, nG a ha, _, h7a⟩
      obtain ⟨ns0, b0, er, hr1, hr2, hr3⟩ := hrw
      have er1 : ns0 = r.1 ∧ b0 = r.2 := by
        unfold rowR rowD at er
        injection er with er
        injection er with er1 er
        injection er1 with er1
        injection er with er2 _
        injection er2 with er2
        refine ⟨?_, er2.symm⟩
        have := congrArg (List.map fun d => match d with | PyData.int i => i | _ => 0) er1
        rw [List.map_map, List.map_map] at this
        simpa [Function.comp_def] using this.symm
      obtain ⟨rfl, rfl⟩ := er1
      have inW : ∀ M', (∀ m ∈ M', m ∈ M ∨ m = a) → Dp K (W (l :: G :: M') H7) v (if kk then .tuple (r.1.map .int) else .list (r.1.map .int)) := fun M' hn => hin.up fun b o h => by
        obtain ⟨h1, nb⟩ := w_in h
        refine w_of (fun m => ?_) (c47 b o (fun m => nb (sub2 b m)) h1)
        rcases List.mem_cons.mp m with z | m
        · exact nb (by rw [z]; exact List.mem_cons_self ..)
        · rcases List.mem_cons.mp m with z | m
          · exact nb (by rw [z]; exact List.mem_cons_of_mem _ (List.mem_cons_self ..))
          · rcases hn b m with m | m
            · exact nb (List.mem_cons_of_mem _ (List.mem_cons_of_mem _ m))
            · rw [m, ha] at h1
              cases h1
      have all : ∃ its ds M, its.length = i + 1 ∧ H7 G = some (.lst its) ∧ Paired (ItH K H7 (l :: G :: M) M) its ds ∧ ds.map cpy = (rs.take (i + 1)).map rowR ∧ (∀ d ∈ ds, RlM p d) ∧ (∀ a ∈ M, H a = none ∧ a ≠ G ∧ ∃ ys, H7 a = some (.lst ys)) := by
        simp only [List.mem_cons, List.not_mem_nil, or_false] at hv2
        rcases hv2 with rfl | rfl
        · have hn : ∀ m ∈ a :: M, m ∈ M ∨ m = a := fun m h => (List.mem_cons.mp h).symm
          exact fin (a :: M) (rowM false kk r.1 r.2) (fun m h => List.mem_cons_of_mem _ h) hn cpy_M ⟨false, kk, r.1, r.2, rfl, hr1, hr2, hr3⟩ ⟨a, v, r.2, kk, r.1, rfl, inW _ hn, .inl ⟨h7a, List.mem_cons_self .., rfl⟩⟩
        · have hn : ∀ m ∈ M, m ∈ M ∨ m = a := fun m h => .inl h
          refine fin M (rowM true kk r.1 r.2) (fun m h => h) hn cpy_M ⟨true, kk, r.1, r.2, rfl, hr1, hr2, hr3⟩ ⟨bt, v, r.2, kk, r.1, rfl, inW _ hn, .inr ⟨h7b, fun m => ?_, rfl⟩⟩
          rcases List.mem_cons.mp m with z | m
          · exact nl bt hb4 z
          · rcases List.mem_cons.mp m with z | m
            · exact nG bt hb4 z
            · obtain ⟨ys, q⟩ := hM4 bt m
              rw [hb4] at q
              cases q
      exact ⟨(c2.trans (c24.more (fun b m => by rw [List.mem_singleton.mp m]; simp))).trans c47, d7, all, _, _, _, rfl⟩
    · rintro σ' H2 ⟨c2, d2, ⟨its, ds, M, hi, hG2, hP, hcp, hRl, hM⟩, o3, o4, o5, rfl⟩
      rw [List.take_of_length_le (by omega)] at hcp
      have bH2 := toH c2
      have hl2 := d2.ne
      refine ⟨.ref l, rfl, .ref G, rfl, .ref G, rfl, G, its, rfl, .inl ⟨SqL.of hG2, fun u hu => ⟨by show 2 ≤ sizeLine; decide, fun tm htm => ?_⟩⟩⟩
      have eu := Ex.new (o := .tup its) hu
      have e2 : Ex H2 (upd (upd H2 u (.tup its)) tm (.lst [.ref G, .ref u])) := eu.trans (Ex.new htm)
      have hux := Ex.new (o := .lst [.ref G, .ref u]) htm _ _ (upd_same (H := H2) (a := u) (o := .tup its))
      have htx := upd_same (H := upd H2 u (.tup its)) (a := tm) (o := .lst [.ref G, .ref u])
      have ht2 : H2 tm = none := by
        cases q : H2 tm with
        | none => rfl
        | some o => rw [eu _ _ q] at htm; cases htm
      generalize upd (upd H2 u (.tup its)) tm (.lst [.ref G, .ref u]) = H3 at e2 hux htx ⊢
      have nl : ∀ b, H2 b = none → b ≠ l := fun b q z => by rw [z] at q; exact hl2 q
      refine ⟨l, tm, [.ref G, .ref u], n + 2 * xs.length, [l], rfl, d2.ex e2, by omega, ml, SqL.of (w_of (by simp [nl tm ht2]) htx), by show 0 < 2; decide, by show 2 < 1073741824; decide, fun v o hv d4 => ?_⟩
      have b4 : ExB l H3 (upd H3 l o) := ExB.upd
      generalize upd H3 l o = H4 at d4 b4 ⊢
      have c24 : ChL [l] H2 H4 := (ChL.of e2).trans (ChL.ofB b4 ml)
      have hG4 : H4 G = some (.lst its) := c24 G _ (by simp only [List.mem_singleton]; exact fun z => hGl z.symm) hG2
      have hu4 : H4 u = some (.tup its) := b4 u _ (nl u hu) hux
      have mne : ∀ a ∈ M, a ≠ l := fun a m z => by
        have := (hM a m).1
        rw [z] at this
        exact hdr.ne this
      have L4 : Lsts (l :: G :: M) H4 := fun a m => by
        rcases List.mem_cons.mp m with z | m
        · rw [z]
          obtain ⟨a, b, c, h, _⟩ := d4
          exact ⟨_, h⟩
        · rcases List.mem_cons.mp m with z | m
          · rw [z]; exact ⟨_, hG4⟩
          · obtain ⟨_, _, ys, q⟩ := hM a m
            exact ⟨ys, c24 a _ (by simp only [List.mem_singleton]; exact mne a m) q⟩
      have c24L : ChL (l :: G :: M) H2 H4 := c24.more fun a m => by rw [List.mem_singleton.mp m]; exact List.mem_cons_self ..
      have hP4 : Paired (ItH K H4 (l :: G :: M) M) its ds := paired_imp hP fun u d ⟨a, i, b, k, ns, h1, h2, h3⟩ => ⟨a, i, b, k, ns, h1, h2.up c24L.w, h3.imp (fun z => ⟨c24 a _ (by simp only [List.mem_singleton]; exact mne a z.2.1) z.1, z.2⟩) (fun z => ⟨c24L a _ z.2.1 z.1, z.2⟩)⟩
      have uL : u ∉ l :: G :: M := fun m => by
        rcases List.mem_cons.mp m with z | m
        · exact nl u hu z
        · rcases List.mem_cons.mp m with z | m
          · rw [z, hG2] at hu
            cases hu
          · obtain ⟨_, _, ys, q⟩ := hM u m
            rw [hu] at q
            cases q
      have lenD : ds.length = rs.length := by have := congrArg List.length hcp; rw [List.length_map, List.length_map] at this; exact this
      refine k v H4 G M ds (bH2.trans fun b o hb h => c24 b o (by simp only [List.mem_singleton]; exact hb) h) (d4.up (by omega)) ⟨L4, fun m => (hM G m).2.1 rfl, hGl, fun m => mne l m rfl, ?_⟩ (fun a m => ?_) hcp ⟨by omega, hRl⟩
      · simp only [List.mem_cons, List.not_mem_nil, or_false] at hv
        rcases hv with rfl | rfl
        · exact ⟨G, its, rfl, .inl ⟨rfl, hG4⟩, hP4⟩
        · exact ⟨u, its, rfl, .inr ⟨uL, hu4⟩, hP4⟩
      · rcases List.mem_cons.mp m with z | m
        · rw [z]; exact hG
        · exact (hM a m).1
end
end U

set_option Elab.async false
set_option linter.all false
set_option maxRecDepth 100000
set_option maxHeartbeats 2000000
namespace U
open PySem L2
open Evl (Ex)
/-! ### what evaluates to data -/
section
variable {K : PySem.W.Frag} {L : List Addr} {σ : L2.St} {H H' : Hp} {te tb : TE} {ta tr : TA} {v : V} {d : PyData} {ds : List PyData} {l p : Addr} {o : HO}
def EvQ (K : PySem.W.Frag) (L : List Addr) (te : TE) (σ : L2.St) (H : Hp) (d : PyData) : Prop := ∀ H1, Ex H H1 → ∀ Q : VK, (∀ v H2, Ex H1 H2 → Dq K (W L H2) v d → Q v H2) → te σ H1 Q
def EvQs (K : PySem.W.Frag) (L : List Addr) (ta : TA) (σ : L2.St) (H : Hp) (ds : List PyData) : Prop := ∀ H1, Ex H H1 → ∀ Q : List V → Hp → Prop, (∀ vs H2, Ex H1 H2 → DqAll K (W L H2) vs ds → Q vs H2) → ta σ H1 Q
theorem EvQ.mono (e : Ex H H') (h : EvQ K L te σ H d) : EvQ K L te σ H' d := fun H1 a Q q => h H1 (e.trans a) Q q
theorem EvQs.mono (e : Ex H H') (h : EvQs K L ta σ H ds) : EvQs K L ta σ H' ds := fun H1 a Q q => h H1 (e.trans a) Q q
theorem evq_of (h : Evl.Ev te σ H v) (hd : Dq K (W L H) v d) : EvQ K L te σ H d := fun H1 e Q q => h H1 e _ fun H2 e2 => q v H2 e2 (hd.up (w_ex (e.trans e2)))
theorem evq_var {i : Nat} (h : σ[i]? = some (some v)) (hd : Dq K (W L H) v d) : EvQ K L (tVar i) σ H d := evq_of (Evl.ev_var h) hd
theorem evq_int {i : Int} : EvQ K L (tC (.int i)) σ H (.int i) := evq_of Evl.ev_c (.int i)
theorem evq_bl {b : Bool} : EvQ K L (tC (.bl b)) σ H (.bool b) := evq_of Evl.ev_c (.bl b)
theorem evq_non : EvQ K L (tC .non) σ H .none := evq_of Evl.ev_c .non
theorem evq_str {x : Str} : EvQ K L (tC (.str x)) σ H (.str x) := evq_of Evl.ev_c (.str x)
theorem evq_evI {i : Int} (h : Evl.Ev te σ H (.int i)) : EvQ K L te σ H (.int i) := evq_of h (.int i)
theorem evq_evB {b : Bool} (h : Evl.Ev te σ H (.bl b)) : EvQ K L te σ H (.bool b) := evq_of h (.bl b)
theorem evqs_nil : EvQs K L tNil σ H [] := fun H1 _ _ q => q [] H1 (Ex.refl H1) .nil
theorem evqs_cons (h : EvQ K L te σ H d) (hr : EvQs K L tr σ H ds) : EvQs K L (tCons te tr) σ H (d :: ds) := fun H1 e Q q =>
  h H1 e _ fun v H2 e2 hv => hr H2 (e.trans e2) _ fun vs H3 e3 hvs => q (v :: vs) H3 (e2.trans e3) (.cons (hv.up (w_ex e3)) hvs)
theorem evq_tup (hL : Hid L H) (h : EvQs K L ta σ H ds) (hz : ds.length ≤ 100000) : EvQ K L (tTup ta) σ H (.tuple ds) := fun H1 e Q q =>
  h H1 e _ fun vs H2 e2 hv => ⟨Evl.sz_of (by rw [dqa_len hv]; exact hz), fun p hp => q (.ref p) _ (e2.trans (Ex.new hp)) (.tup (SqT.of (w_new (hid_ex (e.trans e2) hL) hp)) (hv.up (w_ex (Ex.new hp))))⟩
theorem evq_lst (hL : Hid L H) (h : EvQs K L ta σ H ds) (hz : ds.length ≤ 100000) : EvQ K L (tLst ta) σ H (.list ds) := fun H1 e Q q =>
  h H1 e _ fun vs H2 e2 hv => ⟨Evl.sz_of (by rw [dqa_len hv]; exact hz), fun p hp => q (.ref p) _ (e2.trans (Ex.new hp)) (.lst (SqL.of (w_new (hid_ex (e.trans e2) hL) hp)) (hv.up (w_ex (Ex.new hp))))⟩
/-! ### a list that grows -/
/-- at l a list of the data ds, which do not hang on l -/
def Gq (K : PySem.W.Frag) (L : List Addr) (H : Hp) (l : Addr) (ds : List PyData) : Prop := l ∉ L ∧ ∃ xs, H l = some (.lst xs) ∧ DqAll K (W (l :: L) H) xs ds
theorem Gq.dp (h : Gq K L H l ds) : Dq K (W L H) (.ref l) (.list ds) := by
  obtain ⟨n, xs, h1, h2⟩ := h
  exact .lst (SqL.of (w_of n h1)) (h2.up w_cons)
theorem Gq.up (h : Gq K L H l ds) (e : Ex H H') : Gq K L H' l ds := by
  obtain ⟨n, xs, h1, h2⟩ := h
  exact ⟨n, xs, e _ _ h1, h2.up (w_ex e)⟩
theorem Gq.ne (h : Gq K L H l ds) : H l ≠ none := by
  obtain ⟨n, xs, h1, h2⟩ := h
  rw [h1]
  simp
theorem gq_new {xs : List V} (hL : Hid L H) (hp : H p = none) (h : DqAll K (W L H) xs ds) : Gq K L (upd H p (.lst xs)) p ds := ⟨hid_not hL hp, xs, upd_same, h.up (w_fresh hp)⟩
/-- a heap that differs at l alone, where the list has one more -/
theorem gq_app {xs : List V} (n : l ∉ L) (h1 : H l = some (.lst xs)) (h2 : DqAll K (W (l :: L) H) xs ds) (hv : Dq K (W (l :: L) H) v d) : Gq K L (upd H l (.lst (xs ++ [v]))) l (ds ++ [d]) := by
  refine ⟨n, xs ++ [v], upd_same, ?_⟩
  rw [w_upd_in (List.mem_cons_self ..)]
  exact dqa_app h2 (.cons hv .nil)
/-! ### statements -/
variable {D : Ends} {tz tu : TS} {i : Nat}
theorem dq_asg (h : EvQ K L te σ H d) (k : ∀ v H1, Ex H H1 → Dq K (W L H1) v d → D.nx (σ.set i (some v)) H1) : tAsg te (gName i) D σ H := h H (Ex.refl H) _ fun v H1 e hv => k v H1 e hv
theorem qq_asg (h : EvQ K L te σ H d) (k : ∀ v H1, Ex H H1 → Dq K (W L H1) v d → tz D (σ.set i (some v)) H1) : tSeq (tAsg te (gName i)) tz D σ H := dq_asg (D := { D with nx := tz D }) h k
theorem dq_ret (h : EvQ K L te σ H d) (k : ∀ v H1, Ex H H1 → Dq K (W L H1) v d → D.rt v H1) : tRet te D σ H := h H (Ex.refl H) _ fun v H1 e hv => k v H1 e hv
theorem qq_lst (hL : Hid L H) (h : EvQs K L ta σ H ds) (hz : ds.length ≤ 100000) (k : ∀ p H1, H p = none → Ex H H1 → Gq K L H1 p ds → tz D (σ.set i (some (.ref p))) H1) : tSeq (tAsg (tLst ta) (gName i)) tz D σ H :=
  h H (Ex.refl H) _ fun vs H1 e hv => ⟨Evl.sz_of (by rw [dqa_len hv]; exact hz), fun p hp => k p _ (Evl.fresh_back e hp) (e.trans (Ex.new hp)) (gq_new (hid_ex e hL) hp hv)⟩
theorem dq_app (hg : Gq K L H l ds) (ho : Evl.Ev tb σ H (.ref l)) (h : EvQ K (l :: L) te σ H d) (hz : ds.length < 100000) (k : ∀ o H1, Ex H H1 → Gq K L (upd H1 l o) l (ds ++ [d]) → D.nx σ (upd H1 l o)) :
    tDrop (tBM K "list" rAppend tb (tCons te tNil)) D σ H := ho H (Ex.refl H) _ fun H1 e1 => by
  obtain ⟨n, xs, h1, h2⟩ := hg
  refine ⟨Or.inl ⟨rfl, xs, SqL.of (e1 l _ h1)⟩, h H1 e1 _ fun v H2 e2 hv => ⟨l, xs, v, rfl, rfl, e2 l _ (e1 l _ h1), Evl.sz_lt (by rw [dqa_len h2]; exact hz), k _ H2 (e1.trans e2) ?_⟩⟩
  exact gq_app n (e2 l _ (e1 l _ h1)) (h2.up (w_ex (e1.trans e2))) hv
theorem qq_app (hg : Gq K L H l ds) (ho : Evl.Ev tb σ H (.ref l)) (h : EvQ K (l :: L) te σ H d) (hz : ds.length < 100000) (k : ∀ o H1, Ex H H1 → Gq K L (upd H1 l o) l (ds ++ [d]) → tz D σ (upd H1 l o)) :
    tSeq (tDrop (tBM K "list" rAppend tb (tCons te tNil))) tz D σ H := dq_app (D := { D with nx := tz D }) hg ho h hz k
/-- xs + ys, the left a list that stands, the right a new one -/
theorem evq_cat {es : List PyData} (hL : Hid L H) (hg : Gq K L H l ds) (ho : Evl.Ev te σ H (.ref l)) (h : EvQs K L ta σ H es) (hz : ds.length + es.length ≤ 100000) : EvQ K L (tOp rCat te (tLst ta)) σ H (.list (ds ++ es)) := fun H1 e1 Q q =>
  ho H1 e1 _ fun H2 e2 => h H2 (e1.trans e2) _ fun vs H3 e3 hv => by
    have eA := (e1.trans e2).trans e3
    obtain ⟨n, xs, h1, h2⟩ := hg
    have l1 := dqa_len h2
    have l2 := dqa_len hv
    refine ⟨Evl.sz_of (by omega), fun p hp => ⟨l, p, xs, vs, rfl, rfl, ?_, upd_same, Evl.sz_of (by omega), fun r hr => ?_⟩⟩
    · exact (eA.trans (Ex.new hp)) l _ h1
    · refine q (.ref r) _ ((e2.trans e3).trans ((Ex.new hp).trans (Ex.new hr))) (.lst (SqL.of (w_new (hid_upd (hid_ex eA hL)) hr)) ?_)
      have z : Ex (W L H3) (W L (upd (upd H3 p (.lst vs)) r (.lst (xs ++ vs)))) := w_ex ((Ex.new hp).trans (Ex.new hr))
      exact dqa_app (((h2.up w_cons).up (w_ex eA)).up z) (hv.up z)
/-- xs.extend(ys), ys a new list -/
theorem dq_ext {es : List PyData} (hg : Gq K L H l ds) (hL : Hid L H) (ho : Evl.Ev tb σ H (.ref l)) (h : EvQs K (l :: L) ta σ H es) (hz : ds.length + es.length ≤ 100000) (k : ∀ o H1, Ex H H1 → Gq K L (upd H1 l o) l (ds ++ es) → D.nx σ (upd H1 l o)) :
    tDrop (tBM K "list" rExtend tb (tCons (tLst ta) tNil)) D σ H := ho H (Ex.refl H) _ fun H1 e1 => by
  obtain ⟨n, xs, h1, h2⟩ := hg
  refine ⟨Or.inl ⟨rfl, xs, SqL.of (e1 l _ h1)⟩, h H1 e1 _ fun vs H2 e2 hv => ?_⟩
  have l1 := dqa_len h2
  have l2 := dqa_len hv
  refine ⟨Evl.sz_of (by omega), fun p hp => ?_⟩
  have e3 : Ex H2 (upd H2 p (.lst vs)) := Ex.new hp
  have eA := (e1.trans e2).trans e3
  refine ⟨l, p, xs, vs, rfl, rfl, eA l _ h1, upd_same, Evl.sz_of (by omega), k _ _ eA ⟨n, xs ++ vs, upd_same, ?_⟩⟩
  rw [w_upd_in (List.mem_cons_self ..)]
  exact dqa_app (h2.up (w_ex eA)) (hv.up (w_ex e3))
theorem qq_ext {es : List PyData} (hg : Gq K L H l ds) (hL : Hid L H) (ho : Evl.Ev tb σ H (.ref l)) (h : EvQs K (l :: L) ta σ H es) (hz : ds.length + es.length ≤ 100000) (k : ∀ o H1, Ex H H1 → Gq K L (upd H1 l o) l (ds ++ es) → tz D σ (upd H1 l o)) :
    tSeq (tDrop (tBM K "list" rExtend tb (tCons (tLst ta) tNil))) tz D σ H := dq_ext (D := { D with nx := tz D }) hg hL ho h hz k
end
/-! ### a comprehension whose items are data -/
section
variable {K : PySem.W.Frag} {L : List Addr} {σ σ2 : L2.St} {H H' H1 H2 : Hp} {te tl : TE} {ta : TA} {tt : TT} {v : V} {d : PyData} {ds : List PyData} {l a Dl : Addr} {xs : List V} {f : Nat → List PyData} {i : Nat}
/-- evaluates to a new list of data -/
def EvGq (K : PySem.W.Frag) (L : List Addr) (te : TE) (σ : L2.St) (H : Hp) (ds : List PyData) : Prop := ∀ H1, Ex H H1 → ∀ Q : VK, (∀ p H2, H1 p = none → Ex H1 H2 → Gq K L H2 p ds → Q (.ref p) H2) → te σ H1 Q
theorem EvGq.mono (e : Ex H H') (h : EvGq K L te σ H ds) : EvGq K L te σ H' ds := fun H1 a Q q => h H1 (e.trans a) Q q
theorem EvGq.dat (h : EvGq K L te σ H ds) : EvQ K L te σ H (.list ds) := fun H1 e Q q => h H1 e _ fun p H2 hp e2 g => q (.ref p) H2 e2 g.dp
def Cmq (K : PySem.W.Frag) (L : List Addr) (H : Hp) (f : Nat → List PyData) (Dl : Addr) (i : Nat) (H' : Hp) : Prop := H Dl = none ∧ Ex H H' ∧ Gq K L H' Dl (f i)
theorem cmq_0 (hL : Hid L H) (hn : H Dl = none) (f0 : f 0 = []) : Cmq K L H f Dl 0 (upd H Dl (.lst [])) := ⟨hn, Ex.new hn, by
  rw [f0]
  exact gq_new hL hn .nil⟩
theorem cmq_yes (p : Cmq K L H f Dl i H') (hz : (f i).length < 100000) (e2 : Ex H' H2) (he : EvQ K (Dl :: L) te σ2 H2 d) (hf : f (i + 1) = f i ++ [d]) :
    te σ2 H2 fun y H4 => ∃ acc, H4 Dl = some (.lst acc) ∧ acc.length < sizeLine ∧ Cmq K L H f Dl (i + 1) (upd H4 Dl (.lst (acc ++ [y]))) := by
  obtain ⟨p1, p2, n, acc, p3, p4⟩ := p
  refine he H2 (Ex.refl H2) _ fun y H4 e4 hy => ⟨acc, e4 Dl _ (e2 Dl _ p3), Evl.sz_lt (by rw [dqa_len p4]; exact hz), p1, Evl.Ex.mut ((p2.trans e2).trans e4) p1, ?_⟩
  rw [hf]
  exact gq_app n (e4 Dl _ (e2 Dl _ p3)) (p4.up (w_ex (e2.trans e4))) hy
theorem cmq_no (p : Cmq K L H f Dl i H') (e2 : Ex H' H2) (hf : f (i + 1) = f i) : Cmq K L H f Dl (i + 1) H2 := by
  obtain ⟨p1, p2, p3⟩ := p
  rw [← hf] at p3
  exact ⟨p1, p2.trans e2, p3.up e2⟩
/-- [.. for x in a list or a tuple of data] -/
theorem egq_seq {j : Nat} {vs : List Nat} {g : PyData → PyData} (h : Evl.Ev tl σ H (.ref a)) (hx : SqL K H a xs ∨ SqT K H a xs) (hd : DqAll K (W L H) xs ds) (hL : Hid L H) (hz : ds.length ≤ 50000) (hw : ∀ x, wipe ((wipe σ vs).set j (some x)) vs = wipe σ vs)
    (he : ∀ L' (x : V) d H1, d ∈ ds → Hid L' H1 → Ex H H1 → Dq K (W L' H1) x d → EvQ K L' te ((wipe σ vs).set j (some x)) H1 (g d)) : EvGq K L (tLc (iSeq K tl) (gName j) tYes te vs) σ H (ds.map g) := fun H0 e0 Q q => h H0 e0 _ fun H1 e1 => by
  have hlen := dqa_len hd
  have turn : ∀ (Dl : Addr) (i : Nat) (x : V) (H2 H3 : Hp), i < xs.length → Cmq K L H1 (fun i => (ds.take i).map g) Dl i H2 → YAt xs i H2 x H3 → gName j x (wipe σ vs) H3 fun σ2 H2 => wipe σ2 vs = wipe σ vs ∧ tYes σ2 H2 fun b H3 =>
      if b = true then te σ2 H3 fun y H4 => ∃ acc, H4 Dl = some (.lst acc) ∧ acc.length < sizeLine ∧ Cmq K L H1 (fun i => (ds.take i).map g) Dl (i + 1) (upd H4 Dl (.lst (acc ++ [y]))) else Cmq K L H1 (fun i => (ds.take i).map g) Dl (i + 1) H3 := by
    intro Dl i x H2 H3 hi p yp
    obtain ⟨rfl, hu⟩ := yp
    obtain ⟨d, hd1, hd2⟩ := dqa_get hd hu
    obtain ⟨p1, p2, p3⟩ := id p
    refine ⟨hw x, ?_⟩
    refine yes_lc (A := fun H3 => te ((wipe σ vs).set j (some x)) H3 fun y H4 => ∃ acc, H4 Dl = some (.lst acc) ∧ acc.length < sizeLine ∧ Cmq K L H1 (fun i => (ds.take i).map g) Dl (i + 1) (upd H4 Dl (.lst (acc ++ [y])))) (B := fun H3 => Cmq K L H1 (fun i => (ds.take i).map g) Dl (i + 1) H3) ?_
    refine cmq_yes p (by simp; omega) (Ex.refl _) (he _ x d _ (List.mem_of_getElem? hd1) ?_ ((e0.trans e1).trans p2) (hd2.up (w_past (Evl.fresh_back (e0.trans e1) p1) ((e0.trans e1).trans p2)))) ?_
    · intro b hb
      rcases List.mem_cons.mp hb with z | z
      · rw [z]
        exact p3.ne
      · exact hid_ex ((e0.trans e1).trans p2) hL b z
    · have hi' : i < ds.length := by omega
      rw [List.take_add_one, hd1]
      simp
  have fin : ∀ Dl H2, Cmq K L H1 (fun i => (ds.take i).map g) Dl xs.length H2 → Q (.ref Dl) H2 := fun Dl H2 p => by
    obtain ⟨p1, p2, p3⟩ := p
    refine q Dl H2 (Evl.fresh_back e1 p1) (e1.trans p2) ?_
    have e : (ds.take xs.length).map g = ds.map g := by rw [hlen, List.take_length]
    rw [← e]
    exact p3
  have hL1 : Hid L H1 := hid_ex (e0.trans e1) hL
  refine ⟨a, rfl, ?_⟩
  rcases hx with x1 | x1
  · refine .inl ⟨⟨xs, Evl.ex_l (e0.trans e1) x1⟩, fun Dl hD => ?_⟩
    exact lc_it (walk_list (xs := xs)) (Cmq K L H1 (fun i => (ds.take i).map g) Dl) (cmq_0 hL1 hD rfl) (fun i H2 _ p => Evl.ex_l ((e0.trans e1).trans p.2.1) x1) (fun i x H2 H3 hi p y => turn Dl i x H2 H3 hi p y) (fun H2 p => fin Dl H2 p)
  · refine .inr ⟨⟨xs, Evl.ex_t (e0.trans e1) x1⟩, fun Dl hD => ?_⟩
    exact lc_it (walk_tup (xs := xs)) (Cmq K L H1 (fun i => (ds.take i).map g) Dl) (cmq_0 hL1 hD rfl) (fun i H2 _ p => Evl.ex_t ((e0.trans e1).trans p.2.1) x1) (fun i x H2 H3 hi p y => turn Dl i x H2 H3 hi p y) (fun H2 p => fin Dl H2 p)
/-- tuple(a new list of data) -/
theorem evq_tupG (h : EvGq K L te σ H ds) (hL : Hid L H) : EvQ K L (tCB (fun xs H Q => ∃ p ys, xs = [.ref p] ∧ ((SqL K H p ys ∧ ∀ l, H l = none → Q (.ref l) (upd H l (.tup ys))) ∨ (SqT K H p ys ∧ Q (.ref p) H))) (tCons te tNil)) σ H (.tuple ds) := fun H1 e Q q =>
  h H1 e _ fun p H2 hp e2 g => by
    obtain ⟨n, ys, g1, g2⟩ := g
    refine ⟨p, ys, rfl, .inl ⟨SqL.of g1, fun r hr => ?_⟩⟩
    exact q (.ref r) _ (e2.trans (Ex.new hr)) (.tup (SqT.of (w_new (hid_ex (e.trans e2) hL) hr)) ((g2.up w_cons).up (w_ex (Ex.new hr))))
/-- tuple(x) of data that are a list or a tuple -/
theorem evq_tupD {x : V} (h : Evl.Ev te σ H x) (hd : Dq K (W L H) x (.list ds) ∨ Dq K (W L H) x (.tuple ds)) (hL : Hid L H) : EvQ K L (tCB (fun xs H Q => ∃ p ys, xs = [.ref p] ∧ ((SqL K H p ys ∧ ∀ l, H l = none → Q (.ref l) (upd H l (.tup ys))) ∨ (SqT K H p ys ∧ Q (.ref p) H))) (tCons te tNil)) σ H (.tuple ds) := fun H1 e Q q =>
  h H1 e _ fun H2 e2 => by
    rcases hd with hd | hd
    · cases hd with
      | @lst p ys _ hs ha =>
        refine ⟨p, ys, rfl, .inl ⟨Evl.ex_l (w_sub.trans (e.trans e2)) hs, fun r hr => ?_⟩⟩
        exact q (.ref r) _ (e2.trans (Ex.new hr)) (.tup (SqT.of (w_new (hid_ex (e.trans e2) hL) hr)) (ha.up (w_ex ((e.trans e2).trans (Ex.new hr)))))
    · have hd' := hd
      cases hd with
      | @tup p ys _ hs ha =>
        exact ⟨p, ys, rfl, .inr ⟨Evl.ex_t (w_sub.trans (e.trans e2)) hs, q (.ref p) H2 e2 (hd'.up (w_ex (e.trans e2)))⟩⟩
/-- list(x) of data that are a list or a tuple -/
theorem egq_list {x : V} (h : Evl.Ev te σ H x) (hd : Dq K (W L H) x (.list ds) ∨ Dq K (W L H) x (.tuple ds)) (hL : Hid L H) : EvGq K L (tCB (fun xs H Q => ∃ p ys, xs = [.ref p] ∧ (SqL K H p ys ∨ SqT K H p ys) ∧ ∀ l, H l = none → Q (.ref l) (upd H l (.lst ys))) (tCons te tNil)) σ H ds := fun H1 e Q q =>
  h H1 e _ fun H2 e2 => by
    rcases hd with hd | hd
    · cases hd with
      | @lst p ys _ hs ha =>
        refine ⟨p, ys, rfl, .inl (Evl.ex_l (w_sub.trans (e.trans e2)) hs), fun r hr => ?_⟩
        exact q r _ (Evl.fresh_back e2 hr) (e2.trans (Ex.new hr)) (gq_new (hid_ex (e.trans e2) hL) hr (ha.up (w_ex (e.trans e2))))
    · cases hd with
      | @tup p ys _ hs ha =>
        refine ⟨p, ys, rfl, .inr (Evl.ex_t (w_sub.trans (e.trans e2)) hs), fun r hr => ?_⟩
        exact q r _ (Evl.fresh_back e2 hr) (e2.trans (Ex.new hr)) (gq_new (hid_ex (e.trans e2) hL) hr (ha.up (w_ex (e.trans e2))))
end
end U

set_option Elab.async false
set_option linter.all false
set_option maxRecDepth 100000
set_option maxHeartbeats 4000000
/-! A law whose own def calls repr of a container: its promise is told where the law is called, nowhere else. -/
namespace UG
open PySem PySem.Spec PyProof.Rows L2
/-- what the law's def gives there -/
def AtTop (P : Program) (w : World) (K : PySem.W.Frag) (mg : Str → Option Value) (fa a : Addr) (ns : List Int) (s : Shared) : Prop :=
  ∀ (base : Heap) (H : Hp), K.In base → base.Ns mainGlobals mg → Env0 P w K mg base callerA [] s H → SqL K H a (ns.map V.int) →
    codeAny (model P w) callerA (.call (.ref fa) ⟨[.ref a], []⟩) (CR CX0 [] P w H s (fun v _ => v = .bl true) E0) s
section
variable {P : Program} {w : World} {K : PySem.W.Frag} {mg mb : Str → Option Value} {fa a : Addr} {s : Shared} {vs : List Value} {ns : List Int}
theorem seqList {o : Obj} {es : Array DictEntry} {ep : Nat} (ha : s.heap.get? a = some { cls := .type "list", data := .seq vs.toArray }) (e : s.heap.get? a = some o) : o.data ≠ .dict es ep := fun d => by
  have q := Option.some.inj (ha.symm.trans e)
  rw [← q] at d
  cases d
/-- the two cases of law_call in one: only a may be told in H -/
theorem top_core (KX : K.In s.heap) (hns : s.heap.Ns mainGlobals mg) (hb : s.heap.Ns builtinsNs mb) (hbb : ∀ x : Str, x ≠ "__name__" → mb x = bootBuiltins x)
    (hlim : s.heap.NoLimit) (hg : s.gens = #[]) (ha : s.heap.get? a = some { cls := .type "list", data := .seq vs.toArray }) (F : AtTop P w K mg fa a ns s)
    {H : Hp} (hO : Only H) (hS : SqL K H a (ns.map V.int)) (hok : HOk P w H s.heap)
    (hA : ∀ b, b ≠ a → H b = none) (hK : K.lookup a = none ∨ H a = none) :
    codeAny (model P w) callerA (.call (.ref fa) ⟨[.ref a], []⟩)
      (fun r s' => r = .ok (.ret (.bool true)) ∧ OldK s.heap s'.heap ∧ s'.os = s.os ∧ AllBare s'.gens) s := by
  have low : ∀ {b : Addr} {o : Obj}, s.heap.get? b = some o → H b = none → (hidT s.heap H).get? b = some o := hidT_get
  have lowD : ∀ {b : Addr} {o : Obj} {es : Array DictEntry} {ep : Nat}, s.heap.get? b = some o → o.data = .dict es ep → H b = none := fun {b o es ep} e d => by
    by_cases z : b = a
    · subst z
      exact absurd d (seqList ha e)
    · exact hA b z
  have keep : ∀ {b : Addr} {m : Str → Option Value}, s.heap.Ns b m → (hidT s.heap H).Ns b m := by
    rintro b m ⟨o, es, ep, e, d, r⟩
    exact ⟨o, es, ep, low e (lowD e d), d, r⟩
  have inB : K.In (hidT s.heap H) := by
    intro b o e
    refine low (KX b o e) ?_
    by_cases z : b = a
    · subst z
      rcases hK with q | q
      · rw [q] at e
        cases e
      · exact q
    · exact hA b z
  obtain ⟨mc, l1, l2⟩ := hlim
  have md : Mod K mg (hidT s.heap H) := ⟨inB, keep hns, ⟨mb, keep hb, hbb⟩, mc, keep l1, l2⟩
  have env : Env0 P w K mg (hidT s.heap H) callerA [] s H := by
    refine ⟨rfl, md, ?_, Nat.le_of_eq (hidT_size _ _), trivial, ?_, hok, .of_eq hg⟩
    · exact fun b o e => of_hidT e
    · exact fun b hb => absurd hb (List.not_mem_nil)
  refine codeAny_mono (F _ H inB (keep hns) env hS) fun r s' h => ?_
  match r, h with
  | .error _, h => exact h.elim
  | .ok .next, h => exact h.elim
  | .ok .brk, h => exact h.elim
  | .ok .cont, h => exact h.elim
  | .ok (.ret u), h =>
    obtain ⟨v, H', os, bare, un, hok', rel, q⟩ := h
    have hv : v = .bl true := q
    rw [hv] at rel
    have hu : u = Value.bool true := rel
    rw [hu]
    refine ⟨rfl, OldK.of_keep ?_, os, bare⟩
    intro b o e
    rcases hO b with z | ⟨ob, xs, z⟩
    · exact un.keep b o e z (List.not_mem_nil) (List.not_mem_nil)
    · have before := (hok b _ z).1
      have after := (hok' b _ (un.frzs b ob _ z)).1
      exact (Option.some.inj (e.symm.trans before)) ▸ after
theorem top_call (KX : K.In s.heap) (hns : s.heap.Ns mainGlobals mg) (hb : s.heap.Ns builtinsNs mb) (hbb : ∀ x : Str, x ≠ "__name__" → mb x = bootBuiltins x)
    (hlim : s.heap.NoLimit) (hg : s.gens = #[]) (ha : s.heap.get? a = some { cls := .type "list", data := .seq vs.toArray }) (hi : IntsAre vs ns) (hl : ns.length ≤ sizeLine) (F : AtTop P w K mg fa a ns s) :
    codeAny (model P w) callerA (.call (.ref fa) ⟨[.ref a], []⟩)
      (fun r s' => r = .ok (.ret (.bool true)) ∧ OldK s.heap s'.heap ∧ s'.os = s.os ∧ AllBare s'.gens) s := by
  have rel := vals_ints hi
  have len := hi.length
  by_cases hk : K.lookup a = none
  · let T : HO := .frz { cls := .type "list", data := .seq vs.toArray } (.lst (ns.map V.int))
    let H : Hp := fun b => if b = a then some T else none
    have at_a : H a = some T := if_pos rfl
    have off : ∀ b, b ≠ a → H b = none := fun b n => if_neg n
    refine top_core KX hns hb hbb hlim hg ha F (H := H) (fun b => ?_) (.inl (.inr ⟨_, at_a⟩)) (fun b u z => ?_) off (.inl hk)
    · by_cases n : b = a
      · exact .inr ⟨_, _, by rw [n]; exact at_a⟩
      · exact .inl (off b n)
    · by_cases n : b = a
      · subst n
        rw [at_a] at z
        cases z
        exact ⟨ha, by rw [List.length_map]; exact hl, vs, _, rel, ha⟩
      · rw [off b n] at z
        cases z
  · obtain ⟨o, ho⟩ := Option.ne_none_iff_exists'.mp hk
    have same := Option.some.inj ((KX a o ho).symm.trans ha)
    subst same
    exact top_core KX hns hb hbb hlim hg ha F (H := fun _ => none) (fun _ => .inl rfl)
      (.inr ⟨_, vs.toArray, _, ho, rfl, rfl, rfl, by rw [List.size_toArray, len]; exact hl, by simpa using rel⟩)
      (fun b u z => nomatch z) (fun _ _ => rfl) (.inr rfl)
end
/-- the walk's end for such a law -/
theorem walk_top {l : PySem.W.OpenLaw} {n : Nat} {q : Program} {loose : List Str} {XP : (Str → Option Value) → Heap → Prop} {YP : World → Heap → Prop} {d : DefRec} {K : Params → PySem.W.Frag}
    (hn : l.most = some n) (hn2 : n ≤ sizeLine) (hdf : d.params.defaults = []) (hY : ∀ (w : World) (h : Heap), YP w h → (K w.params).In h)
    (F : ∀ (w : World) (mg : Str → Option Value) (fa : Addr) (h : Heap), (K w.params).In h → h.Ns mainGlobals mg → mg d.name = some (.ref fa) →
      ∀ (s : Shared) (a : Addr) (ns : List Int), s.heap = h → ns.length ≤ n → AtTop l.prog w (K w.params) mg fa a ns s) :
    PySem.W.WalkO q loose XP YP l.row.toRowW d [] (fun f vs => PySem.call f vs) := by
  refine Att.attach_call hn hdf fun w s0 s1 mg mb fa o pm cd doc a vs ns G Y ho hd hcd hmg hobj hints hlen hg => ?_
  have KX := hY w _ Y
  exact top_call KX G.T.g G.T.b G.T.builtins G.T.nolimit hg hobj hints (Nat.le_trans hlen hn2) (F w mg fa _ KX G.T.g hmg s1 a ns rfl hlen)
/-! ### repr of a list or a tuple of data -/
mutual
theorem dp_noDict {K : PySem.W.Frag} {H : Hp} : ∀ (d : PyData) (v : V), Dp K H v d → d.hasDict = false
  | .none, _, _ => rfl
  | .bool _, _, _ => rfl
  | .int _, _, _ => rfl
  | .str _, _, _ => rfl
  | .list ds, _, h => by
    cases h with
    | lst hs ha => exact dpa_noDict ds _ ha
  | .tuple ds, _, h => by
    cases h with
    | tup hs ha => exact dpa_noDict ds _ ha
  | .dict _, _, h => by cases h
theorem dpa_noDict {K : PySem.W.Frag} {H : Hp} : ∀ (ds : List PyData) (vs : List V), DpAll K H vs ds → PyData.hasDictAll ds = false
  | [], _, _ => rfl
  | d :: ds, _, h => by
    cases h with
    | cons h1 h2 =>
      have e1 := dp_noDict d _ h1
      have e2 := dpa_noDict ds _ h2
      show (d.hasDict || PyData.hasDictAll ds) = false
      rw [e1, e2]
      rfl
end
/-- repr(x), x a list or a tuple of data: the text that the data have -/
def rRepr (K : PySem.W.Frag) : List V → Hp → VK → Prop := fun xs H Q => ∃ a d, xs = [.ref a] ∧ Dp K H (.ref a) d ∧ d.showable = true ∧ d.depth ≤ 64 ∧ d.shown.length ≤ sizeLine ∧ Q (.str d.shown) H
theorem call_reprD {X : Cx} (hg : X.A.guards = some []) (hu : X.A.units + 80 < cLine) : CallR X (.builtin "repr") (rRepr X.K) := by
  intro pins s σ H xs us Q I r h
  obtain ⟨a, d, rfl, hd, hs, hdep, hz, q⟩ := h
  obtain ⟨u, rfl, ru⟩ := vals1 r
  obtain ⟨as, rd⟩ := Dp.reads I d _ u hd ru
  obtain rfl : u = Value.ref a := ru
  refine repr_of_reads' rd hs (fun z => ?_) hg (by omega) (fun _ _ e => e) (fun h' t tk hk => ?_) hz
  · rw [dp_noDict d _ hd] at z
    cases z
  · exact ⟨.str d.shown, H, I.kept hk, ⟨t, rfl⟩, q⟩
theorem top_guards (env : Env) : (callerA.deeper env).guards = some [] := rfl
/-- the law's def, its body told where the law is called -/
theorem atTop_of {P : Program} {w : World} {K : PySem.W.Frag} {mg : Str → Option Value} {fa a : Addr} {ns : List Int} {s : Shared} {name x : Str} {st : Stmt} {fd : FuncData} {N : List Str} {k : Nat}
    (F : Fun K name name st fa fd) (S : FnScope N [x] (defScope st)) (hb : BindsTo s fd ⟨[.ref a], []⟩ [(x, .ref a)]) (hr : Room (k + 1) callerA)
    (hbody : ∀ (base : Heap) (cdv : Value) (H : Hp), Room k (callerA.deeper (envOfC name (defScope st) s.heap.objs.size fa cdv)) → SqL K H a (ns.map V.int) →
      ∃ t, PSs (cxOf CX0 P w K mg base N name (defScope st) fa cdv callerA [] s H E0).nox (defBody st) t ∧
        t { nx := fun _ _ => V.non = V.bl true, rt := fun v _ => v = V.bl true } (L2.start N [V.ref a]) H) : AtTop P w K mg fa a ns s := by
  intro base H _ _ e0 hS
  obtain ⟨oc, od, kV, doc, pm, an, cdv, ct, osl, rfl, lk, hcd⟩ := F.ex
  refine LamX.run_ofS (ps := [x]) (us := [Value.ref a]) (vs := [V.ref a]) lk hcd S hr e0 hb (show Vals [V.ref a] [Value.ref a] from .cons rfl .nil) rfl fun r => ?_
  obtain ⟨t, h1, h2⟩ := hbody base cdv H r hS
  exact ⟨t, h1.nox, h2⟩
end UG

set_option Elab.async false
set_option linter.all false
set_option maxRecDepth 100000
set_option maxHeartbeats 4000000
/-! the law's steps: the text of what was handed over; it is changed behind the sample's back -/
namespace U
open PySem PySem.Spec PyProof.Rows L2
open Evl (Ex)
open C8 (Met Mak pe_mt pe_mt0 pe_mk)
section
theorem pile_le {ts : List Str} {c n : Nat} (h : ∀ t ∈ ts, t.length ≤ c) (hn : ts.length ≤ n) : piled ts ≤ n * (c + 2) := by
  induction ts generalizing n with
  | nil => exact Nat.zero_le _
  | cons t ts ih =>
    obtain ⟨k, rfl⟩ : ∃ k, n = k + 1 := ⟨n - 1, by rw [List.length_cons] at hn; omega⟩
    have h1 := h t (List.mem_cons_self ..)
    have h2 := ih (n := k) (fun x hx => h x (List.mem_cons_of_mem _ hx)) (by rw [List.length_cons] at hn; omega)
    rw [piled_cons, Nat.add_mul, Nat.one_mul]
    omega
theorem tup_le (ts : List Str) : (tupleText ts).length ≤ piled ts + 3 := by
  have e : (tupleText ts).length = 1 + (Str.join ", " ts).length + (if ts.length == 1 then 2 else 1) := by
    unfold tupleText
    rw [strLen_append, strLen_append]
    split <;> rfl
  rw [e]
  by_cases h : ts = []
  · subst h
    decide
  · have := join_length_add ts h
    split <;> omega
theorem lst_le (ts : List Str) : (listText ts).length ≤ piled ts + 3 := by
  cases ts with
  | nil => decide
  | cons t r =>
    have h := textFrom_length_pos r 1 (("[" : Str) ++ (if (0 : Nat) > 0 then ", " else "" : String) ++ t) (Nat.succ_pos 0)
    have e : ((("[" : Str) ++ (if (0 : Nat) > 0 then ", " else "" : String) ++ t)).length = 1 + t.length := by
      rw [strLen_append, strLen_append]; rfl
    have hX : (listText (t :: r)).length = (textFrom 0 "[" (t :: r)).length + 1 := by
      show (textFrom 0 "[" (t :: r) ++ "]").length = _
      rw [strLen_append]; rfl
    have hY : (textFrom 0 "[" (t :: r)).length = (textFrom 1 (("[" : Str) ++ (if (0 : Nat) > 0 then ", " else "" : String) ++ t) r).length := rfl
    rw [hX, hY, h, e, piled_cons]; omega
theorem shownAll_id : ∀ xs : List PyData, PyData.shownAll xs = xs.map PyData.shown
  | [] => rfl
  | x :: xs => congrArg (_ :: ·) (shownAll_id xs)
/-- the text is at most c long, it can be told, it goes k deep -/
def TxtOk (c k : Nat) (d : PyData) : Prop := d.shown.length ≤ c ∧ d.showable = true ∧ d.depth ≤ k
theorem txt_all {c k : Nat} : ∀ {ds : List PyData}, (∀ d ∈ ds, TxtOk c k d) → PyData.showableAll ds = true ∧ PyData.depthAll ds ≤ k
  | [], _ => ⟨rfl, Nat.zero_le _⟩
  | d :: ds, h => by
    obtain ⟨h1, h2, h3⟩ := h d (List.mem_cons_self ..)
    obtain ⟨h4, h5⟩ := txt_all (ds := ds) fun e he => h e (List.mem_cons_of_mem _ he)
    exact ⟨by show (d.showable && PyData.showableAll ds) = true; rw [h2, h4]; rfl, by show max d.depth (PyData.depthAll ds) ≤ k; omega⟩
theorem txt_seq {c k n : Nat} {ds : List PyData} (h : ∀ d ∈ ds, TxtOk c k d) (hn : ds.length ≤ n) : TxtOk (n * (c + 2) + 3) (k + 1) (.tuple ds) ∧ TxtOk (n * (c + 2) + 3) (k + 1) (.list ds) := by
  obtain ⟨h1, h2⟩ := txt_all h
  have h3 := pile_le (ts := ds.map PyData.shown) (c := c) (n := n) (fun t ht => by
    obtain ⟨x, hx, rfl⟩ := List.mem_map.mp ht
    exact (h x hx).1) (by rw [List.length_map]; exact hn)
  refine ⟨⟨?_, h1, ?_⟩, ⟨?_, h1, ?_⟩⟩
  · show (tupleText (PyData.shownAll ds)).length ≤ _
    rw [shownAll_id]
    have := tup_le (ds.map PyData.shown)
    omega
  · show PyData.depthAll ds + 1 ≤ k + 1
    omega
  · show (listText (PyData.shownAll ds)).length ≤ _
    rw [shownAll_id]
    have := lst_le (ds.map PyData.shown)
    omega
  · show PyData.depthAll ds + 1 ≤ k + 1
    omega
theorem log_sm {i : Int} (h : -999999 ≤ i ∧ i ≤ 999999) : i.natAbs.log2 < 1920 := by
  by_cases z : i.natAbs = 0
  · rw [z]
    decide
  · exact Nat.lt_trans ((Nat.log2_lt z).mpr (show i.natAbs < 2 ^ 20 by omega)) (by decide)
theorem txt_int {i : Int} (h : -999999 ≤ i ∧ i ≤ 999999) : TxtOk 1921 0 (.int i) := ⟨int_text_len_1921 (log_sm h), decide_eq_true (log_sm h), Nat.le_refl _⟩
theorem txt_up {c c2 k k2 : Nat} {d : PyData} (h : TxtOk c k d) (h1 : c ≤ c2) (h2 : k ≤ k2) : TxtOk c2 k2 d := ⟨Nat.le_trans h.1 h1, h.2.1, Nat.le_trans h.2.2 h2⟩
theorem txt_bl (b : Bool) : TxtOk 5 0 (.bool b) := ⟨by cases b <;> decide, rfl, Nat.le_refl _⟩
theorem txt_row {p : Int} {d : PyData} (h : RlM p d) : TxtOk 13000 2 d := by
  obtain ⟨o, i, ns, b, rfl, h1, h2, h3⟩ := h
  have q1 := txt_seq (n := 3) (ds := ns.map .int) (fun d hd => by
    obtain ⟨x, hx, rfl⟩ := List.mem_map.mp hd
    exact txt_int (h3 x hx)) (by rw [List.length_map]; exact h2)
  have q2 : ∀ i : Bool, TxtOk 6000 1 (if i then PyData.tuple (ns.map .int) else .list (ns.map .int)) := fun i => by
    cases i with
    | true => exact txt_up q1.1 (by omega) (Nat.le_refl _)
    | false => exact txt_up q1.2 (by omega) (Nat.le_refl _)
  have q3 := txt_seq (n := 2) (ds := [if i then PyData.tuple (ns.map .int) else .list (ns.map .int), .bool b]) (fun d hd => by
    simp only [List.mem_cons, List.not_mem_nil, or_false] at hd
    rcases hd with rfl | rfl
    · exact q2 i
    · exact txt_up (txt_bl b) (by omega) (by omega)) (Nat.le_refl _)
  cases o with
  | true => exact txt_up q3.1 (by omega) (Nat.le_refl _)
  | false => exact txt_up q3.2 (by omega) (Nat.le_refl _)
end
/-- what was handed over, as data -/
def hdD (o G : Addr) (ds : List PyData) : PyData := if o = G then .list ds else .tuple ds
theorem txt_hd {p : Int} {o G : Addr} {ds : List PyData} (h : RwsM p ds) (hz : ds.length ≤ 100) : TxtOk 16000000 3 (hdD o G ds) := by
  have q := txt_seq (n := 100) (fun d hd => txt_row (h.2 d hd)) hz
  unfold hdD
  split
  · exact txt_up q.2 (by omega) (Nat.le_refl _)
  · exact txt_up q.1 (by omega) (Nat.le_refl _)
section
variable {P : Program} {w : World} {K : PySem.W.Frag} {mg : Str → Option Value} {base : Heap} {C : Addr} {σ : L2.St} {H H' : Hp} {l G o x y : Addr} {M L : List Addr} {ds : List PyData} {p : Int} {n : Nat} {te : TE} {v : V}
theorem ith_dp {u : V} {d : PyData} (h : ItH K H L M u d) : Dp K H u d := by
  obtain ⟨a, i, b, k, ns, rfl, hi, h⟩ := h
  have hi2 := hi.up w_sub
  rcases h with ⟨h1, _, rfl⟩ | ⟨h1, _, rfl⟩
  · exact .lst (SqL.of h1) (.cons hi2 (.cons (.bl b) .nil))
  · exact .tup (SqT.of h1) (.cons hi2 (.cons (.bl b) .nil))
theorem paired_dpa {its : List V} {ds : List PyData} (h : Paired (fun u d => Dp K H u d) its ds) : DpAll K H its ds := by
  induction h with
  | nil => exact .nil
  | cons h _ ih => exact .cons h ih
theorem HdOk.dp (h : HdOk K H l G M (.ref o) ds) : Dp K H (.ref o) (hdD o G ds) := by
  obtain ⟨o2, its, e, h1, h2⟩ := h.ex
  cases e
  have ha := paired_dpa (paired_imp h2 fun u d => ith_dp)
  unfold hdD
  rcases h1 with ⟨rfl, h1⟩ | ⟨n, h1⟩
  · rw [if_pos rfl]
    exact .lst (SqL.of h1) ha
  · rw [if_neg (fun e => n (by rw [e]; exact List.mem_cons_of_mem _ (List.mem_cons_self ..)))]
    exact .tup (SqT.of h1) ha
theorem HdOk.ofB (h : HdOk K H l G M v ds) (b : ExB l H H') (d : Dr n H' l) : HdOk K H' l G M v ds := by
  obtain ⟨o, its, e, h1, h2⟩ := h.ex
  have ml : l ∈ l :: G :: M := List.mem_cons_self ..
  have cL : ChL (l :: G :: M) H H' := ChL.ofB b ml
  refine ⟨fun a m => ?_, h.gm, h.lg, h.lm, o, its, e, ?_, paired_imp h2 fun u d ⟨a, i, b', k, ns, h1, h2, h3⟩ => ⟨a, i, b', k, ns, h1, h2.up cL.w, h3.imp (fun z => ⟨b a _ (fun e => h.lm (by rw [← e]; exact z.2.1)) z.1, z.2⟩) (fun z => ⟨cL a _ z.2.1 z.1, z.2⟩)⟩⟩
  · by_cases z : a = l
    · rw [z]
      obtain ⟨a, b, c, h, _⟩ := d
      exact ⟨_, h⟩
    · obtain ⟨xs, q⟩ := h.ls a m
      exact ⟨xs, b a _ z q⟩
  · rcases h1 with ⟨r, h1⟩ | ⟨r, h1⟩
    · exact .inl ⟨r, b _ _ (Ne.symm h.lg) h1⟩
    · exact .inr ⟨r, b _ _ (fun z => r (by rw [z]; exact ml)) h1⟩
theorem ev_reprH (h : Evl.Ev te σ H (.ref o)) (hh : HdOk K H l G M (.ref o) ds) (hR : RwsM p ds) (hz : ds.length ≤ 100) : Evl.Ev (tCB (UG.rRepr K) (tCons te tNil)) σ H (.str (hdD o G ds).shown) := fun H1 e1 Q q =>
  h H1 e1 _ fun H2 e2 => by
    obtain ⟨t1, t2, t3⟩ := txt_hd (o := o) (G := G) hR hz
    exact ⟨o, _, rfl, hh.dp.up (e1.trans e2), t2, by omega, by rw [sizeLine_eq]; omega, q H2 e2⟩
/-- cells that were not there may have changed -/
theorem ch_new {H0 : Hp} (hn : ∀ a ∈ L, H a = none) (e : Ex H H0) (c : ChL L H0 H') : Ex H H' := fun a o h => c a o (fun m => by rw [hn a m] at h; cases h) (e a o h)
theorem ev_isL (h : Evl.Ev te σ H (.ref x)) {xs : List V} (hx : H x = some (.lst xs)) : Evl.Ev (tCB (rIsi K) (tCons te (tCons (tC (.ty "list")) tNil))) σ H (.bl true) := fun H1 e1 Q q =>
  h H1 e1 _ fun H2 e2 => ⟨.ref x, .ty "list", _, _, true, rfl, .ty "list", .base (.lst ((e1.trans e2) _ _ hx)), kit_ty (show kitB "list" "list" = some true by decide +kernel), q H2 e2⟩
theorem ev_isT (h : Evl.Ev te σ H (.ref x)) {xs : List V} (hx : H x = some (.tup xs)) : Evl.Ev (tCB (rIsi K) (tCons te (tCons (tC (.ty "list")) tNil))) σ H (.bl false) := fun H1 e1 Q q =>
  h H1 e1 _ fun H2 e2 => ⟨.ref x, .ty "list", _, _, false, rfl, .ty "list", .base (.tup ((e1.trans e2) _ _ hx)), kit_ty (show kitB "tuple" "list" = some false by decide +kernel), q H2 e2⟩
/-- each row that is a list gets one more item -/
theorem more_run {tz : TS} {D : Ends} {j i : Nat} (hh : HdOk K H l G M (.ref o) ds) (hz : ds.length ≤ 1000) (Sv : L2.St → Prop) (h0 : Sv σ) (hi : ∀ σ', Sv σ' → σ'[i]? = some (some (.ref o))) (hs : ∀ σ' x, Sv σ' → Sv (σ'.set j (some x))) (hj : ∀ σ' x, Sv σ' → (σ'.set j (some x))[j]? = some (some x))
    (k : ∀ σ' H', Sv σ' → ChL M H H' → tz D σ' H') :
    tSeq (tFor (iSeq K (tVar i)) (gName j) (tIfS (tB (tCB (rIsi K) (tCons (tVar j) (tCons (tC (.ty "list")) tNil)))) (tDrop (tBM K "list" rAppend (tVar j) (tCons (tC (.str "more")) tNil))) tNext)) tz D σ H := by
  obtain ⟨o2, its, e, h1, h2⟩ := hh.ex
  cases e
  have lits := h2.length
  let Pv : Nat → L2.St → Hp → Prop := fun c σ' H' => Sv σ' ∧ ChL M H H' ∧ ∀ a, V.ref a ∈ its → a ∈ M → ∃ ys, H' a = some (.lst ys) ∧ ys.length ≤ 2 + c
  have p0 : Pv 0 σ H := ⟨h0, ChL.refl, fun a ha m => by
    obtain ⟨j, hj, e⟩ := List.getElem_of_mem ha
    obtain ⟨d, _, a', ib, b, kk, ns, e2, hi1, hi2⟩ := paired_get h2 (List.getElem?_eq_getElem hj)
    rw [e] at e2
    cases e2
    rcases hi2 with ⟨z1, _⟩ | ⟨_, z2, _⟩
    · exact ⟨_, z1, Nat.le_refl _⟩
    · exact absurd (List.mem_cons_of_mem _ (List.mem_cons_of_mem _ m)) z2⟩
  have turn : ∀ (c : Nat) (y : V) σ' H3 H4, c < its.length → Pv c σ' H3 → YAt its c H3 y H4 → gName j y σ' H4 fun σ2 H5 => tIfS (tB (tCB (rIsi K) (tCons (tVar j) (tCons (tC (.ty "list")) tNil)))) (tDrop (tBM K "list" rAppend (tVar j) (tCons (tC (.str "more")) tNil))) tNext { D with nx := Pv (c + 1), ct := Pv (c + 1), bk := tz D } σ2 H5 := by
    intro c y σ' H3 H4 hc ⟨p1, p2, p3⟩ yp
    obtain ⟨rfl, hu⟩ := yp
    obtain ⟨d, hd1, a, ib, b, kk, ns, rfl, hi1, hi2⟩ := paired_get h2 hu
    show tIfS _ _ _ _ (σ'.set j (some (.ref a))) H4
    have vj : ∀ H1, Evl.Ev (tVar j) (σ'.set j (some (.ref a))) H1 (.ref a) := fun H1 => Evl.ev_var (hj σ' _ p1)
    rcases hi2 with ⟨z1, z2, _⟩ | ⟨z1, z2, _⟩
    · obtain ⟨ys, hy, hyl⟩ := p3 a (List.mem_of_getElem? hu) z2
      refine Evl.s_when (b := true) (Evl.et_B (ev_isL (vj _) hy)) (fun _ H5 e5 => ?_) (fun z => nomatch z)
      refine Evl.s_app (e5 _ _ hy) (vj _) Evl.ev_c (by omega) fun H6 e6 => ⟨hs _ _ p1, (p2.trans (ChL.of (e5.trans e6))).trans (ChL.upd z2), fun b hb1 hb2 => ?_⟩
      by_cases e : b = a
      · rw [e]
        exact ⟨_, upd_same, by rw [List.length_append, List.length_singleton]; omega⟩
      · obtain ⟨zs, q1, q2⟩ := p3 b hb1 hb2
        exact ⟨zs, by rw [upd_ne e]; exact e6 _ _ (e5 _ _ q1), by omega⟩
    · have z3 : a ∉ M := fun m => z2 (List.mem_cons_of_mem _ (List.mem_cons_of_mem _ m))
      refine Evl.s_when (b := false) (Evl.et_B (ev_isT (vj _) (p2 a _ z3 z1))) (fun z => nomatch z) (fun _ H5 e5 => ⟨hs _ _ p1, p2.trans (ChL.of e5), fun b hb1 hb2 => ?_⟩)
      obtain ⟨zs, q1, q2⟩ := p3 b hb1 hb2
      exact ⟨zs, e5 _ _ q1, by omega⟩
  have fin : ∀ σ' H', Pv its.length σ' H' → tz D σ' H' := fun σ' H' ⟨p1, p2, p3⟩ => k σ' H' p1 p2
  refine ⟨_, hi _ h0, o, rfl, ?_⟩
  rcases h1 with ⟨rfl, h1⟩ | ⟨n, h1⟩
  · exact .inl ⟨⟨_, SqL.of h1⟩, for_it (walk_list (xs := its)) Pv p0 (fun c σ' H' _ pv => SqL.of (pv.2.1 _ _ hh.gm h1)) (fun c y σ' H3 H4 hc pv yp => turn c y σ' H3 H4 hc pv yp) fin⟩
  · exact .inr ⟨⟨_, SqT.of h1⟩, for_it (walk_tup (xs := its)) Pv p0 (fun c σ' H' _ pv => SqT.of (pv.2.1 _ _ (fun m => n (List.mem_cons_of_mem _ (List.mem_cons_of_mem _ m))) h1)) (fun c y σ' H3 H4 hc pv yp => turn c y σ' H3 H4 hc pv yp) fin⟩
end
end U

set_option Elab.async false
set_option linter.all false
set_option maxRecDepth 100000
set_option maxHeartbeats 4000000
/-! the law's steps: the sample is made, asked -/
namespace U
open PySem PySem.Spec PyProof.Rows L2
open Evl (Ex)
open C8 (Met Mak pe_mt pe_mt0 pe_mk)
section
variable {P : Program} {w : World} {K : PySem.W.Frag} {mg : Str → Option Value} {base : Heap} {C T0 : Addr} {σ : L2.St} {H H' H0 : Hp} {l G o x y t : Addr} {M L : List Addr} {ds es : List PyData} {p : Int} {n j : Nat} {te tx ta tb : TE} {v : V} {d : PyData} {rs : List RB}
theorem draw_runJ {tm : TE} {many : Int} {Q : VK} (h0 : σ[j]? = some (some (.ref l))) (hd : Dr n H l) (hn : n < 1000000) (hm : Evl.Ev tm σ H (.int many)) (m0 : 0 < many) (m1 : many < 1073741824)
    (k : ∀ r H', 0 ≤ r → r < many → Dr (n + 1) H' l → ExB l H H' → Q (.int r) H') : tCallD spDraw (tCons (tVar j) (tCons tm tNil)) σ H Q :=
  ⟨_, h0, hm H (Ex.refl H) _ fun H1 e1 => ⟨l, many, n, rfl, hd.ex e1, hn, m0, m1, fun r o r0 r1 hd' => k r _ r0 r1 hd' ((ExB.of e1).trans ExB.upd)⟩⟩
theorem exB_new' (hl : H l = none) (e : Ex H H0) (b : ExB l H0 H') : Ex H H' := fun a o h => b a o (ne_of_none h hl) (e a o h)
theorem hid1' (h : H l ≠ none) : Hid [l] H := fun a m => by
  rw [List.mem_singleton.mp m]
  exact h
theorem Dr.ch (d : Dr n H l) (c : ChL L H H') (hl : l ∉ L) : Dr n H' l := by
  obtain ⟨a, b, z, h, q⟩ := d
  exact ⟨a, b, z, c _ _ hl h, q⟩
/-- what stood before G and M were made stays -/
theorem exB_ch (hf : ∀ a ∈ L, H a = none) (b : ExB l H H0) (c : ChL L H0 H') : ExB l H H' := fun a o na h => c a o (fun m => by rw [hf a m] at h; cases h) (b a o na h)
theorem evS_if {b : Bool} {tt : TT} (h : Evl.EvT tt σ H b) (h1 : b = true → EvS K L C p ds ta σ H) (h2 : b = false → EvS K L C p ds tb σ H) : EvS K L C p ds (tIf tt ta tb) σ H := fun H1 e Q q => h H1 e _ fun H2 e2 => by
  cases b with
  | true => exact h1 rfl H2 (e.trans e2) Q fun y H3 e3 hy => q y H3 (e2.trans e3) hy
  | false => exact h2 rfl H2 (e.trans e2) Q fun y H3 e3 hy => q y H3 (e2.trans e3) hy
theorem ev_neNil (h : Evl.Ev te σ H (.ref t)) (g : Gr K L H t (rs.map rowR)) (hR : Rws p (rs.map rowR)) : Evl.Ev (tOp (rNeD K) te (tLst tNil)) σ H (.bl (!decide (rs = []))) := fun H1 e Q q =>
  h H1 e _ fun H2 e2 => ⟨by show 0 ≤ sizeLine; exact Nat.zero_le _, fun r hr => ⟨.list (rs.map rowR), .list [], ((g.up (e.trans e2)).dp.up w_sub).up (Ex.new hr), .lst (SqL.of upd_same) .nil, hR.shaped.2, rfl, by
    show Q (.bl (!PyData.eqvAll (rs.map rowR) (([] : List RB).map rowR))) _
    rw [eqv_rows]
    exact q _ (e2.trans (Ex.new hr))⟩⟩
theorem HdOk.two (h : HdOk K H l G M (.ref o) es) : Dp K H (.ref o) (.list es) ∨ Dp K H (.ref o) (.tuple es) := by
  have := h.dp
  unfold hdD at this
  split at this
  · exact .inl this
  · exact .inr this
theorem HdOk.evs (h : HdOk K H l G M (.ref o) es) (h5 : Evl.Ev te σ H (.ref o)) : EvD K [] te σ H (.list es) ∨ EvD K [] te σ H (.tuple es) := by
  rcases h.two with q | q
  · exact .inl (evd_of h5 (by rw [w_nil]; exact q))
  · exact .inr (evd_of h5 (by rw [w_nil]; exact q))
/-- the sample of what was handed over; without examples it may be made of its places alone -/
theorem smp_run {tz : TS} {D : Ends} (hd : Dr n H l) (hn : n < 900000) (hh : HdOk K H l G M (.ref o) es) (hR : RwsM p es) (hc : es.map cpy = rs.map rowR) (g : Gr K [l] H t (rs.map rowR)) (hRw : Rws p (rs.map rowR)) (p1 : 1 ≤ p) (p3 : p ≤ 3) (hT : ∀ H, Dp K H (.ref T0) (.tuple []))
    (h2 : σ[2]? = some (some (.ref l))) (h3 : σ[3]? = some (some (.int p))) (h4 : σ[4]? = some (some (.ref t))) (h5 : σ[5]? = some (some (.ref o)))
    (k : ∀ y H', ExB l H H' → Dr (n + 1) H' l → Smp K (l :: G :: M) H' y C p (rs.map rowR) → tz D (σ.set 7 (some (.ref y))) H') :
    tSeq (tAsg (tIf (tOr (tTest (tOp (rNeD K) (tVar 4) (tLst tNil))) (tTest (tOp rEq (tCallD spDraw (tCons (tVar 2) (tCons (tC (.int 2)) tNil))) (tC (.int 0)))))
      (tMake C (spInitM K C) [] E0 (tCons (tVar 3) (tCons (tVar 5) tNil))) (tMake C (spInitM K C) [.ref T0] E0 (tCons (tVar 3) tNil))) (gName 7)) tz D σ H := by
  have mk1 : ∀ {H1 : Hp}, HdOk K H1 l G M (.ref o) es → EvS K (l :: G :: M) C p (rs.map rowR) (tMake C (spInitM K C) [] E0 (tCons (tVar 3) (tCons (tVar 5) tNil))) σ H1 := fun {H1} q => by
    have := mk_runM (K := K) (C := C) (L := l :: G :: M) (tp := tVar 3) (tl := tVar 5) (σ := σ) (H := H1) (Evl.ev_var h3) (q.evs (Evl.ev_var h5)) q.ls p1 p3 hR
    rw [hc] at this
    exact this
  have ne := ev_neNil (K := K) (te := tVar 4) (σ := σ) (Evl.ev_var h4) g hRw
  by_cases hrs : rs = []
  · subst hrs
    refine (Evl.et_test ne) H (Ex.refl H) _ fun H1 e1 => ?_
    refine ite2 (fun z => by cases z) (fun _ => ?_)
    refine draw_runJ (j := 2) (n := n) (many := 2) h2 (hd.ex e1) (by omega) Evl.ev_c (by decide) (by decide) fun r H2 r0 r1 d2 b2 => ⟨rfl, _, rfl, ?_⟩
    have b02 := (ExB.of (l := l) e1).trans b2
    have hh2 := hh.ofB b02 d2
    refine ite2 (fun _ => ?_) (fun _ => ?_)
    · exact mk1 hh2 H2 (Ex.refl _) _ fun y H3 e3 hS => k y H3 (b02.trans (ExB.of e3)) (d2.ex e3) hS
    · exact mk_run0 (L := l :: G :: M) hT (Evl.ev_var h3) hh2.ls p1 p3 H2 (Ex.refl _) _ fun y H3 e3 hS => k y H3 (b02.trans (ExB.of e3)) (d2.ex e3) hS
  · refine q_asgS (evS_if (b := true) (Evl.et_is (Evl.et_or (a := true) (b := true) (Evl.et_is (Evl.et_test ne) (by rw [decide_eq_false hrs]; rfl)) (fun z => nomatch z)) rfl) (fun _ => mk1 hh) (fun z => nomatch z)) fun y H1 e1 hS => k y H1 (ExB.of e1) ((hd.ex e1).up (Nat.le_succ n)) hS
/-- the outer one gets one more item, where it is a list -/
theorem grow_run {tz : TS} {D : Ends} {i : Nat} {its : List V} {te : TE} (ho : (o = G ∧ H G = some (.lst its)) ∨ (H o = some (.tup its))) (hz : its.length ≤ 1000) (h5 : σ[i]? = some (some (.ref o))) (h : EvD K [] te σ H d)
    (k : ∀ H', ChL (G :: M) H H' → tz D σ H') :
    tSeq (tIfS (tB (tCB (rIsi K) (tCons (tVar i) (tCons (tC (.ty "list")) tNil)))) (tDrop (tBM K "list" rAppend (tVar i) (tCons te tNil))) tNext) tz D σ H := by
  rcases ho with ⟨rfl, ho⟩ | ho
  · refine Evl.q_when (b := true) (Evl.et_B (ev_isL (Evl.ev_var h5) ho)) (fun _ H1 e1 => ?_) (fun z => nomatch z)
    refine ⟨_, h5, Or.inl ⟨rfl, its, SqL.of (e1 _ _ ho)⟩, h H1 e1 _ fun v H2 e2 hv => ⟨o, its, v, rfl, rfl, e2 _ _ (e1 _ _ ho), Evl.sz_lt (by omega), k _ ?_⟩⟩
    exact (ChL.of (e1.trans e2)).trans (ChL.upd (List.mem_cons_self ..))
  · exact Evl.q_when (b := false) (Evl.et_B (ev_isT (Evl.ev_var h5) ho)) (fun z => nomatch z) (fun _ H1 e1 => k _ (ChL.of e1))
theorem ev_isso {t7 t3 t4 : TE} (h7 : Evl.Ev t7 σ H (.ref y)) (h3 : Evl.Ev t3 σ H (.int p)) (h4 : Evl.Ev t4 σ H (.ref t)) (hS : Smp K L H y C p ds) (hR : Rws p ds) {L2 : List Addr} (g : Gr K L2 H t ds) : Evl.Ev (tCallD (spIsSo K C) (tCons t7 (tCons t3 (tCons t4 tNil)))) σ H (.bl true) := fun H1 e1 Q q =>
  h7 H1 e1 _ fun H2 e2 => h3 H2 (e1.trans e2) _ fun H3 e3 => h4 H3 ((e1.trans e2).trans e3) _ fun H4 e4 => ⟨y, t, p, ds, rfl, (hS.low (L := []) (fun _ m => nomatch m)).up (((e1.trans e2).trans e3).trans e4), hR, ((g.up (((e1.trans e2).trans e3).trans e4)).dp.up w_sub), fun H5 e5 => q H5 (((e2.trans e3).trans e4).trans e5)⟩
/-- an example in a sample -/
theorem ev_hasX {g : Bool → Bool} (h : EvD K [] te σ H d) (hx : Evl.Ev tx σ H (.ref x)) (hS : Smp K L H x C p ds) (hR : Rws p ds) (hr : RlM p d) : Evl.Ev (tOp (rInO C (spHasM K C) g) te tx) σ H (.bl (g (ds.any fun z => PyData.eqv z (cpy d)))) := fun H1 e1 Q q =>
  h H1 e1 _ fun v H2 e2 hv => hx H2 (e1.trans e2) _ fun H3 e3 => by
    have eA := (e1.trans e2).trans e3
    obtain ⟨dx, v0, hx0, _⟩ := id (hS.up eA)
    rw [w_nil] at hv
    refine ⟨x, dx, _, rfl, hx0, x, v, p, ds, d, L, rfl, hS.up eA, hR, Dp.q (hv.up e3), ⟨2, rlM_fits hr⟩, fun _ => ⟨hv.up e3, hr⟩, fun H4 e4 => ⟨_, rfl, ?_⟩⟩
    rw [rlM_isX hr, Bool.true_and]
    exact q H4 ((e2.trans e3).trans e4)
/-- what is no example -/
theorem ev_hasN {g : Bool → Bool} (h : Evl.Ev te σ H v) (hx : Evl.Ev tx σ H (.ref x)) (hv : Dq K H v d) (hS : Smp K L H x C p ds) (hR : Rws p ds) (hw : ∃ n, fits n d) (hr : isX p d = false) : Evl.Ev (tOp (rInO C (spHasM K C) g) te tx) σ H (.bl (g false)) := fun H1 e1 Q q =>
  h H1 e1 _ fun H2 e2 => hx H2 (e1.trans e2) _ fun H3 e3 => by
    have eA := (e1.trans e2).trans e3
    obtain ⟨dx, v0, hx0, _⟩ := id (hS.up eA)
    refine ⟨x, dx, _, rfl, hx0, x, v, p, ds, d, L, rfl, hS.up eA, hR, hv.up eA, hw, (fun z => by rw [hr] at z; cases z), fun H4 e4 => ⟨_, rfl, ?_⟩⟩
    rw [hr, Bool.false_and]
    exact q H4 ((e2.trans e3).trans e4)
theorem ev_inD {t4 : TE} (h : EvD K [] te σ H d) (h4 : Evl.Ev t4 σ H (.ref t)) (g : Gr K L H t ds) (sd : SeqAt.shaped d = true) (se : SeqAt.shaped (.list ds) = true) : Evl.Ev (tOp (rInD K) te t4) σ H (.bl (ds.any fun z => PyData.eqv z d)) := fun H1 e1 Q q =>
  h H1 e1 _ fun v H2 e2 hv => h4 H2 (e1.trans e2) _ fun H3 e3 => ⟨d, ds, by rw [w_nil] at hv; exact hv.up e3, (g.up ((e1.trans e2).trans e3)).dp.up w_sub, sd, se, q H3 (e2.trans e3)⟩
theorem any_row {r : RB} (h : r ∈ rs) : ((rs.map rowR).any fun z => PyData.eqv z (rowR r)) = true := by
  rw [List.any_map, List.any_eq_true]
  exact ⟨r, h, by show PyData.eqv (rowR r) (rowR r) = true; rw [eqv_row]; exact decide_eq_true rfl⟩
theorem ev_int1 {b : Bool} (h : Evl.Ev te σ H (.bl b)) : Evl.Ev (tCB (fun xs H Q => (∃ i, xs = [.int i] ∧ Q (.int i) H) ∨ ∃ k, xs = [.bl k] ∧ Q (.int (if k then 1 else 0)) H) (tCons te tNil)) σ H (.int (if b then 1 else 0)) := fun H1 e Q q => h H1 e _ fun H2 e2 => .inr ⟨b, rfl, q H2 e2⟩
theorem Gr.q (g : Gr K L H t ds) : Gq K L H t ds := by
  obtain ⟨n, xs, h1, h2⟩ := g
  exact ⟨n, xs, h1, dqa_of _ _ h2⟩
/-- xs.extend(a new list of data) -/
theorem qq_extG {tz : TS} {D : Ends} {te tb : TE} (hg : Gq K L H l ds) (ho : Evl.Ev tb σ H (.ref l)) (h : EvG K (l :: L) te σ H es) (hz : ds.length + es.length ≤ 100000) (k : ∀ H', ExB l H H' → Gq K L H' l (ds ++ es) → tz D σ H') :
    tSeq (tDrop (tBM K "list" rExtend tb (tCons te tNil))) tz D σ H := ho H (Ex.refl H) _ fun H1 e1 => by
  obtain ⟨n, xs, h1, h2⟩ := hg
  refine ⟨Or.inl ⟨rfl, xs, SqL.of (e1 l _ h1)⟩, h H1 e1 _ fun q H2 hq e2 g => ?_⟩
  obtain ⟨n2, vs, hv1, hv2⟩ := g
  have l1 := dqa_len h2
  have l2 := dpa_len hv2
  have eA := e1.trans e2
  refine ⟨l, q, xs, vs, rfl, rfl, eA l _ h1, hv1, Evl.sz_of (by omega), k _ ((ExB.of eA).trans ExB.upd) ⟨n, xs ++ vs, upd_same, ?_⟩⟩
  rw [w_upd_in (List.mem_cons_self ..)]
  exact dqa_app (h2.up (w_ex eA)) (dqa_of _ _ (hv2.up w_cons))
/-- any([x in sample for x in a list of what is no example]) -/
theorem ev_noneIn {tl : TE} {j : Nat} {vs : List Nat} (h : Evl.Ev tl σ H (.ref t)) (g : Gq K L H t es) (hz : es.length ≤ 40000) (hw : ∀ x, wipe ((wipe σ vs).set j (some x)) vs = wipe σ vs) (hj : ∀ x, ((wipe σ vs).set j (some x))[j]? = some (some x)) (hx : ∀ x' H1, Ex H H1 → Evl.Ev tx ((wipe σ vs).set j (some x')) H1 (.ref x)) {L2 : List Addr} (hS : Smp K L2 H x C p ds) (hR : Rws p ds)
    (he : ∀ d ∈ es, (∃ n, fits n d) ∧ isX p d = false) : Evl.Ev (tCB (rAny K) (tCons (tLc (iSeq K tl) (gName j) tYes (tOp (rInO C (spHasM K C) id) (tVar j) tx) vs) tNil)) σ H (.bl false) := fun H1 e1 Q q => by
  obtain ⟨n, xs, h1, h2⟩ := g
  refine (show tLc (iSeq K tl) (gName j) tYes (tOp (rInO C (spHasM K C) id) (tVar j) tx) vs σ H1 (fun v H2 => rAny K [v] H2 Q) from ?_)
  refine el_seqBq (K := K) (ds := es) (f := fun _ => false) h (.inl (SqL.of h1)) (h2.up w_sub) hz hw (fun x' d H2 hd e2 hv => ev_hasN (g := id) (Evl.ev_var (hj x')) (hx x' H2 e2) hv (hS.up e2) hR (he d hd).1 (he d hd).2) H1 e1 _ fun Dl H2 hD e2 hl => ?_
  refine ⟨Dl, es.map fun _ => false, rfl, SqL.of hl, ?_⟩
  have e : (es.map fun _ => false).any id = false := by simp
  rw [e]
  exact q H2 e2
end
end U

set_option Elab.async false
set_option linter.all false
set_option maxRecDepth 100000
set_option maxHeartbeats 4000000
/-! the law -/
namespace U
open PySem PySem.Spec PyProof.Rows L2
open Evl (Ex)
open C8 (Met Mak pe_mt pe_mt0 pe_mk)
abbrev s_law : Stmt := top 30
abbrev sc_law_N : List Str := ["_law_script", "_law_turn", "_law_draws", "_law_places", "_law_rows_here", "_law_handed_here", "_law_kept", "_law_sample", "_law_row", "_law_point_here", "_law_label", "_law_odd", "_law_thing"]
theorem sc_law : FnScope sc_law_N ["_law_script"] (defScope s_law) := ⟨rfl, rfl, rfl, by decide +kernel, rfl, by decide +kernel, by decide +kernel⟩
structure TxM (mg : Str → Option Value) : Prop extends TxH mg where
  m_repr : mg "repr" = none
/-- what is no example, for a number of places -/
def oddD (p : Int) : List PyData := [.none, .int 5, .str "ab", .list [], .tuple [], .dict [], .tuple [.tuple ((List.replicate p.toNat (0 : Int)).map .int)], .tuple [.tuple ((List.replicate (p + 1).toNat (0 : Int)).map .int), .bool true], .tuple [.str "ab", .bool true], .tuple [.none, .bool false]]
def numR (r : RB) : PyData := .tuple [.tuple (r.1.map .int), .int (if r.2 then 1 else 0)]
theorem EvD.q {K : PySem.W.Frag} {L : List Addr} {te : TE} {σ : L2.St} {H : Hp} {d : PyData} (h : EvD K L te σ H d) : EvQ K L te σ H d := fun H1 e Q q => h H1 e Q fun v H2 e2 hv => q v H2 e2 hv.q
theorem evq_dnew {K : PySem.W.Frag} {σ : L2.St} {H : Hp} {L : List Addr} (hL : Hid L H) : EvQ K L tDNewK σ H (.dict []) := fun H1 e Q q p hp => q (.ref p) _ (Ex.new hp) (.dct (w_new (hid_ex e hL) hp))
theorem fits_small : ∀ {p : Int}, 1 ≤ p → p ≤ 3 → ∀ d ∈ oddD p, (∃ n, fits n d) ∧ isX p d = false := by
  intro p p1 p3 d hd
  have zs : ∀ k : Int, 1 ≤ k → k ≤ 4 → fits 1 (.tuple ((List.replicate k.toNat (0 : Int)).map .int)) := fun k h1 h2 => (fits_ints (n := 0) (by rw [List.length_replicate]; omega)).2
  have t1 : ∀ {a : PyData}, fits 1 a → fits 2 (.tuple [a]) := fun {a} h => ⟨by show 1 ≤ 40000; omega, fun e he => by
    rw [List.mem_singleton.mp he]; exact h⟩
  have t2 : ∀ {a b : PyData}, fits 1 a → fits 1 b → fits 2 (.tuple [a, b]) := fun {a b} h h' => ⟨by show 2 ≤ 40000; omega, fun e he => by
    simp only [List.mem_cons, List.not_mem_nil, or_false] at he
    rcases he with rfl | rfl
    · exact h
    · exact h'⟩
  unfold oddD at hd
  simp only [List.mem_cons, List.not_mem_nil, or_false] at hd
  rcases hd with rfl | rfl | rfl | rfl | rfl | rfl | rfl | rfl | rfl | rfl
  · exact ⟨⟨1, trivial⟩, rfl⟩
  · exact ⟨⟨1, trivial⟩, rfl⟩
  · exact ⟨⟨1, trivial⟩, rfl⟩
  · exact ⟨⟨1, Nat.zero_le _, fun _ h => nomatch h⟩, rfl⟩
  · exact ⟨⟨1, Nat.zero_le _, fun _ h => nomatch h⟩, rfl⟩
  · exact ⟨⟨1, rfl⟩, rfl⟩
  · exact ⟨⟨2, t1 (zs p p1 (by omega))⟩, rfl⟩
  · refine ⟨⟨2, t2 (zs (p + 1) (by omega) (by omega)) trivial⟩, ?_⟩
    show (decide ((((List.replicate (p + 1).toNat (0 : Int)).map PyData.int).length : Int) = p) && _ && _) = false
    rw [decide_eq_false (by rw [List.length_map, List.length_replicate]; omega)]
    rfl
  · exact ⟨⟨2, t2 trivial trivial⟩, rfl⟩
  · exact ⟨⟨2, t2 trivial trivial⟩, rfl⟩
theorem num_no {p : Int} {d : PyData} {r : RB} (h : Rw p (rowR r)) : (∃ n, fits n (numR r)) ∧ isX p (numR r) = false := by
  refine ⟨⟨2, by show 2 ≤ 40000; omega, fun e he => ?_⟩, ?_⟩
  · simp only [List.mem_cons, List.not_mem_nil, or_false] at he
    rcases he with rfl | rfl
    · obtain ⟨ns, b, e, _, h2, _⟩ := h
      unfold rowR rowD at e
      injection e with e
      injection e with e1 _
      injection e1 with e1
      have := congrArg List.length e1
      rw [List.length_map, List.length_map] at this
      exact (fits_ints (n := 0) (by omega)).2
    · trivial
  · show (_ && false) = false
    exact Bool.and_false _
section
variable {P : Program} {w : World} {K : PySem.W.Frag} {mg : Str → Option Value} {base : Heap} {C T0 : Addr}
theorem law_body {f fh : Addr} {fdh : FuncData} {cdv : Value} {s : Shared} {H : Hp} {a : Addr} {ns : List Int} (T : TxM mg) (hr : Room 9 (callerA.deeper (envOfC "law" (defScope s_law) s.heap.objs.size f cdv)))
    (hT : ∀ H, Dp K H (.ref T0) (.tuple [])) (N_Sample : Mak P w K mg base 5 "Sample" C (spInitM K C) []) (N_Sample0 : Mak P w K mg base 5 "Sample" C (spInitM K C) [.ref T0])
    (FH : FnOk P w K mg base CX0 5 fh fdh ["self", "thing"] (spHasM K C)) (eH : SpM K C fh "__contains__") (bH : Binds K fdh ["self", "thing"] [])
    (D_source : DefAt P w K mg base "_law_source" 1 ["_law_script", "_law_at"] (spSource K)) (D_draw : DefAt P w K mg base "_law_draw" 1 ["_law_draws", "_law_many"] spDraw)
    (D_rows : DefAt P w K mg base "_law_rows" 3 ["_law_draws", "_law_places", "_law_most", "_law_wide"] (spRows K)) (D_handed : DefAt P w K mg base "_law_handed" 3 ["_law_draws", "_law_rows_here"] (spHanded K))
    (D_is_so : DefAt P w K mg base "_law_is_so" 8 ["_law_sample", "_law_places", "_law_rows_here"] (spIsSo K C)) (D_equals : DefAt P w K mg base "_law_equals" 8 ["_law_draws", "_law_sample", "_law_places", "_law_rows_here"] (spEquals K C))
    (hS : SqL K H a (ns.map V.int)) (hlen : ns.length ≤ 63) :
    ∃ t, PSs (cxOf CX0 P w K mg base sc_law_N "law" (defScope s_law) f cdv callerA [] s H E0).nox (defBody s_law) t ∧
        t { nx := fun _ _ => V.non = V.bl true, rt := fun v _ => v = V.bl true } (L2.start sc_law_N [V.ref a]) H := by
  refine ⟨_, (pss_cons (ps_for PassesOwn.never rfl (pi_range1 (by rfl) T.m_range (pa_cons pe_int pa_nil)) (pg_name (i := 1) sc_law.nd rfl (by first | exact Or.inl rfl | exact Or.inr rfl))
      (pss_cons (ps_set (i := 2) sc_law.nd rfl (by first | exact Or.inl rfl | exact Or.inr rfl) (pe_callD D_source (by first | exact hr | exact hr.mono (by decide) | exact hr.mono (by omega)) (by rfl) (pa_cons (pv 0) (pa_cons (pv 1) pa_nil))))
      (pss_cons (ps_set (i := 3) sc_law.nd rfl (by first | exact Or.inl rfl | exact Or.inr rfl) (pe_op op_add pe_int (pe_callD D_draw (by first | exact hr | exact hr.mono (by decide) | exact hr.mono (by omega)) (by rfl) (pa_cons (pv 2) (pa_cons pe_int pa_nil)))))
      (pss_cons (ps_set (i := 4) sc_law.nd rfl (by first | exact Or.inl rfl | exact Or.inr rfl) (pe_callD D_rows (by first | exact hr | exact hr.mono (by decide) | exact hr.mono (by omega)) (by rfl) (pa_cons (pv 2) (pa_cons (pv 3) (pa_cons pe_int (pa_cons (pe_ix ix_list (pe_lst (pa_cons pe_int (pa_cons pe_int (pa_cons pe_int pa_nil)))) (pe_callD D_draw (by first | exact hr | exact hr.mono (by decide) | exact hr.mono (by omega)) (by rfl) (pa_cons (pv 2) (pa_cons pe_int pa_nil))) (fun _ _ => rfl)) pa_nil))))))
      (pss_cons (ps_set (i := 5) sc_law.nd rfl (by first | exact Or.inl rfl | exact Or.inr rfl) (pe_callD D_handed (by first | exact hr | exact hr.mono (by decide) | exact hr.mono (by omega)) (by rfl) (pa_cons (pv 2) (pa_cons (pv 4) pa_nil))))
      (pss_cons (ps_set (i := 6) sc_law.nd rfl (by first | exact Or.inl rfl | exact Or.inr rfl) (pe_callB (UG.call_reprD (UG.top_guards _) (by have := hr.un; show (callerA.deeper (envOfC "law" (defScope s_law) s.heap.objs.size f cdv)).units + 80 < cLine; omega)) (by rfl) T.m_repr (by decide +kernel) (pa_cons (pv 5) pa_nil)))
      (pss_cons (ps_set (i := 7) sc_law.nd rfl (by first | exact Or.inl rfl | exact Or.inr rfl) (pe_ifExp (PW.pt (pw_or (pt_cmpR (op_neD hr.units) (pv 4) (pe_lst pa_nil) (nomark _)) (pw_or1 (pt_cmpR op_eq (pe_callD D_draw (by first | exact hr | exact hr.mono (by decide) | exact hr.mono (by omega)) (by rfl) (pa_cons (pv 2) (pa_cons pe_int pa_nil))) pe_int (nomark _))))) (pe_mk N_Sample hr (by decide) (by rfl) (pa_cons (pv 3) (pa_cons (pv 5) pa_nil))) (pe_mk N_Sample0 hr (by decide) (by rfl) (pa_cons (pv 3) pa_nil))))
      (pss_cons (ps_if (PW.pt (pw_or (pt_cmpR op_ne (pe_callB (UG.call_reprD (UG.top_guards _) (by have := hr.un; show (callerA.deeper (envOfC "law" (defScope s_law) s.heap.objs.size f cdv)).units + 80 < cLine; omega)) (by rfl) T.m_repr (by decide +kernel) (pa_cons (pv 5) pa_nil)) (pv 6) (nomark _)) (pw_or1 (pt_not (pt_val (pe_callD D_is_so (by first | exact hr | exact hr.mono (by decide) | exact hr.mono (by omega)) (by rfl) (pa_cons (pv 7) (pa_cons (pv 3) (pa_cons (pv 4) pa_nil))))))))) (pss_one (ps_ret pe_bl)) pss_nil)
      (pss_cons (ps_for PassesOwn.never rfl (pi_seq (pv 5)) (pg_name (i := 8) sc_law.nd rfl (by first | exact Or.inl rfl | exact Or.inr rfl))
        (pss_one (ps_if (pt_val (pe_callB call_isi (by rfl) T.m_isinstance (by decide +kernel) (pa_cons (pv 8) (pa_cons (pe_bltn (v := .ty "list") (by rfl) T.m_list (by decide +kernel) rfl) pa_nil)))) (pss_one (ps_expr (pe_bm PySem.F.plainAttrs_list PySem.F.slot_list_append PySem.F.type_list_append mt_append (pv 8) (pa_cons pe_str pa_nil)))) pss_nil)))
      (pss_cons (ps_if (pt_val (pe_callB call_isi (by rfl) T.m_isinstance (by decide +kernel) (pa_cons (pv 5) (pa_cons (pe_bltn (v := .ty "list") (by rfl) T.m_list (by decide +kernel) rfl) pa_nil)))) (pss_one (ps_expr (pe_bm PySem.F.plainAttrs_list PySem.F.slot_list_append PySem.F.type_list_append mt_append (pv 5) (pa_cons (pe_tup (pa_cons (pe_op op_repA (pe_tup (pa_cons pe_int pa_nil)) (pv 3)) (pa_cons pe_bl pa_nil))) pa_nil)))) pss_nil)
      (pss_cons (ps_if (pt_not (pt_val (pe_callD D_is_so (by first | exact hr | exact hr.mono (by decide) | exact hr.mono (by omega)) (by rfl) (pa_cons (pv 7) (pa_cons (pv 3) (pa_cons (pv 4) pa_nil)))))) (pss_one (ps_ret pe_bl)) pss_nil)
      (pss_cons (ps_for PassesOwn.never rfl (pi_seq (pv 4)) (pg_tup (by rfl) (pgs_cons (pg_name (i := 9) sc_law.nd rfl (by first | exact Or.inl rfl | exact Or.inr rfl)) (pgs_cons (pg_name (i := 10) sc_law.nd rfl (by first | exact Or.inl rfl | exact Or.inr rfl)) pgs_nil)))
        (pss_cons (ps_if (PW.pt (pw_or (pt_cmpR (op_notInO FH (hr.mono (by omega)) eH bH) (pe_tup (pa_cons (pv 9) (pa_cons (pv 10) pa_nil))) (pv 7) (by rfl)) (pw_or1 (pt_cmpR (op_notInO FH (hr.mono (by omega)) eH bH) (pe_lst (pa_cons (pe_callTy call_list_of (by rfl) T.m_list (by decide +kernel) (pa_cons (pv 9) pa_nil)) (pa_cons (pv 10) pa_nil))) (pv 7) (by rfl))))) (pss_one (ps_ret pe_bl)) pss_nil)
        (pss_one (ps_if (pt_cmpR op_ne (pe_cmpR (op_inO FH (hr.mono (by omega)) eH bH) (pe_tup (pa_cons (pv 9) (pa_cons (pe_not (pv 10)) pa_nil))) (pv 7) (by rfl)) (pe_cmpR (op_inD (by have := hr.un; show (callerA.deeper (envOfC "law" (defScope s_law) s.heap.objs.size f cdv)).units + 65 < cLine; omega)) (pe_tup (pa_cons (pv 9) (pa_cons (pe_not (pv 10)) pa_nil))) (pv 4) (by rfl)) (nomark _)) (pss_one (ps_ret pe_bl)) pss_nil))))
      (pss_cons (ps_set (i := 11) sc_law.nd rfl (by first | exact Or.inl rfl | exact Or.inr rfl) (pe_lst (pa_cons pe_non (pa_cons pe_int (pa_cons pe_str (pa_cons (pe_lst pa_nil) (pa_cons (pe_tup pa_nil) (pa_cons (pe_dnewK) (pa_cons (pe_tup (pa_cons (pe_op op_repA (pe_tup (pa_cons pe_int pa_nil)) (pv 3)) pa_nil)) (pa_cons (pe_tup (pa_cons (pe_op op_repA (pe_tup (pa_cons pe_int pa_nil)) (pe_op op_add (pv 3) pe_int)) (pa_cons pe_bl pa_nil))) (pa_cons (pe_tup (pa_cons pe_str (pa_cons pe_bl pa_nil))) (pa_cons (pe_tup (pa_cons pe_non (pa_cons pe_bl pa_nil))) pa_nil))))))))))))
      (pss_cons (ps_expr (pe_bm PySem.F.plainAttrs_list PySem.F.slot_list_extend PySem.F.type_list_extend mt_extend (pv 11) (pa_cons (pe_lc (own := [("_law_point_here", 9), ("_law_label", 10)]) (g := gTup K 2 (gCons (gName 9) (gCons (gName 10) (gNil)))) (tt := tYes) (by rfl) sc_law.nd (pi_seq (pv 4)) (blkOk_by (N := sc_law_N) (sc := defScope s_law) (by decide +kernel)) (fun _ _ _ _ _ => (pg_tup (by rfl) (pgs_cons (pg_name (i := 9) sc_law.nd rfl (by first | exact Or.inl rfl | exact Or.inr rfl)) (pgs_cons (pg_name (i := 10) sc_law.nd rfl (by first | exact Or.inl rfl | exact Or.inr rfl)) pgs_nil)))) (fun _ _ _ _ _ => pts_nil) (fun _ _ _ _ _ => (pe_tup (pa_cons (pv 9) (pa_cons (pe_callTy call_int1 (by rfl) T.m_int (by decide +kernel) (pa_cons (pv 10) pa_nil)) pa_nil))))) pa_nil)))
      (pss_one (ps_if (PW.pt (pw_or (pt_val (pe_callB (cr_any rfl) (by rfl) T.m_any (by decide +kernel) (pa_cons (pe_lc (own := [("_law_thing", 12)]) (g := gName 12) (tt := tYes) (by rfl) sc_law.nd (pi_seq (pv 11)) (blkOk_by (N := sc_law_N) (sc := defScope s_law) (by decide +kernel)) (fun _ _ _ _ _ => (pg_name (i := 12) sc_law.nd rfl (by first | exact Or.inl rfl | exact Or.inr rfl))) (fun _ _ _ _ _ => pts_nil) (fun _ _ _ _ _ => (pe_cmpR (op_inO FH (hr.mono (by omega)) eH bH) (pv 12) (pv 7) (by rfl)))) pa_nil))) (pw_or1 (pt_not (pt_val (pe_callD D_equals (by first | exact hr | exact hr.mono (by decide) | exact hr.mono (by omega)) (by rfl) (pa_cons (pv 2) (pa_cons (pv 7) (pa_cons (pv 3) (pa_cons (pv 4) pa_nil)))))))))) (pss_one (ps_ret pe_bl)) pss_nil))))))))))))))))
    (pss_one (ps_ret pe_bl))), ?_⟩
  refine Evl.q_forR1 (n := 4) (Evl.ea_cons Evl.ev_c Evl.ea_nil) (by decide) (fun _ σ' H' => Ex H H' ∧ ∃ o1 o2 o3 o4 o5 o6 o7 o8 o9 o10 o11 o12, σ' = [some (.ref a), o1, o2, o3, o4, o5, o6, o7, o8, o9, o10, o11, o12])
    (fun H1 e => ⟨e, _, _, _, _, _, _, _, _, _, _, _, _, rfl⟩) ?_ ?_
  · rintro i σ' H1 hi ⟨e1, o1, o2, o3, o4, o5, o6, o7, o8, o9, o10, o11, o12, rfl⟩
    refine ⟨_, rfl, _, rfl, a, ns, i, rfl, Evl.ex_l e1 hS, hlen, by omega, fun l o hl hd => ?_⟩
    have hl0 : H l = none := Evl.fresh_back e1 hl
    have e2 : Ex H (upd H1 l o) := e1.trans (Ex.new hl)
    generalize upd H1 l o = H2 at hd e2 ⊢
    have ml : l ∈ [l] := List.mem_singleton.mpr rfl
    have hid0 : ∀ H : Hp, Hid [] H := fun H a m => nomatch m
    -- the places
    refine draw_runJ (j := 2) (n := 0) (l := l) (many := 3) (by rfl) hd (by decide) Evl.ev_c (by decide) (by decide) fun r1 H3 r10 r11 d3 b3 => ?_
    refine ⟨_, _, rfl, rfl, ?_⟩
    obtain ⟨p, hp⟩ : ∃ p : Int, p = 1 + r1 := ⟨_, rfl⟩
    show tSeq _ _ _ (List.set _ 3 (some (.int (1 + r1)))) H3
    rw [← hp]
    have p1 : 1 ≤ p := by omega
    have p3 : p ≤ 3 := by omega
    -- the rows
    refine ⟨.ref l, rfl, .int p, rfl, by show 3 ≤ sizeLine; decide, fun t ht => ?_⟩
    have eA : Ex H3 (upd H3 t (.lst [V.int 1, V.int 2, V.int 99])) := Ex.new ht
    have hA : (upd H3 t (.lst [V.int 1, V.int 2, V.int 99])) t = some (.lst [V.int 1, V.int 2, V.int 99]) := upd_same
    have tl0 : t ≠ l := fun e => d3.ne (by rw [← e]; exact ht)
    generalize upd H3 t (.lst [V.int 1, V.int 2, V.int 99]) = HA at eA hA ⊢
    refine draw_runJ (j := 2) (n := 1) (l := l) (many := 3) (by rfl) (d3.ex eA) (by decide) Evl.ev_c (by decide) (by decide) fun r2 H5 r20 r21 d5 b5 => ?_
    obtain ⟨wd, hwd, w0, w1⟩ : ∃ wd : Int, atI [V.int 1, V.int 2, V.int 99] r2 = some (.int wd) ∧ 0 ≤ wd ∧ wd ≤ 99 := by
      rcases (by omega : r2 = 0 ∨ r2 = 1 ∨ r2 = 2) with rfl | rfl | rfl
      · exact ⟨1, rfl, by decide, by decide⟩
      · exact ⟨2, rfl, by decide, by decide⟩
      · exact ⟨99, rfl, by decide, by decide⟩
    refine ⟨t, _, r2, .int wd, rfl, rfl, SqL.of (b5 t _ tl0 hA), hwd, ?_⟩
    refine ⟨l, p, 7, wd, 2, [l], rfl, d5, by decide, ml, hid1' d5.ne, p1, p3, by decide, by decide, w0, w1, fun t0 ds H6 b6 d6 g6 hz6 hw6 => ?_⟩
    have e06 : Ex H H6 := exB_new' hl0 (exB_new' hl0 (exB_new' hl0 (exB_new' hl0 e2 b3) (ExB.of eA)) b5) b6
    clear b3 b5 b6 d3 d5 eA hA tl0 ht hwd w0 w1 hd e2 r20 r21
    obtain ⟨rs, rfl⟩ := rws_rs hw6
    have hz : rs.length ≤ 7 := by rw [List.length_map] at hz6; omega
    have hRw : Rws p (rs.map rowR) := ⟨by rw [List.length_map]; omega, hw6⟩
    -- handed over
    refine ⟨_, rfl, _, rfl, l, t0, p, rs, 703, rfl, d6, by decide, g6, hRw, by omega, fun v H7 G M es b7 d7 hh7 hf7 hc hR7 => ?_⟩
    obtain ⟨o, its, rfl, ho, hpr⟩ := id hh7.ex
    have les : es.length ≤ 7 := by have := congrArg List.length hc; rw [List.length_map, List.length_map] at this; omega
    have lits := hpr.length
    refine Evl.q_asg (v := .str (hdD o G es).shown) (ev_reprH (Evl.ev_var (v := .ref o) rfl) hh7 hR7 (by omega)) fun H8 e8 => ?_
    have d8 := d7.ex e8
    have b68 := b7.trans (ExB.of e8)
    have hh8 := hh7.ofB (ExB.of e8) d8
    -- the sample
    refine smp_run (C := C) (T0 := T0) (n := 1003) d8 (by decide) hh8 hR7 hc (g6.exB b68 ml) hRw p1 p3 hT rfl rfl rfl rfl fun y H9 b9 d9 hS9 => ?_
    have b69 := b68.trans b9
    have hh9 := hh8.ofB b9 d9
    have g9 := g6.exB b69 ml
    have yL : y ∉ l :: G :: M := fun m => by
      obtain ⟨xs, q⟩ := hh9.ls y m
      obtain ⟨dx, v0, q2, _⟩ := hS9
      rw [q] at q2
      cases q2
    clear hh7 hh8 b68 d8 e8 b9 b7 d7
    refine Evl.q_when (b := false) (Evl.et_is (Evl.et_or (a := false) (b := false) (Evl.et_is (Evl.et_test (Evl.ev_op (ev_reprH (Evl.ev_var (v := .ref o) rfl) hh9 hR7 (by omega)) (Evl.ev_var rfl) (Evl.rv_ne rfl))) (by simp)) fun _ => Evl.et_is (Evl.et_not (a := true) (Evl.et_B (ev_isso (y := y) (t := t0) (p := p) (Evl.ev_var rfl) (Evl.ev_var rfl) (Evl.ev_var rfl) hS9 hRw g9))) rfl) rfl) (fun z => nomatch z) (fun _ H10 e10 => ?_)
    have hh10 := hh9.ofB (ExB.of e10) (d9.ex e10)
    -- changed behind
    refine more_run (K := K) (H := H10) (j := 8) (i := 5) hh10 (by omega) (fun σ' => ∃ o8, σ' = [some (.ref a), some (.int (i : Int)), some (.ref l), some (.int p), some (.ref t0), some (.ref o), some (.str (hdD o G es).shown), some (.ref y), o8, o9, o10, o11, o12]) ⟨_, rfl⟩ (by rintro σ' ⟨_, rfl⟩; rfl) (by rintro σ' x ⟨_, rfl⟩; exact ⟨_, rfl⟩) (by rintro σ' x ⟨_, rfl⟩; rfl) ?_
    rintro σ' H11 ⟨o8', rfl⟩ c11
    have oM : ∀ (its : List V), ((o = G ∧ H9 G = some (.lst its)) ∨ (o ∉ l :: G :: M ∧ H9 o = some (.tup its))) → ((o = G ∧ H11 G = some (.lst its)) ∨ (H11 o = some (.tup its))) := fun its q => q.imp (fun z => ⟨z.1, c11 _ _ hh10.gm (e10 _ _ z.2)⟩) (fun z => c11 _ _ (fun m => z.1 (List.mem_cons_of_mem _ (List.mem_cons_of_mem _ m))) (e10 _ _ z.2))
    obtain ⟨o', its', eo', ho', hpr'⟩ := id hh9.ex
    cases eo'
    have lits' := hpr'.length
    have d11 : Dr 1004 H11 l := (d9.ex e10).ch c11 hh10.lm
    refine grow_run (K := K) (H := H11) (i := 5) (G := G) (M := M) (d := .tuple [.tuple ((List.replicate p.toNat (0 : Int)).map .int), .bool true]) (oM _ ho') (by omega) rfl (evd_tup (hid0 _) (evds_cons (evd_zeros (k := p) (hid0 _) (Evl.ev_var (v := .int p) rfl) p1 (by omega)) (evds_cons evd_bl evds_nil)) (by show 2 ≤ 100000; omega)) fun H12 c12 => ?_
    have c912 : ChL (G :: M) H9 H12 := ((ChL.of e10).trans (c11.more fun b m => List.mem_cons_of_mem _ m)).trans c12
    have lGM : l ∉ G :: M := fun m => by
      rcases List.mem_cons.mp m with z | m
      · exact hh9.lg z
      · exact hh9.lm m
    have d12 : Dr 1004 H12 l := d11.ch c12 lGM
    have hS12 : Smp K [l] H12 y C p (rs.map rowR) := (hS9.ch (c912.more fun b m => List.mem_cons_of_mem _ m) yL).low fun b m => by
      rw [List.mem_singleton.mp m]
      exact List.mem_cons_self ..
    have b612 : ExB l H6 H12 := exB_ch hf7 b69 c912
    have g12 := g6.exB b612 ml
    clear hh9 hh10 hS9 g9 d9 e10 c11 c12 c912 oM d11 ho' hpr' ho hpr b69 yL lGM hf7
    refine Evl.q_when (b := false) (Evl.et_is (Evl.et_not (a := true) (Evl.et_B (ev_isso (y := y) (t := t0) (p := p) (Evl.ev_var rfl) (Evl.ev_var rfl) (Evl.ev_var rfl) hS12 hRw g12))) rfl) (fun z => nomatch z) (fun _ H13 e13 => ?_)
    replace hS12 := hS12.up e13
    replace g12 := g12.up e13
    replace d12 := d12.ex e13
    replace b612 := b612.trans (ExB.of e13)
    clear e13
    -- each example, asked for
    obtain ⟨_, xs, hxT, hxs⟩ := id g12
    let Pv2 : Nat → L2.St → Hp → Prop := fun _ σ' H' => Ex H13 H' ∧ ∃ o9 o10, σ' = [some (.ref a), some (.int (i : Int)), some (.ref l), some (.int p), some (.ref t0), some (.ref o), some (.str (hdD o G es).shown), some (.ref y), o8', o9, o10, o11, o12]
    refine ⟨_, rfl, t0, rfl, .inl ⟨⟨xs, SqL.of hxT⟩, for_it (walk_list (xs := xs)) Pv2 ⟨Ex.refl _, _, _, rfl⟩ (fun j σ' H' _ pv => SqL.of (pv.1 t0 _ hxT)) (fun j u σ' HL HM hj pv yp => ?_) (fun σ' H14 pv => ?_)⟩⟩
    · obtain ⟨rfl, hu⟩ := yp
      obtain ⟨eL, o9', o10', rfl⟩ := pv
      obtain ⟨d, hd1, hd2⟩ := dpa_get hxs hu
      rw [List.getElem?_map] at hd1
      obtain ⟨r, hr1, rfl⟩ := Option.map_eq_some_iff.mp hd1
      have hmem := List.mem_of_getElem? hr1
      have hd3 : Dp K HM u (rowR r) := (hd2.up (w_ex eL)).up w_sub
      have hSM := hS12.up eL
      have gM := g12.up eL
      obtain ⟨a2, v1, v2, rfl, hs2, q1, q2⟩ : ∃ a2 v1 v2, u = .ref a2 ∧ SqT K HM a2 [v1, v2] ∧ Dp K HM v1 (.tuple (r.1.map .int)) ∧ v2 = .bl r.2 := by
        cases hd3 with
        | @tup a zs _ hs ha =>
          cases ha with
          | @cons z1 _ _ _ w1 rr =>
            cases rr with
            | @cons z2 _ _ _ w2 rr2 =>
              cases rr2
              cases w2
              exact ⟨a, z1, _, rfl, hs, w1, rfl⟩
      subst q2
      refine ⟨a2, [v1, .bl r.2], rfl, hs2, rfl, v1, [.bl r.2], rfl, .bl r.2, [], rfl, rfl, ?_⟩
      have hX := hw6 _ (List.mem_map.mpr ⟨r, hmem, rfl⟩)
      obtain ⟨nr, br, er, hn1, hn2, hn3⟩ := id hX
      obtain ⟨er1, er2⟩ : nr = r.1 ∧ br = r.2 := by
        have := eqv_row (nr, br) r
        have e2 : rowR (nr, br) = rowR r := er.symm
        rw [e2, eqv_row, decide_eq_true rfl] at this
        have := of_decide_eq_true this.symm
        rw [← this]
        exact ⟨rfl, rfl⟩
      subst er1 er2
      have rl : ∀ o i b, RlM p (rowM o i r.1 b) := fun o i b => ⟨o, i, r.1, b, rfl, hn1, hn2, hn3⟩
      have h1 : ∀ {L : List Addr} {H : Hp}, Ex HM H → EvD K [] (tVar 9) [some (.ref a), some (.int (i : Int)), some (.ref l), some (.int p), some (.ref t0), some (.ref o), some (.str (hdD o G es).shown), some (.ref y), o8', some v1, some (.bl r.2), o11, o12] H (.tuple (r.1.map .int)) := fun {L H} e => evd_of (Evl.ev_var rfl) (by rw [w_nil]; exact q1.up e)
      have t1 : ((rs.map rowR).any fun z => PyData.eqv z (cpy (rowM true true r.1 r.2))) = true := by rw [cpy_M]; exact any_row hmem
      have t2 : ((rs.map rowR).any fun z => PyData.eqv z (cpy (rowM false false r.1 r.2))) = true := by rw [cpy_M]; exact any_row hmem
      refine Evl.q_when (b := false) (Evl.et_is (Evl.et_or (a := false) (b := false) (Evl.et_is (Evl.et_test (ev_hasX (g := not) (d := rowM true true r.1 r.2) (evd_tup (hid0 _) (evds_cons (h1 (L := []) (Ex.refl _)) (evds_cons (evd_evB (Evl.ev_var rfl)) evds_nil)) (by show 2 ≤ 100000; omega)) (Evl.ev_var (v := .ref y) rfl) hSM hRw (rl _ _ _))) (by rw [t1]; rfl))
        fun _ => Evl.et_is (Evl.et_test (ev_hasX (g := not) (d := rowM false false r.1 r.2) (evd_lst (hid0 _) (evds_cons ((eg_list (ds := r.1.map .int) (Evl.ev_var (v := v1) rfl) (.inr (by rw [w_nil]; exact q1)) (hid0 _)).dat) (evds_cons (evd_evB (Evl.ev_var rfl)) evds_nil)) (by show 2 ≤ 100000; omega)) (Evl.ev_var (v := .ref y) rfl) hSM hRw (rl _ _ _))) (by rw [t2]; rfl)) rfl) (fun z => nomatch z) (fun _ HN eN => ?_)
      have t3 : ((rs.map rowR).any fun z => PyData.eqv z (cpy (rowM true true r.1 (!r.2)))) = (rs.map rowR).any fun z => PyData.eqv z (rowM true true r.1 (!r.2)) := by rw [cpy_M]; rfl
      have tt : ∀ H, Ex HM H → EvD K [] (tTup (tCons (tVar 9) (tCons (tNotV (tVar 10)) tNil))) [some (.ref a), some (.int (i : Int)), some (.ref l), some (.int p), some (.ref t0), some (.ref o), some (.str (hdD o G es).shown), some (.ref y), o8', some v1, some (.bl r.2), o11, o12] H (rowM true true r.1 (!r.2)) := fun H e => evd_tup (hid0 _) (evds_cons (h1 (L := []) e) (evds_cons (evd_evB (Evl.ev_notV (Evl.ev_var rfl))) evds_nil)) (by show 2 ≤ 100000; omega)
      refine Evl.s_when (b := false) (Evl.et_is (Evl.et_test (ev_neB (ev_hasX (g := id) (tt _ eN) (Evl.ev_var (v := .ref y) rfl) (hSM.up eN) hRw (rl _ _ _)) (ev_inD (tt _ eN) (Evl.ev_var (v := .ref t0) rfl) (gM.up eN) (rowD_shaped r.1 (!r.2)) hRw.shaped.2))) (by rw [t3]; simp)) (fun z => nomatch z) (fun _ HO eO => ⟨eL.trans (eN.trans eO), _, _, rfl⟩)
    · obtain ⟨eL, o9', o10', rfl⟩ := pv
      have hS14 := hS12.up eL
      have g14 := g12.up eL
      have d14 := d12.ex eL
      have b614 := b612.trans (ExB.of (l := l) eL)
      clear hS12 g12 d12 b612 hxs hxT
      -- what is no example
      have hl14 : Hid [l] H14 := hid1' d14.ne
      refine qq_lst (ds := oddD p) hl14 (evqs_cons evq_non (evqs_cons evq_int (evqs_cons evq_str (evqs_cons (evq_lst hl14 evqs_nil (by simp)) (evqs_cons (evq_tup hl14 evqs_nil (by simp)) (evqs_cons (evq_dnew hl14) (evqs_cons (evq_tup hl14 (evqs_cons (EvD.q (evd_zeros (k := p) hl14 (Evl.ev_var (v := .int p) rfl) p1 (by omega))) evqs_nil) (by simp))
        (evqs_cons (evq_tup hl14 (evqs_cons (EvD.q (evd_zeros (k := p + 1) hl14 (Evl.ev_op (Evl.ev_var (v := .int p) rfl) Evl.ev_c (Evl.rv_I0 (g := fun i j => .int (i + j)))) (by omega) (by omega))) (evqs_cons evq_bl evqs_nil)) (by simp)) (evqs_cons (evq_tup hl14 (evqs_cons evq_str (evqs_cons evq_bl evqs_nil)) (by simp)) (evqs_cons (evq_tup hl14 (evqs_cons evq_non (evqs_cons evq_bl evqs_nil)) (by simp)) evqs_nil)))))))))) (by show 10 ≤ 100000; omega) fun od H15 hod e15 god => ?_
      obtain ⟨_, xs5, hx4, hxs4⟩ := id g14
      have hx5 := e15 _ _ hx4
      have hxs5 : DpAll K (W [od, l] H15) xs5 (rs.map rowR) := (hxs4.up w_cons).up (w_past hod e15)
      have hLod : Hid [od, l] H15 := fun b m => by
        rcases List.mem_cons.mp m with z | m
        · rw [z]; exact god.ne
        · exact hid_ex e15 hl14 b m
      let nm : PyData → PyData := fun d => match d with | .tuple [a, .bool b] => .tuple [a, .int (if b then 1 else 0)] | d => d
      refine qq_extG (K := K) (L := [l]) (es := (rs.map rowR).map nm) god (Evl.ev_var (v := .ref od) rfl) (eg_pairs (K := K) (L := [od, l]) (vs := [9, 10]) (j1 := 9) (j2 := 10) (ds := rs.map rowR) (g := nm) (Evl.ev_var (v := .ref t0) rfl) (.inl (SqL.of hx5)) hxs5 hLod (by rw [List.length_map]; omega) (fun d hd => ?_) (fun _ _ => rfl) (fun L' u1 u2 d1 d2 H16 hmd hL' e16 hu1 hu2 => ?_)) (by rw [List.length_map, List.length_map]; show 10 + rs.length ≤ 100000; omega) fun H16 b16 god16 => ?_
      · obtain ⟨r, _, rfl⟩ := List.mem_map.mp hd
        exact ⟨_, _, rfl⟩
      · obtain ⟨r, hr1, hr2⟩ := List.mem_map.mp hmd
        unfold rowR rowD at hr2
        injection hr2 with hr2
        injection hr2 with hr2 hr3
        injection hr3 with hr3 _
        subst hr2 hr3
        cases hu2
        exact evd_tup hL' (evds_cons (evd_of (Evl.ev_var rfl) hu1) (evds_cons (evd_evI (ev_int1 (Evl.ev_var rfl))) evds_nil)) (by show 2 ≤ 100000; omega)
      · have e16 : Ex H14 H16 := exB_new' hod e15 b16
        have hS16 := hS14.up e16
        have all : ∀ d ∈ oddD p ++ (rs.map rowR).map nm, (∃ n, fits n d) ∧ isX p d = false := fun d hd => by
          rcases List.mem_append.mp hd with hd | hd
          · exact fits_small p1 p3 d hd
          · obtain ⟨d', hd', rfl⟩ := List.mem_map.mp hd
            obtain ⟨r, hr1, rfl⟩ := List.mem_map.mp hd'
            exact num_no (d := .none) (hw6 _ hd')
        refine (Evl.et_B (ev_noneIn (K := K) (C := C) (j := 12) (vs := [12]) (Evl.ev_var (v := .ref od) rfl) god16 (by rw [List.length_append, List.length_map, List.length_map]; show 10 + rs.length ≤ 40000; omega) (fun _ => rfl) (fun _ => rfl) (fun x' H1 _ => Evl.ev_var (v := .ref y) rfl) hS16 hRw all)) H16 (Ex.refl _) _ fun H17 e17 => ?_
        refine ite2 (fun z => nomatch z) (fun _ => ?_)
        have e47 := e16.trans e17
        refine ⟨_, rfl, _, rfl, _, rfl, _, rfl, l, y, t0, p, rs.map rowR, 1004, rfl, d14.ex e47, by decide, ⟨p1, p3⟩, hS14.up e47, hRw, by rw [List.length_map]; omega, g14.up e47, fun H18 d18 b18 => ⟨true, rfl, ?_⟩⟩
        refine ite2 (fun z => nomatch z) (fun _ => ?_)
        exact ⟨exB_new' hl0 e06 ((b614.trans (ExB.of e47)).trans b18), _, _, _, _, _, _, _, _, _, _, _, _, rfl⟩
  · rintro σ' H' _
    exact Evl.s_ret Evl.ev_c fun _ _ => rfl
end
end U

set_option Elab.async false
set_option linter.all false
set_option maxRecDepth 100000
set_option maxHeartbeats 8000000
namespace U
open PySem PySem.Spec PyProof.Rows L2
open Evl (Ex)
open C8 (Met Mak)
theorem kit_self {K : PySem.W.Frag} {C : Addr} : PySem.W.kitOne K (.ref C) (.ref C) = some true := by
  unfold PySem.W.kitOne
  rw [if_pos (by simp)]
theorem all_mk {l : PySem.W.OpenLaw} {w : World} {K : PySem.W.Frag} {h : Heap} {mg : Str → Option Value} {fa C T0 E0 fF_is_integer fF_is_label fF_is_row fF_is_row_of fF_is_number_of_places fF_is_point fF_is_example fF_copied_example fL_source fL_draw fL_pick fL_mixed fL_same fL_point fL_rows fL_handed fL_is_so fL_equals fL_law fM_init fM_examples fM_len fM_iter fM_contains fM_eq : Addr} {ocT : Value} {odT odE : Option Addr} {nT nE : Nat} {slT slE : Array (Option Value)} {tL tM : Tok}
   {ocF_is_integer kVF_is_integer dcF_is_integer pmF_is_integer cdF_is_integer ctF_is_integer : Value} {odF_is_integer anF_is_integer : Option Addr} {slF_is_integer : Array (Option Value)} {ocF_is_label kVF_is_label dcF_is_label pmF_is_label cdF_is_label ctF_is_label : Value} {odF_is_label anF_is_label : Option Addr} {slF_is_label : Array (Option Value)} {ocF_is_row kVF_is_row dcF_is_row pmF_is_row cdF_is_row ctF_is_row : Value} {odF_is_row anF_is_row : Option Addr} {slF_is_row : Array (Option Value)} {ocF_is_row_of kVF_is_row_of dcF_is_row_of pmF_is_row_of cdF_is_row_of ctF_is_row_of : Value} {odF_is_row_of anF_is_row_of : Option Addr} {slF_is_row_of : Array (Option Value)} {ocF_is_number_of_places kVF_is_number_of_places dcF_is_number_of_places pmF_is_number_of_places cdF_is_number_of_places ctF_is_number_of_places : Value} {odF_is_number_of_places anF_is_number_of_places : Option Addr} {slF_is_number_of_places : Array (Option Value)} {ocF_is_point kVF_is_point dcF_is_point pmF_is_point cdF_is_point ctF_is_point : Value} {odF_is_point anF_is_point : Option Addr} {slF_is_point : Array (Option Value)} {ocF_is_example kVF_is_example dcF_is_example pmF_is_example cdF_is_example ctF_is_example : Value} {odF_is_example anF_is_example : Option Addr} {slF_is_example : Array (Option Value)} {ocF_copied_example kVF_copied_example dcF_copied_example pmF_copied_example cdF_copied_example ctF_copied_example : Value} {odF_copied_example anF_copied_example : Option Addr} {slF_copied_example : Array (Option Value)} {ocL_source kVL_source dcL_source pmL_source cdL_source ctL_source : Value} {odL_source anL_source : Option Addr} {slL_source : Array (Option Value)} {ocL_draw kVL_draw dcL_draw pmL_draw cdL_draw ctL_draw : Value} {odL_draw anL_draw : Option Addr} {slL_draw : Array (Option Value)} {ocL_pick kVL_pick dcL_pick pmL_pick cdL_pick ctL_pick : Value} {odL_pick anL_pick : Option Addr} {slL_pick : Array (Option Value)} {ocL_mixed kVL_mixed dcL_mixed pmL_mixed cdL_mixed ctL_mixed : Value} {odL_mixed anL_mixed : Option Addr} {slL_mixed : Array (Option Value)} {ocL_same kVL_same dcL_same pmL_same cdL_same ctL_same : Value} {odL_same anL_same : Option Addr} {slL_same : Array (Option Value)} {ocL_point kVL_point dcL_point pmL_point cdL_point ctL_point : Value} {odL_point anL_point : Option Addr} {slL_point : Array (Option Value)} {ocL_rows kVL_rows dcL_rows pmL_rows cdL_rows ctL_rows : Value} {odL_rows anL_rows : Option Addr} {slL_rows : Array (Option Value)} {ocL_handed kVL_handed dcL_handed pmL_handed cdL_handed ctL_handed : Value} {odL_handed anL_handed : Option Addr} {slL_handed : Array (Option Value)} {ocL_is_so kVL_is_so dcL_is_so pmL_is_so cdL_is_so ctL_is_so : Value} {odL_is_so anL_is_so : Option Addr} {slL_is_so : Array (Option Value)} {ocL_equals kVL_equals dcL_equals pmL_equals cdL_equals ctL_equals : Value} {odL_equals anL_equals : Option Addr} {slL_equals : Array (Option Value)} {ocL_law kVL_law dcL_law pmL_law cdL_law ctL_law : Value} {odL_law anL_law : Option Addr} {slL_law : Array (Option Value)} {ocM_init kVM_init dcM_init pmM_init cdM_init ctM_init : Value} {odM_init anM_init : Option Addr} {slM_init : Array (Option Value)} {ocM_examples kVM_examples dcM_examples pmM_examples cdM_examples ctM_examples : Value} {odM_examples anM_examples : Option Addr} {slM_examples : Array (Option Value)} {ocM_len kVM_len dcM_len pmM_len cdM_len ctM_len : Value} {odM_len anM_len : Option Addr} {slM_len : Array (Option Value)} {ocM_iter kVM_iter dcM_iter pmM_iter cdM_iter ctM_iter : Value} {odM_iter anM_iter : Option Addr} {slM_iter : Array (Option Value)} {ocM_contains kVM_contains dcM_contains pmM_contains cdM_contains ctM_contains : Value} {odM_contains anM_contains : Option Addr} {slM_contains : Array (Option Value)} {ocM_eq kVM_eq dcM_eq pmM_eq cdM_eq ctM_eq : Value} {odM_eq anM_eq : Option Addr} {slM_eq : Array (Option Value)} (X : K.In h) (G : h.Ns mainGlobals mg) (hfa : mg "law" = some (.ref fa))
    (aF_is_integer : PySem.W.nsIn K mainGlobals "is_integer" = some (some (.ref fF_is_integer)))
    (lF_is_integer : K.lookup fF_is_integer = some ⟨ocF_is_integer, odF_is_integer, .func (PySem.W.fnOf "is_integer" "is_integer" (defArgs s_is_integer) (defBody s_is_integer) (defScope s_is_integer) .none kVF_is_integer dcF_is_integer pmF_is_integer anF_is_integer cdF_is_integer ctF_is_integer), slF_is_integer⟩)
    (cF_is_integer : PySem.W.codeIn K cdF_is_integer "is_integer" = true)
    (kF_is_integer : PySem.W.keepIn K (.ref fF_is_integer) = true)
    (aF_is_label : PySem.W.nsIn K mainGlobals "is_label" = some (some (.ref fF_is_label)))
    (lF_is_label : K.lookup fF_is_label = some ⟨ocF_is_label, odF_is_label, .func (PySem.W.fnOf "is_label" "is_label" (defArgs s_is_label) (defBody s_is_label) (defScope s_is_label) .none kVF_is_label dcF_is_label pmF_is_label anF_is_label cdF_is_label ctF_is_label), slF_is_label⟩)
    (cF_is_label : PySem.W.codeIn K cdF_is_label "is_label" = true)
    (kF_is_label : PySem.W.keepIn K (.ref fF_is_label) = true)
    (aF_is_row : PySem.W.nsIn K mainGlobals "is_row" = some (some (.ref fF_is_row)))
    (lF_is_row : K.lookup fF_is_row = some ⟨ocF_is_row, odF_is_row, .func (PySem.W.fnOf "is_row" "is_row" (defArgs s_is_row) (defBody s_is_row) (defScope s_is_row) .none kVF_is_row dcF_is_row pmF_is_row anF_is_row cdF_is_row ctF_is_row), slF_is_row⟩)
    (cF_is_row : PySem.W.codeIn K cdF_is_row "is_row" = true)
    (kF_is_row : PySem.W.keepIn K (.ref fF_is_row) = true)
    (aF_is_row_of : PySem.W.nsIn K mainGlobals "is_row_of" = some (some (.ref fF_is_row_of)))
    (lF_is_row_of : K.lookup fF_is_row_of = some ⟨ocF_is_row_of, odF_is_row_of, .func (PySem.W.fnOf "is_row_of" "is_row_of" (defArgs s_is_row_of) (defBody s_is_row_of) (defScope s_is_row_of) .none kVF_is_row_of dcF_is_row_of pmF_is_row_of anF_is_row_of cdF_is_row_of ctF_is_row_of), slF_is_row_of⟩)
    (cF_is_row_of : PySem.W.codeIn K cdF_is_row_of "is_row_of" = true)
    (kF_is_row_of : PySem.W.keepIn K (.ref fF_is_row_of) = true)
    (aF_is_number_of_places : PySem.W.nsIn K mainGlobals "is_number_of_places" = some (some (.ref fF_is_number_of_places)))
    (lF_is_number_of_places : K.lookup fF_is_number_of_places = some ⟨ocF_is_number_of_places, odF_is_number_of_places, .func (PySem.W.fnOf "is_number_of_places" "is_number_of_places" (defArgs s_is_number_of_places) (defBody s_is_number_of_places) (defScope s_is_number_of_places) .none kVF_is_number_of_places dcF_is_number_of_places pmF_is_number_of_places anF_is_number_of_places cdF_is_number_of_places ctF_is_number_of_places), slF_is_number_of_places⟩)
    (cF_is_number_of_places : PySem.W.codeIn K cdF_is_number_of_places "is_number_of_places" = true)
    (kF_is_number_of_places : PySem.W.keepIn K (.ref fF_is_number_of_places) = true)
    (aF_is_point : PySem.W.nsIn K mainGlobals "is_point" = some (some (.ref fF_is_point)))
    (lF_is_point : K.lookup fF_is_point = some ⟨ocF_is_point, odF_is_point, .func (PySem.W.fnOf "is_point" "is_point" (defArgs s_is_point) (defBody s_is_point) (defScope s_is_point) .none kVF_is_point dcF_is_point pmF_is_point anF_is_point cdF_is_point ctF_is_point), slF_is_point⟩)
    (cF_is_point : PySem.W.codeIn K cdF_is_point "is_point" = true)
    (kF_is_point : PySem.W.keepIn K (.ref fF_is_point) = true)
    (aF_is_example : PySem.W.nsIn K mainGlobals "is_example" = some (some (.ref fF_is_example)))
    (lF_is_example : K.lookup fF_is_example = some ⟨ocF_is_example, odF_is_example, .func (PySem.W.fnOf "is_example" "is_example" (defArgs s_is_example) (defBody s_is_example) (defScope s_is_example) .none kVF_is_example dcF_is_example pmF_is_example anF_is_example cdF_is_example ctF_is_example), slF_is_example⟩)
    (cF_is_example : PySem.W.codeIn K cdF_is_example "is_example" = true)
    (kF_is_example : PySem.W.keepIn K (.ref fF_is_example) = true)
    (aF_copied_example : PySem.W.nsIn K mainGlobals "copied_example" = some (some (.ref fF_copied_example)))
    (lF_copied_example : K.lookup fF_copied_example = some ⟨ocF_copied_example, odF_copied_example, .func (PySem.W.fnOf "copied_example" "copied_example" (defArgs s_copied_example) (defBody s_copied_example) (defScope s_copied_example) .none kVF_copied_example dcF_copied_example pmF_copied_example anF_copied_example cdF_copied_example ctF_copied_example), slF_copied_example⟩)
    (cF_copied_example : PySem.W.codeIn K cdF_copied_example "copied_example" = true)
    (kF_copied_example : PySem.W.keepIn K (.ref fF_copied_example) = true)
    (aL_source : PySem.W.nsIn K mainGlobals "_law_source" = some (some (.ref fL_source)))
    (lL_source : K.lookup fL_source = some ⟨ocL_source, odL_source, .func (PySem.W.fnOf "_law_source" "_law_source" (defArgs s_source) (defBody s_source) (defScope s_source) .none kVL_source dcL_source pmL_source anL_source cdL_source ctL_source), slL_source⟩)
    (cL_source : PySem.W.codeIn K cdL_source "_law_source" = true)
    (kL_source : PySem.W.keepIn K (.ref fL_source) = true)
    (aL_draw : PySem.W.nsIn K mainGlobals "_law_draw" = some (some (.ref fL_draw)))
    (lL_draw : K.lookup fL_draw = some ⟨ocL_draw, odL_draw, .func (PySem.W.fnOf "_law_draw" "_law_draw" (defArgs s_draw) (defBody s_draw) (defScope s_draw) .none kVL_draw dcL_draw pmL_draw anL_draw cdL_draw ctL_draw), slL_draw⟩)
    (cL_draw : PySem.W.codeIn K cdL_draw "_law_draw" = true)
    (kL_draw : PySem.W.keepIn K (.ref fL_draw) = true)
    (aL_pick : PySem.W.nsIn K mainGlobals "_law_pick" = some (some (.ref fL_pick)))
    (lL_pick : K.lookup fL_pick = some ⟨ocL_pick, odL_pick, .func (PySem.W.fnOf "_law_pick" "_law_pick" (defArgs s_pick) (defBody s_pick) (defScope s_pick) .none kVL_pick dcL_pick pmL_pick anL_pick cdL_pick ctL_pick), slL_pick⟩)
    (cL_pick : PySem.W.codeIn K cdL_pick "_law_pick" = true)
    (kL_pick : PySem.W.keepIn K (.ref fL_pick) = true)
    (aL_mixed : PySem.W.nsIn K mainGlobals "_law_mixed" = some (some (.ref fL_mixed)))
    (lL_mixed : K.lookup fL_mixed = some ⟨ocL_mixed, odL_mixed, .func (PySem.W.fnOf "_law_mixed" "_law_mixed" (defArgs s_mixed) (defBody s_mixed) (defScope s_mixed) .none kVL_mixed dcL_mixed pmL_mixed anL_mixed cdL_mixed ctL_mixed), slL_mixed⟩)
    (cL_mixed : PySem.W.codeIn K cdL_mixed "_law_mixed" = true)
    (kL_mixed : PySem.W.keepIn K (.ref fL_mixed) = true)
    (aL_same : PySem.W.nsIn K mainGlobals "_law_same" = some (some (.ref fL_same)))
    (lL_same : K.lookup fL_same = some ⟨ocL_same, odL_same, .func (PySem.W.fnOf "_law_same" "_law_same" (defArgs s_same) (defBody s_same) (defScope s_same) .none kVL_same dcL_same pmL_same anL_same cdL_same ctL_same), slL_same⟩)
    (cL_same : PySem.W.codeIn K cdL_same "_law_same" = true)
    (kL_same : PySem.W.keepIn K (.ref fL_same) = true)
    (aL_point : PySem.W.nsIn K mainGlobals "_law_point" = some (some (.ref fL_point)))
    (lL_point : K.lookup fL_point = some ⟨ocL_point, odL_point, .func (PySem.W.fnOf "_law_point" "_law_point" (defArgs s_point) (defBody s_point) (defScope s_point) .none kVL_point dcL_point pmL_point anL_point cdL_point ctL_point), slL_point⟩)
    (cL_point : PySem.W.codeIn K cdL_point "_law_point" = true)
    (kL_point : PySem.W.keepIn K (.ref fL_point) = true)
    (aL_rows : PySem.W.nsIn K mainGlobals "_law_rows" = some (some (.ref fL_rows)))
    (lL_rows : K.lookup fL_rows = some ⟨ocL_rows, odL_rows, .func (PySem.W.fnOf "_law_rows" "_law_rows" (defArgs s_rows) (defBody s_rows) (defScope s_rows) .none kVL_rows dcL_rows pmL_rows anL_rows cdL_rows ctL_rows), slL_rows⟩)
    (cL_rows : PySem.W.codeIn K cdL_rows "_law_rows" = true)
    (kL_rows : PySem.W.keepIn K (.ref fL_rows) = true)
    (aL_handed : PySem.W.nsIn K mainGlobals "_law_handed" = some (some (.ref fL_handed)))
    (lL_handed : K.lookup fL_handed = some ⟨ocL_handed, odL_handed, .func (PySem.W.fnOf "_law_handed" "_law_handed" (defArgs s_handed) (defBody s_handed) (defScope s_handed) .none kVL_handed dcL_handed pmL_handed anL_handed cdL_handed ctL_handed), slL_handed⟩)
    (cL_handed : PySem.W.codeIn K cdL_handed "_law_handed" = true)
    (kL_handed : PySem.W.keepIn K (.ref fL_handed) = true)
    (aL_is_so : PySem.W.nsIn K mainGlobals "_law_is_so" = some (some (.ref fL_is_so)))
    (lL_is_so : K.lookup fL_is_so = some ⟨ocL_is_so, odL_is_so, .func (PySem.W.fnOf "_law_is_so" "_law_is_so" (defArgs s_is_so) (defBody s_is_so) (defScope s_is_so) .none kVL_is_so dcL_is_so pmL_is_so anL_is_so cdL_is_so ctL_is_so), slL_is_so⟩)
    (cL_is_so : PySem.W.codeIn K cdL_is_so "_law_is_so" = true)
    (kL_is_so : PySem.W.keepIn K (.ref fL_is_so) = true)
    (aL_equals : PySem.W.nsIn K mainGlobals "_law_equals" = some (some (.ref fL_equals)))
    (lL_equals : K.lookup fL_equals = some ⟨ocL_equals, odL_equals, .func (PySem.W.fnOf "_law_equals" "_law_equals" (defArgs s_equals) (defBody s_equals) (defScope s_equals) .none kVL_equals dcL_equals pmL_equals anL_equals cdL_equals ctL_equals), slL_equals⟩)
    (cL_equals : PySem.W.codeIn K cdL_equals "_law_equals" = true)
    (kL_equals : PySem.W.keepIn K (.ref fL_equals) = true)
    (aL_law : PySem.W.nsIn K mainGlobals "law" = some (some (.ref fL_law)))
    (lL_law : K.lookup fL_law = some ⟨ocL_law, odL_law, .func (PySem.W.fnOf "law" "law" (defArgs s_law) (defBody s_law) (defScope s_law) .none kVL_law dcL_law pmL_law anL_law cdL_law ctL_law), slL_law⟩)
    (cL_law : PySem.W.codeIn K cdL_law "law" = true)
    (kL_law : PySem.W.keepIn K (.ref fL_law) = true)
    (aC : PySem.W.nsIn K mainGlobals "Sample" = some (some (.ref C)))
    (pg : PySem.W.plainGet K C Str.empty = true)
    (hd : PySem.W.hasDictIn K C = true)
    (po : PySem.W.plainOver K C = true)
    (sa : PySem.W.findIn K (.ref C) "__setattr__" = some (some (.builtin "object.__setattr__")))
    (mk : PySem.W.makesIn K C = true)
    (kc : PySem.W.keepIn K (.ref C) = true)
    (nP : PySem.W.findIn K (.ref C) "places" = some none)
    (nQ : PySem.W.findIn K (.ref C) "_pairs" = some none)
    (ha : PySem.W.findIn K (.ref C) "__class__" = some (some (.builtin "object.__class__")))
    (hn : PySem.W.specialIn K (.builtin "object.__class__") "__get__" = some (some (.builtin "getset_descriptor.__get__")))
    (ht : PySem.W.takesIn K (.builtin "object.__class__") = some true)
    (hm : PySem.W.mroIn K C (.type "object") = some true)
    (ty : PySem.W.subIn K (.ref C) (.type "object") = some true)
    (ne : PySem.W.findIn K (.ref C) "__ne__" = some (some (.builtin "object.__ne__")))
    (icC : PySem.W.isClsIn K C = true)
    (tyC : PySem.W.typeIn K (.ref C) = some (.type "type"))
    (cL : PySem.W.nsIn K mainGlobals "LEAST_PLACES" = some (some (.int 1 tL)))
    (cM : PySem.W.nsIn K mainGlobals "MOST_PLACES" = some (some (.int 3 tM)))
    (aM_init : PySem.W.findIn K (.ref C) "__init__" = some (some (.ref fM_init)))
    (iM_init : PySem.W.isFn K (.ref fM_init) = true)
    (lM_init : K.lookup fM_init = some ⟨ocM_init, odM_init, .func (PySem.W.fnOf "__init__" "Sample.__init__" (defArgs s_Sample_init) (defBody s_Sample_init) (defScope s_Sample_init) (.ref T0) kVM_init dcM_init pmM_init anM_init cdM_init ctM_init), slM_init⟩)
    (cM_init : PySem.W.codeIn K cdM_init "Sample.__init__" = true)
    (kM_init : PySem.W.keepIn K (.ref fM_init) = true)
    (aM_examples : PySem.W.findIn K (.ref C) "examples" = some (some (.ref fM_examples)))
    (iM_examples : PySem.W.isFn K (.ref fM_examples) = true)
    (lM_examples : K.lookup fM_examples = some ⟨ocM_examples, odM_examples, .func (PySem.W.fnOf "examples" "Sample.examples" (defArgs s_Sample_examples) (defBody s_Sample_examples) (defScope s_Sample_examples) .none kVM_examples dcM_examples pmM_examples anM_examples cdM_examples ctM_examples), slM_examples⟩)
    (cM_examples : PySem.W.codeIn K cdM_examples "Sample.examples" = true)
    (kM_examples : PySem.W.keepIn K (.ref fM_examples) = true)
    (aM_len : PySem.W.findIn K (.ref C) "__len__" = some (some (.ref fM_len)))
    (iM_len : PySem.W.isFn K (.ref fM_len) = true)
    (lM_len : K.lookup fM_len = some ⟨ocM_len, odM_len, .func (PySem.W.fnOf "__len__" "Sample.__len__" (defArgs s_Sample_len) (defBody s_Sample_len) (defScope s_Sample_len) .none kVM_len dcM_len pmM_len anM_len cdM_len ctM_len), slM_len⟩)
    (cM_len : PySem.W.codeIn K cdM_len "Sample.__len__" = true)
    (kM_len : PySem.W.keepIn K (.ref fM_len) = true)
    (aM_iter : PySem.W.findIn K (.ref C) "__iter__" = some (some (.ref fM_iter)))
    (iM_iter : PySem.W.isFn K (.ref fM_iter) = true)
    (lM_iter : K.lookup fM_iter = some ⟨ocM_iter, odM_iter, .func (PySem.W.fnOf "__iter__" "Sample.__iter__" (defArgs s_Sample_iter) (defBody s_Sample_iter) (defScope s_Sample_iter) .none kVM_iter dcM_iter pmM_iter anM_iter cdM_iter ctM_iter), slM_iter⟩)
    (cM_iter : PySem.W.codeIn K cdM_iter "Sample.__iter__" = true)
    (kM_iter : PySem.W.keepIn K (.ref fM_iter) = true)
    (aM_contains : PySem.W.findIn K (.ref C) "__contains__" = some (some (.ref fM_contains)))
    (iM_contains : PySem.W.isFn K (.ref fM_contains) = true)
    (lM_contains : K.lookup fM_contains = some ⟨ocM_contains, odM_contains, .func (PySem.W.fnOf "__contains__" "Sample.__contains__" (defArgs s_Sample_contains) (defBody s_Sample_contains) (defScope s_Sample_contains) .none kVM_contains dcM_contains pmM_contains anM_contains cdM_contains ctM_contains), slM_contains⟩)
    (cM_contains : PySem.W.codeIn K cdM_contains "Sample.__contains__" = true)
    (kM_contains : PySem.W.keepIn K (.ref fM_contains) = true)
    (aM_eq : PySem.W.findIn K (.ref C) "__eq__" = some (some (.ref fM_eq)))
    (iM_eq : PySem.W.isFn K (.ref fM_eq) = true)
    (lM_eq : K.lookup fM_eq = some ⟨ocM_eq, odM_eq, .func (PySem.W.fnOf "__eq__" "Sample.__eq__" (defArgs s_Sample_eq) (defBody s_Sample_eq) (defScope s_Sample_eq) .none kVM_eq dcM_eq pmM_eq anM_eq cdM_eq ctM_eq), slM_eq⟩)
    (cM_eq : PySem.W.codeIn K cdM_eq "Sample.__eq__" = true)
    (kM_eq : PySem.W.keepIn K (.ref fM_eq) = true)
    (lT : K.lookup T0 = some ⟨ocT, odT, .seq #[.ref E0] nT, slT⟩)
    (lE : K.lookup E0 = some ⟨.type "tuple", odE, .seq #[] nE, slE⟩)
    (z_len : PySem.W.nsIn K mainGlobals "len" = some none)
    (z_int : PySem.W.nsIn K mainGlobals "int" = some none)
    (z_isinstance : PySem.W.nsIn K mainGlobals "isinstance" = some none)
    (z_list : PySem.W.nsIn K mainGlobals "list" = some none)
    (z_tuple : PySem.W.nsIn K mainGlobals "tuple" = some none)
    (z_bool : PySem.W.nsIn K mainGlobals "bool" = some none)
    (z_all : PySem.W.nsIn K mainGlobals "all" = some none)
    (z_zip : PySem.W.nsIn K mainGlobals "zip" = some none)
    (z_range : PySem.W.nsIn K mainGlobals "range" = some none)
    (z_enumerate : PySem.W.nsIn K mainGlobals "enumerate" = some none)
    (z_any : PySem.W.nsIn K mainGlobals "any" = some none)
    (z_repr : PySem.W.nsIn K mainGlobals "repr" = some none)
    (z_iter : PySem.W.nsIn K mainGlobals "iter" = some none) :
    ∀ (s : Shared) (a : Addr) (ns : List Int), s.heap = h → ns.length ≤ 63 → UG.AtTop l.prog w K mg fa a ns s := by
  have e := hfa.symm.trans (PySem.W.mg_of X G aL_law)
  cases e
  have M : ∀ {x : Str} {f : Addr}, PySem.W.nsIn K mainGlobals x = some (some (.ref f)) → mg x = some (.ref f) := fun q => PySem.W.mg_of X G q
  have TM : TxM mg := { m_len := PySem.W.mg_none_of X G z_len, m_int := PySem.W.mg_none_of X G z_int, m_isinstance := PySem.W.mg_none_of X G z_isinstance, m_list := PySem.W.mg_none_of X G z_list, m_tuple := PySem.W.mg_none_of X G z_tuple, m_bool := PySem.W.mg_none_of X G z_bool, m_all := PySem.W.mg_none_of X G z_all, m_zip := PySem.W.mg_none_of X G z_zip, m_range := PySem.W.mg_none_of X G z_range, m_enumerate := PySem.W.mg_none_of X G z_enumerate, m_any := PySem.W.mg_none_of X G z_any, m_repr := PySem.W.mg_none_of X G z_repr, c_LEAST_PLACES := ⟨_, PySem.W.mg_of X G cL⟩, c_MOST_PLACES := ⟨_, PySem.W.mg_of X G cM⟩ }
  have m_iter : mg "iter" = none := PySem.W.mg_none_of X G z_iter
  have c : Cls K C := ⟨pg, hd, po, sa⟩
  have S : SmpC K C := ⟨c, nP, nQ, kit_self, ha, hn, ht, hm⟩
  have I : ClsI K C := ⟨icC, tyC⟩
  have TH := TM.toTxH
  have T := TH.toTxF
  have GF_is_integer := fun_mk (st := s_is_integer) lF_is_integer cF_is_integer kF_is_integer
  have bF_is_integer := GF_is_integer.binds (ps := ["thing"]) fun _ _ _ _ _ _ us hl => match us, hl with | [_], _ => rfl
  have GF_is_label := fun_mk (st := s_is_label) lF_is_label cF_is_label kF_is_label
  have bF_is_label := GF_is_label.binds (ps := ["thing"]) fun _ _ _ _ _ _ us hl => match us, hl with | [_], _ => rfl
  have GF_is_row := fun_mk (st := s_is_row) lF_is_row cF_is_row kF_is_row
  have bF_is_row := GF_is_row.binds (ps := ["thing"]) fun _ _ _ _ _ _ us hl => match us, hl with | [_], _ => rfl
  have GF_is_row_of := fun_mk (st := s_is_row_of) lF_is_row_of cF_is_row_of kF_is_row_of
  have bF_is_row_of := GF_is_row_of.binds (ps := ["thing", "many"]) fun _ _ _ _ _ _ us hl => match us, hl with | [_, _], _ => rfl
  have GF_is_number_of_places := fun_mk (st := s_is_number_of_places) lF_is_number_of_places cF_is_number_of_places kF_is_number_of_places
  have bF_is_number_of_places := GF_is_number_of_places.binds (ps := ["thing"]) fun _ _ _ _ _ _ us hl => match us, hl with | [_], _ => rfl
  have GF_is_point := fun_mk (st := s_is_point) lF_is_point cF_is_point kF_is_point
  have bF_is_point := GF_is_point.binds (ps := ["thing", "places"]) fun _ _ _ _ _ _ us hl => match us, hl with | [_, _], _ => rfl
  have GF_is_example := fun_mk (st := s_is_example) lF_is_example cF_is_example kF_is_example
  have bF_is_example := GF_is_example.binds (ps := ["thing", "places"]) fun _ _ _ _ _ _ us hl => match us, hl with | [_, _], _ => rfl
  have GF_copied_example := fun_mk (st := s_copied_example) lF_copied_example cF_copied_example kF_copied_example
  have bF_copied_example := GF_copied_example.binds (ps := ["example"]) fun _ _ _ _ _ _ us hl => match us, hl with | [_], _ => rfl
  have GL_source := fun_mk (st := s_source) lL_source cL_source kL_source
  have bL_source := GL_source.binds (ps := ["_law_script", "_law_at"]) fun _ _ _ _ _ _ us hl => match us, hl with | [_, _], _ => rfl
  have GL_draw := fun_mk (st := s_draw) lL_draw cL_draw kL_draw
  have bL_draw := GL_draw.binds (ps := ["_law_draws", "_law_many"]) fun _ _ _ _ _ _ us hl => match us, hl with | [_, _], _ => rfl
  have GL_pick := fun_mk (st := s_pick) lL_pick cL_pick kL_pick
  have bL_pick := GL_pick.binds (ps := ["_law_draws", "_law_things"]) fun _ _ _ _ _ _ us hl => match us, hl with | [_, _], _ => rfl
  have GL_mixed := fun_mk (st := s_mixed) lL_mixed cL_mixed kL_mixed
  have bL_mixed := GL_mixed.binds (ps := ["_law_draws", "_law_things"]) fun _ _ _ _ _ _ us hl => match us, hl with | [_, _], _ => rfl
  have GL_same := fun_mk (st := s_same) lL_same cL_same kL_same
  have bL_same := GL_same.binds (ps := ["_law_found", "_law_due"]) fun _ _ _ _ _ _ us hl => match us, hl with | [_, _], _ => rfl
  have GL_point := fun_mk (st := s_point) lL_point cL_point kL_point
  have bL_point := GL_point.binds (ps := ["_law_draws", "_law_places", "_law_wide"]) fun _ _ _ _ _ _ us hl => match us, hl with | [_, _, _], _ => rfl
  have GL_rows := fun_mk (st := s_rows) lL_rows cL_rows kL_rows
  have bL_rows := GL_rows.binds (ps := ["_law_draws", "_law_places", "_law_most", "_law_wide"]) fun _ _ _ _ _ _ us hl => match us, hl with | [_, _, _, _], _ => rfl
  have GL_handed := fun_mk (st := s_handed) lL_handed cL_handed kL_handed
  have bL_handed := GL_handed.binds (ps := ["_law_draws", "_law_rows_here"]) fun _ _ _ _ _ _ us hl => match us, hl with | [_, _], _ => rfl
  have GL_is_so := fun_mk (st := s_is_so) lL_is_so cL_is_so kL_is_so
  have bL_is_so := GL_is_so.binds (ps := ["_law_sample", "_law_places", "_law_rows_here"]) fun _ _ _ _ _ _ us hl => match us, hl with | [_, _, _], _ => rfl
  have GL_equals := fun_mk (st := s_equals) lL_equals cL_equals kL_equals
  have bL_equals := GL_equals.binds (ps := ["_law_draws", "_law_sample", "_law_places", "_law_rows_here"]) fun _ _ _ _ _ _ us hl => match us, hl with | [_, _, _, _], _ => rfl
  have GL_law := fun_mk (st := s_law) lL_law cL_law kL_law
  have GM_examples := fun_mk (st := s_Sample_examples) lM_examples cM_examples kM_examples
  have bM_examples := GM_examples.binds (ps := ["self"]) fun _ _ _ _ _ _ us hl => match us, hl with | [_], _ => rfl
  have GM_len := fun_mk (st := s_Sample_len) lM_len cM_len kM_len
  have bM_len := GM_len.binds (ps := ["self"]) fun _ _ _ _ _ _ us hl => match us, hl with | [_], _ => rfl
  have GM_iter := fun_mk (st := s_Sample_iter) lM_iter cM_iter kM_iter
  have bM_iter := GM_iter.binds (ps := ["self"]) fun _ _ _ _ _ _ us hl => match us, hl with | [_], _ => rfl
  have GM_contains := fun_mk (st := s_Sample_contains) lM_contains cM_contains kM_contains
  have bM_contains := GM_contains.binds (ps := ["self", "thing"]) fun _ _ _ _ _ _ us hl => match us, hl with | [_, _], _ => rfl
  have GM_eq := fun_mk (st := s_Sample_eq) lM_eq cM_eq kM_eq
  have bM_eq := GM_eq.binds (ps := ["self", "other"]) fun _ _ _ _ _ _ us hl => match us, hl with | [_, _], _ => rfl
  have GD : FunD K "__init__" "Sample.__init__" (defArgs s_Sample_init) (defBody s_Sample_init) (defScope s_Sample_init) [.ref E0] [] fM_init _ := ⟨⟨_, _, _, _, _, _, _, _, _, _, rfl, lM_init, cM_init, .inr ⟨by simp, T0, _, [.ref E0], nT, rfl, lT, rfl, .cons rfl .nil⟩, .inl rfl⟩, kM_init⟩
  obtain ⟨dsv, hdv, bInit⟩ := GD.binds1 (ps := ["self", "places", "examples"]) 3 1 (by simp) rfl (fun T kV doc pm an cdv ct us its h1 h2 => match us, its, h1, h2 with | [_, _, _], [_], _, _ => ⟨_, rfl, rfl⟩)
  cases hdv
  obtain ⟨dsv0, hdv0, bInit0⟩ := GD.binds1 (ps := ["self", "places", "examples"]) 2 0 (by simp) rfl (fun T kV doc pm an cdv ct us its h1 h2 => match us, its, h1, h2 with | [_, _], [_], _, _ => ⟨_, rfl, rfl⟩)
  have hT : ∀ H, Dp K H (.ref E0) (.tuple []) := fun H => .tup (.inr ⟨_, #[], nE, lE, rfl, rfl, by simp, .nil⟩) .nil
  intro s a ns hs hlen
  subst hs
  refine UG.atTop_of (k := 12) (N := sc_law_N) (x := "_law_script") GL_law sc_law (.of_eq rfl) ⟨by decide, by decide, by decide⟩ fun base cdv H hr hS => ?_
  have D_is_integer : DefAt l.prog w K mg base "is_integer" 1 ["thing"] (spB K isI) := ⟨_, _, ok_is_integer GF_is_integer T, M aF_is_integer, kF_is_integer, bF_is_integer⟩
  have D_is_label : DefAt l.prog w K mg base "is_label" 1 ["thing"] (spB K isL) := ⟨_, _, ok_is_label GF_is_label T, M aF_is_label, kF_is_label, bF_is_label⟩
  have D_is_row : DefAt l.prog w K mg base "is_row" 1 ["thing"] (spB K isR) := ⟨_, _, ok_is_row GF_is_row T, M aF_is_row, kF_is_row, bF_is_row⟩
  have D_is_row_of : DefAt l.prog w K mg base "is_row_of" 2 ["thing", "many"] (spBp K isO) := ⟨_, _, ok_is_row_of GF_is_row_of T D_is_row, M aF_is_row_of, kF_is_row_of, bF_is_row_of⟩
  have D_num : DefAt l.prog w K mg base "is_number_of_places" 2 ["thing"] (spB K isN) := ⟨_, _, ok_is_number_of_places GF_is_number_of_places T D_is_integer, M aF_is_number_of_places, kF_is_number_of_places, bF_is_number_of_places⟩
  have D_is_point : DefAt l.prog w K mg base "is_point" 3 ["thing", "places"] (spBp K isP) := ⟨_, _, ok_is_point GF_is_point T D_is_integer D_is_row_of, M aF_is_point, kF_is_point, bF_is_point⟩
  have D_is_example : DefAt l.prog w K mg base "is_example" 4 ["thing", "places"] (spBp K isX) := ⟨_, _, ok_is_example GF_is_example T D_is_row_of D_is_point D_is_label, M aF_is_example, kF_is_example, bF_is_example⟩
  have D_copied : DefAt l.prog w K mg base "copied_example" 1 ["example"] (spCopyM K) := ⟨_, _, ok_copiedM GF_copied_example T, M aF_copied_example, kF_copied_example, bF_copied_example⟩
  have N_Sample : Mak l.prog w K mg base 5 "Sample" C (spInitM K C) [] := ⟨_, _, _, _, ⟨mk, aM_init, iM_init, kc⟩, ok_SinitM GD T S D_num D_is_row D_is_example D_copied, M aC, bInit, .nil⟩
  have N_Sample0 : Mak l.prog w K mg base 5 "Sample" C (spInitM K C) [.ref E0] := ⟨_, _, _, _, ⟨mk, aM_init, iM_init, kc⟩, ok_SinitM GD T S D_num D_is_row D_is_example D_copied, M aC, bInit0, hdv0⟩
  have M_examples : Met l.prog w K mg base 1 C "examples" (spExamples K C) [] := ⟨_, _, _, _, c, ⟨aM_examples, iM_examples, kM_examples⟩, ok_Sexamples GM_examples T S, bM_examples, .nil⟩
  have FL : FnOk l.prog w K mg base CX0 1 fM_len _ ["self"] (spLen K C) := ok_Slen GM_len T S
  have eL : SpM K C fM_len "__len__" := ⟨aM_len, iM_len⟩
  have GI : IterG l.prog w K mg base 0 C fM_iter "_pairs" := ok_Siter GM_iter m_iter S bM_iter
  have GI1 : IterG l.prog w K mg base 1 C fM_iter "_pairs" := fun A outer s H a t dx fs xs Q hr => GI A outer s H a t dx fs xs Q (hr.mono (by decide))
  have eI : SpM K C fM_iter "__iter__" := ⟨aM_iter, iM_iter⟩
  have FH : FnOk l.prog w K mg base CX0 5 fM_contains _ ["self", "thing"] (spHasM K C) := ok_ShasM GM_contains T S D_is_example D_copied
  have eH : SpM K C fM_contains "__contains__" := ⟨aM_contains, iM_contains⟩
  have FQ : FnOk l.prog w K mg base CX0 1 fM_eq _ ["self", "other"] (spEqM K C) := ok_SeqM GM_eq T S I (M aC)
  have eQ : EqC K C fM_eq := ⟨aM_eq, iM_eq, ne, ty⟩
  have D0 : DefAt l.prog w K mg base "_law_source" 1 ["_law_script", "_law_at"] (spSource K) := ⟨_, _, ok_source GL_source T.toTxB, M aL_source, kL_source, bL_source⟩
  have D1 : DefAt l.prog w K mg base "_law_draw" 1 ["_law_draws", "_law_many"] spDraw := ⟨_, _, ok_draw GL_draw T.toTxB, M aL_draw, kL_draw, bL_draw⟩
  have D2 : DefAt l.prog w K mg base "_law_pick" 2 ["_law_draws", "_law_things"] (spPickV K) := ⟨_, _, ok_pickV GL_pick T.toTxB D1, M aL_pick, kL_pick, bL_pick⟩
  have D3 : ∀ n, DefAt l.prog w K mg base "_law_same" n ["_law_found", "_law_due"] (spPrev K n) := fun n => by
    induction n with
    | zero => exact ⟨_, _, ⟨fun _ _ _ _ h => h.elim, fun _ _ _ _ _ _ _ _ _ _ _ _ _ h => h.elim⟩, M aL_same, kL_same, bL_same⟩
    | succ n ih => exact ⟨_, _, same_body GL_same T.toTxB n ih, M aL_same, kL_same, bL_same⟩
  have D4 : DefAt l.prog w K mg base "_law_point" 2 ["_law_draws", "_law_places", "_law_wide"] (spPoint K) := ⟨_, _, ok_point GL_point T D1, M aL_point, kL_point, bL_point⟩
  have D5 : DefAt l.prog w K mg base "_law_rows" 3 ["_law_draws", "_law_places", "_law_most", "_law_wide"] (spRows K) := ⟨_, _, ok_rows GL_rows T D1 D2 D4, M aL_rows, kL_rows, bL_rows⟩
  have D6 : DefAt l.prog w K mg base "_law_mixed" 2 ["_law_draws", "_law_things"] (spMixed K) := ⟨_, _, ok_mixed GL_mixed T D1, M aL_mixed, kL_mixed, bL_mixed⟩
  have D7 : DefAt l.prog w K mg base "_law_handed" 3 ["_law_draws", "_law_rows_here"] (spHanded K) := ⟨_, _, ok_handed GL_handed T D2, M aL_handed, kL_handed, bL_handed⟩
  have D8 : DefAt l.prog w K mg base "_law_is_so" 8 ["_law_sample", "_law_places", "_law_rows_here"] (spIsSo K C) := ⟨_, _, ok_isso GL_is_so T S M_examples FL eL bM_len GI eI (D3 6), M aL_is_so, kL_is_so, bL_is_so⟩
  have D9 : DefAt l.prog w K mg base "_law_equals" 8 ["_law_draws", "_law_sample", "_law_places", "_law_rows_here"] (spEquals K C) := ⟨_, _, ok_equals GL_equals TH S I FL eL bM_len FQ eQ bM_eq hT N_Sample N_Sample0 GI1 eI D6, M aL_equals, kL_equals, bL_equals⟩
  exact law_body TM (hr.mono (by decide)) hT N_Sample N_Sample0 FH eH bM_contains D0 D1 D5 D7 D8 D9 hS hlen
theorem walk {l : PySem.W.OpenLaw} {q : Program} {loose : List Str} {XP : (Str → Option Value) → Heap → Prop} {YP : World → Heap → Prop} {d : DefRec} {K : Params → PySem.W.Frag} (hn : l.most = some 63) (hdf : d.params.defaults = [])
    (hY : ∀ (w : World) (h : Heap), YP w h → (K w.params).In h)
    (F : ∀ (w : World) (mg : Str → Option Value) (fa : Addr) (h : Heap), (K w.params).In h → h.Ns mainGlobals mg → mg d.name = some (.ref fa) →
      ∀ (s : Shared) (a : Addr) (ns : List Int), s.heap = h → ns.length ≤ 63 → UG.AtTop l.prog w (K w.params) mg fa a ns s) :
    PySem.W.WalkO q loose XP YP l.row.toRowW d [] (fun f vs => PySem.call f vs) :=
  UG.walk_top (n := 63) hn (by decide) hdf hY F
end U

set_option Elab.async false
open PySem PySem.W PyProof.Rows in
set_option maxRecDepth 100000 in
set_option maxHeartbeats 0 in
theorem PySem.Challenge.cw_toldenough_k02_samples_made_holds : PySem.Challenge.rw_toldenough_k02_samples_made.Holds := by
  w_on; o_law; k_head; (case hw => w_witness2)
  k_fill
  refine U.walk (l := PySem.Challenge.rw_toldenough_k02_samples_made) rfl rfl (fun w h Y => PySem.W.kIn_of Y) ?F
  case F =>
    intro w mg fa h KX G hmg
    refine' U.all_mk KX G hmg ?aF_is_integer ?lF_is_integer ?cF_is_integer ?kF_is_integer ?aF_is_label ?lF_is_label ?cF_is_label ?kF_is_label ?aF_is_row ?lF_is_row ?cF_is_row ?kF_is_row ?aF_is_row_of ?lF_is_row_of ?cF_is_row_of ?kF_is_row_of ?aF_is_number_of_places ?lF_is_number_of_places ?cF_is_number_of_places ?kF_is_number_of_places ?aF_is_point ?lF_is_point ?cF_is_point ?kF_is_point ?aF_is_example ?lF_is_example ?cF_is_example ?kF_is_example ?aF_copied_example ?lF_copied_example ?cF_copied_example ?kF_copied_example ?aL_source ?lL_source ?cL_source ?kL_source ?aL_draw ?lL_draw ?cL_draw ?kL_draw ?aL_pick ?lL_pick ?cL_pick ?kL_pick ?aL_mixed ?lL_mixed ?cL_mixed ?kL_mixed ?aL_same ?lL_same ?cL_same ?kL_same ?aL_point ?lL_point ?cL_point ?kL_point ?aL_rows ?lL_rows ?cL_rows ?kL_rows ?aL_handed ?lL_handed ?cL_handed ?kL_handed ?aL_is_so ?lL_is_so ?cL_is_so ?kL_is_so ?aL_equals ?lL_equals ?cL_equals ?kL_equals ?aL_law ?lL_law ?cL_law ?kL_law ?aC ?pg ?hd ?po ?sa ?mk ?kc ?nP ?nQ ?ha ?hn ?ht ?hm ?ty ?ne ?icC ?tyC ?cL ?cM ?aM_init ?iM_init ?lM_init ?cM_init ?kM_init ?aM_examples ?iM_examples ?lM_examples ?cM_examples ?kM_examples ?aM_len ?iM_len ?lM_len ?cM_len ?kM_len ?aM_iter ?iM_iter ?lM_iter ?cM_iter ?kM_iter ?aM_contains ?iM_contains ?lM_contains ?cM_contains ?kM_contains ?aM_eq ?iM_eq ?lM_eq ?cM_eq ?kM_eq ?lT ?lE ?z_len ?z_int ?z_isinstance ?z_list ?z_tuple ?z_bool ?z_all ?z_zip ?z_range ?z_enumerate ?z_any ?z_repr ?z_iter
    (case aF_is_integer => k_is)
    (case lF_is_integer => k_is)
    (case cF_is_integer => k_is)
    (case kF_is_integer => k_is)
    (case aF_is_label => k_is)
    (case lF_is_label => k_is)
    (case cF_is_label => k_is)
    (case kF_is_label => k_is)
    (case aF_is_row => k_is)
    (case lF_is_row => k_is)
    (case cF_is_row => k_is)
    (case kF_is_row => k_is)
    (case aF_is_row_of => k_is)
    (case lF_is_row_of => k_is)
    (case cF_is_row_of => k_is)
    (case kF_is_row_of => k_is)
    (case aF_is_number_of_places => k_is)
    (case lF_is_number_of_places => k_is)
    (case cF_is_number_of_places => k_is)
    (case kF_is_number_of_places => k_is)
    (case aF_is_point => k_is)
    (case lF_is_point => k_is)
    (case cF_is_point => k_is)
    (case kF_is_point => k_is)
    (case aF_is_example => k_is)
    (case lF_is_example => k_is)
    (case cF_is_example => k_is)
    (case kF_is_example => k_is)
    (case aF_copied_example => k_is)
    (case lF_copied_example => k_is)
    (case cF_copied_example => k_is)
    (case kF_copied_example => k_is)
    (case aL_source => k_is)
    (case lL_source => k_is)
    (case cL_source => k_is)
    (case kL_source => k_is)
    (case aL_draw => k_is)
    (case lL_draw => k_is)
    (case cL_draw => k_is)
    (case kL_draw => k_is)
    (case aL_pick => k_is)
    (case lL_pick => k_is)
    (case cL_pick => k_is)
    (case kL_pick => k_is)
    (case aL_mixed => k_is)
    (case lL_mixed => k_is)
    (case cL_mixed => k_is)
    (case kL_mixed => k_is)
    (case aL_same => k_is)
    (case lL_same => k_is)
    (case cL_same => k_is)
    (case kL_same => k_is)
    (case aL_point => k_is)
    (case lL_point => k_is)
    (case cL_point => k_is)
    (case kL_point => k_is)
    (case aL_rows => k_is)
    (case lL_rows => k_is)
    (case cL_rows => k_is)
    (case kL_rows => k_is)
    (case aL_handed => k_is)
    (case lL_handed => k_is)
    (case cL_handed => k_is)
    (case kL_handed => k_is)
    (case aL_is_so => k_is)
    (case lL_is_so => k_is)
    (case cL_is_so => k_is)
    (case kL_is_so => k_is)
    (case aL_equals => k_is)
    (case lL_equals => k_is)
    (case cL_equals => k_is)
    (case kL_equals => k_is)
    (case aL_law => k_is)
    (case lL_law => k_is)
    (case cL_law => k_is)
    (case kL_law => k_is)
    (case aC => k_is)
    (case pg => k_is)
    (case hd => k_is)
    (case po => k_is)
    (case sa => k_is)
    (case mk => k_is)
    (case kc => k_is)
    (case nP => k_is)
    (case nQ => k_is)
    (case ha => k_is)
    (case hn => k_is)
    (case ht => k_is)
    (case hm => k_is)
    (case ty => k_is)
    (case ne => k_is)
    (case icC => k_is)
    (case tyC => k_is)
    (case cL => k_is)
    (case cM => k_is)
    (case aM_init => k_is)
    (case iM_init => k_is)
    (case lM_init => k_is)
    (case cM_init => k_is)
    (case kM_init => k_is)
    (case aM_examples => k_is)
    (case iM_examples => k_is)
    (case lM_examples => k_is)
    (case cM_examples => k_is)
    (case kM_examples => k_is)
    (case aM_len => k_is)
    (case iM_len => k_is)
    (case lM_len => k_is)
    (case cM_len => k_is)
    (case kM_len => k_is)
    (case aM_iter => k_is)
    (case iM_iter => k_is)
    (case lM_iter => k_is)
    (case cM_iter => k_is)
    (case kM_iter => k_is)
    (case aM_contains => k_is)
    (case iM_contains => k_is)
    (case lM_contains => k_is)
    (case cM_contains => k_is)
    (case kM_contains => k_is)
    (case aM_eq => k_is)
    (case iM_eq => k_is)
    (case lM_eq => k_is)
    (case cM_eq => k_is)
    (case kM_eq => k_is)
    (case lT => k_is)
    (case lE => k_is)
    (case z_len => k_is)
    (case z_int => k_is)
    (case z_isinstance => k_is)
    (case z_list => k_is)
    (case z_tuple => k_is)
    (case z_bool => k_is)
    (case z_all => k_is)
    (case z_zip => k_is)
    (case z_range => k_is)
    (case z_enumerate => k_is)
    (case z_any => k_is)
    (case z_repr => k_is)
    (case z_iter => k_is)


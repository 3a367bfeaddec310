import PyProof.Rows.All
import Wide.All
import OpenK.AllK
import Wide.FinOn
import PyProof.EqAt
import PyProof.EqKinds
import PyProof.TupleCall
import HandS.Base
import HandS.Call
import HandS.List
import HandS.Comp
import HandS.Ends
import HandS.Dict
import HandS.Iter
import HandS.Words
import HandS.WordsList
import HandS.Evl
import HandS.Zip
import HandS.IsInst
import HandS.Walk
import KE.GoesEnum
import KE.GoesMore
import HandS.Exc
import HandS.ExcOwn
import HandS.ExcInit
import HandS.ExcValue
import KE.KExcIs
import HandS.ExcField
import HandS.OwnEq
import HandS.TupAny
import HandS.Codes
import HandS.TryOnly
import HandS.WordsExc
import KE.KOpsOwn
import PyProof.InstEq
import HandS.Deep
import PyProof.P3In
import OpenK.KOps
import OpenK.KMeth
import HandS.IterVal
import HandS.Lambda
import KE.KOwnIter
import PyProof.WalksMore
import PySem.Challenge.RW_toldenough_k03_samples_refused
import HandS.ForMost
import HandS.Defaults
import HandS.Steps
import HandS.TryMany
import HandS.EndOwn
import HandS.More
import PyProof.Rows.TupMore
set_option Elab.async false
set_option linter.all false
set_option maxRecDepth 100000
set_option maxHeartbeats 2000000
namespace U
open PySem L2
open Evl (Ex)
/-! ### heaps with hidden cells -/
/-- H without the cells of L -/
def W (L : List Addr) (H : Hp) : Hp := fun a => if a ∈ L then none else H a
/-- the hidden cells stand in H -/
def Hid (L : List Addr) (H : Hp) : Prop := ∀ a ∈ L, H a ≠ none
section
variable {L : List Addr} {H H' H2 : Hp} {a p : Addr} {o u : HO}
theorem w_in (h : W L H a = some o) : H a = some o ∧ a ∉ L := by
  unfold W at h
  by_cases e : a ∈ L
  · rw [if_pos e] at h
    cases h
  · rw [if_neg e] at h
    exact ⟨h, e⟩
theorem w_of (n : a ∉ L) (h : H a = some o) : W L H a = some o := by
  unfold W
  rw [if_neg n]
  exact h
theorem w_sub : Ex (W L H) H := fun a o h => (w_in h).1
theorem w_ex (e : Ex H H') : Ex (W L H) (W L H') := fun a o h => w_of (w_in h).2 (e a o (w_in h).1)
theorem w_nil : W [] H = H := by
  funext a
  unfold W
  rw [if_neg (by simp)]
theorem hid_nil : Hid [] H := fun _ h => by cases h
theorem hid_ex (e : Ex H H') (h : Hid L H) : Hid L H' := fun a m z => by
  cases q : H a with
  | none => exact h a m q
  | some o =>
    have r := e a o q
    rw [z] at r
    cases r
theorem hid_not (h : Hid L H) (n : H p = none) : p ∉ L := fun m => h p m n
theorem w_new (h : Hid L H) (n : H p = none) : W L (upd H p o) p = some o := w_of (hid_not h n) upd_same
theorem w_upd_in (m : p ∈ L) : W L (upd H p o) = W L H := by
  funext a
  unfold W
  by_cases e : a ∈ L
  · rw [if_pos e, if_pos e]
  · rw [if_neg e, if_neg e, upd_ne (fun z => e (by rw [z]; exact m))]
theorem w_sub2 {L2 : List Addr} (s : ∀ a ∈ L, a ∈ L2) : Ex (W L2 H) (W L H) := fun a o h => w_of (fun m => (w_in h).2 (s a m)) (w_in h).1
theorem hid_upd (h : Hid L H) : Hid L (upd H p o) := fun a m z => by
  by_cases e : a = p
  · rw [e, upd_same] at z
    cases z
  · rw [upd_ne e] at z
    exact h a m z
end
/-! ### data that stands -/
section
variable {K : PySem.W.Frag} {H H' : Hp}
mutual
theorem dp_mono (e : Ex H H') : ∀ (d : PyData) (v : V), Dp K H v d → Dp K H' v d
  | .none, _, h => by cases h; exact .non
  | .bool _, _, h => by cases h; exact .bl _
  | .int _, _, h => by cases h; exact .int _
  | .str _, _, h => by cases h; exact .str _
  | .list ds, _, h => by
    cases h with
    | lst hs ha => exact .lst (Evl.ex_l e hs) (dpa_mono e ds _ ha)
  | .tuple ds, _, h => by
    cases h with
    | tup hs ha => exact .tup (Evl.ex_t e hs) (dpa_mono e ds _ ha)
  | .dict _, _, h => by cases h
theorem dpa_mono (e : Ex H H') : ∀ (ds : List PyData) (vs : List V), DpAll K H vs ds → DpAll K H' vs ds
  | [], _, h => by cases h; exact .nil
  | d :: ds, _, h => by
    cases h with
    | cons h1 h2 => exact .cons (dp_mono e d _ h1) (dpa_mono e ds _ h2)
end
theorem _root_.L2.Dp.up {v : V} {d : PyData} (h : Dp K H v d) (e : Ex H H') : Dp K H' v d := dp_mono e d v h
theorem _root_.L2.DpAll.up {vs : List V} {ds : List PyData} (h : DpAll K H vs ds) (e : Ex H H') : DpAll K H' vs ds := dpa_mono e ds vs h
theorem dpa_len : ∀ {vs : List V} {ds : List PyData}, DpAll K H vs ds → vs.length = ds.length
  | _, _, .nil => rfl
  | _, _, .cons _ t => congrArg Nat.succ (dpa_len t)
theorem dpa_get : ∀ {vs : List V} {ds : List PyData} {i : Nat} {v : V}, DpAll K H vs ds → vs[i]? = some v → ∃ d, ds[i]? = some d ∧ Dp K H v d
  | _, _, _, _, .nil, e => by simp at e
  | _, _, 0, _, .cons r _, e => by simp at e; subst e; exact ⟨_, rfl, r⟩
  | _, _, i + 1, x, .cons _ t, e => by
    obtain ⟨d, h1, h2⟩ := dpa_get (i := i) (v := x) t (by simpa using e)
    exact ⟨d, by simpa using h1, h2⟩
theorem dpa_get2 : ∀ {vs : List V} {ds : List PyData} {i : Nat} {d : PyData}, DpAll K H vs ds → ds[i]? = some d → ∃ v, vs[i]? = some v ∧ Dp K H v d
  | _, _, _, _, .nil, e => by simp at e
  | _, _, 0, _, .cons r _, e => by simp at e; subst e; exact ⟨_, rfl, r⟩
  | _, _, i + 1, x, .cons _ t, e => by
    obtain ⟨v, h1, h2⟩ := dpa_get2 (i := i) (d := x) t (by simpa using e)
    exact ⟨v, by simpa using h1, h2⟩
theorem dpa_app : ∀ {vs ws : List V} {ds es : List PyData}, DpAll K H vs ds → DpAll K H ws es → DpAll K H (vs ++ ws) (ds ++ es)
  | _, _, _, _, .nil, h => h
  | _, _, _, _, .cons r t, h => .cons r (dpa_app t h)
/-- the type's name -/
def tyOf : PyData → String
  | .none => "NoneType"
  | .bool _ => "bool"
  | .int _ => "int"
  | .str _ => "str"
  | .list _ => "list"
  | .tuple _ => "tuple"
  | .dict _ => "dict"
theorem dp_ty {v : V} {d : PyData} (h : Dp K H v d) : TyX K H v (.type (tyOf d)) := by
  cases h with
  | non => exact .base .non
  | bl b => exact .base (.bl b)
  | int i => exact .base (.int i)
  | str x => exact .base (.str x)
  | lst hs ha =>
    rcases hs with (h | ⟨o, h⟩) | ⟨o, its, n, h, c, _⟩
    · exact .base (.lst h)
    · exact .base (.frz h)
    · exact .kList h c
  | tup hs ha =>
    rcases hs with (h | ⟨o, h⟩) | ⟨o, its, n, h, c, _⟩
    · exact .base (.tup h)
    · exact .fTuple h
    · exact .kTuple h c
/-- isinstance of data: one class, several classes -/
def kitsB (a : String) : List String → Option Bool
  | [] => some false
  | n :: ns => match kitB a n with
    | some true => some true
    | some false => kitsB a ns
    | none => none
theorem kitsB_ok {a : String} : ∀ {ns : List String} {b : Bool}, kitsB a ns = some b → PySem.W.kitAny K (.type a) (ns.map Value.type) = some b
  | [], _, h => h
  | n :: ns, b, h => by
    unfold kitsB at h
    cases q : kitB a n with
    | none => rw [q] at h; cases h
    | some c =>
      rw [q] at h
      cases c with
      | true =>
        cases h
        exact kitAny_cons (kit_ty q) (fun z => by cases z) fun _ => rfl
      | false => exact kitAny_cons (kit_ty q) (fun _ => kitsB_ok h) fun z => by cases z
theorem tys_cls : ∀ {ns : List String}, Paired ClsV (ns.map V.ty) (ns.map Value.type)
  | [] => .nil
  | n :: _ => .cons (.ty n) tys_cls
end
/-! ### what isinstance answers -/
theorem isi_NoneType_list : kitB "NoneType" "list" = some false := by decide +kernel
theorem isi_NoneType_tuple : kitB "NoneType" "tuple" = some false := by decide +kernel
theorem isi_NoneType_bool : kitB "NoneType" "bool" = some false := by decide +kernel
theorem isi_NoneType_int : kitB "NoneType" "int" = some false := by decide +kernel
theorem isi_NoneType_str : kitB "NoneType" "str" = some false := by decide +kernel
theorem isi_NoneType_list_tuple : kitsB "NoneType" ["list", "tuple"] = some false := by decide +kernel
theorem isi_NoneType_bool_int : kitsB "NoneType" ["bool", "int"] = some false := by decide +kernel
theorem isi_NoneType_bool_int_list_tuple : kitsB "NoneType" ["bool", "int", "list", "tuple"] = some false := by decide +kernel
theorem isi_bool_list : kitB "bool" "list" = some false := by decide +kernel
theorem isi_bool_tuple : kitB "bool" "tuple" = some false := by decide +kernel
theorem isi_bool_bool : kitB "bool" "bool" = some true := by decide +kernel
theorem isi_bool_int : kitB "bool" "int" = some true := by decide +kernel
theorem isi_bool_str : kitB "bool" "str" = some false := by decide +kernel
theorem isi_bool_list_tuple : kitsB "bool" ["list", "tuple"] = some false := by decide +kernel
theorem isi_bool_bool_int : kitsB "bool" ["bool", "int"] = some true := by decide +kernel
theorem isi_bool_bool_int_list_tuple : kitsB "bool" ["bool", "int", "list", "tuple"] = some true := by decide +kernel
theorem isi_int_list : kitB "int" "list" = some false := by decide +kernel
theorem isi_int_tuple : kitB "int" "tuple" = some false := by decide +kernel
theorem isi_int_bool : kitB "int" "bool" = some false := by decide +kernel
theorem isi_int_int : kitB "int" "int" = some true := by decide +kernel
theorem isi_int_str : kitB "int" "str" = some false := by decide +kernel
theorem isi_int_list_tuple : kitsB "int" ["list", "tuple"] = some false := by decide +kernel
theorem isi_int_bool_int : kitsB "int" ["bool", "int"] = some true := by decide +kernel
theorem isi_int_bool_int_list_tuple : kitsB "int" ["bool", "int", "list", "tuple"] = some true := by decide +kernel
theorem isi_str_list : kitB "str" "list" = some false := by decide +kernel
theorem isi_str_tuple : kitB "str" "tuple" = some false := by decide +kernel
theorem isi_str_bool : kitB "str" "bool" = some false := by decide +kernel
theorem isi_str_int : kitB "str" "int" = some false := by decide +kernel
theorem isi_str_str : kitB "str" "str" = some true := by decide +kernel
theorem isi_str_list_tuple : kitsB "str" ["list", "tuple"] = some false := by decide +kernel
theorem isi_str_bool_int : kitsB "str" ["bool", "int"] = some false := by decide +kernel
theorem isi_str_bool_int_list_tuple : kitsB "str" ["bool", "int", "list", "tuple"] = some false := by decide +kernel
theorem isi_list_list : kitB "list" "list" = some true := by decide +kernel
theorem isi_list_tuple : kitB "list" "tuple" = some false := by decide +kernel
theorem isi_list_bool : kitB "list" "bool" = some false := by decide +kernel
theorem isi_list_int : kitB "list" "int" = some false := by decide +kernel
theorem isi_list_str : kitB "list" "str" = some false := by decide +kernel
theorem isi_list_list_tuple : kitsB "list" ["list", "tuple"] = some true := by decide +kernel
theorem isi_list_bool_int : kitsB "list" ["bool", "int"] = some false := by decide +kernel
theorem isi_list_bool_int_list_tuple : kitsB "list" ["bool", "int", "list", "tuple"] = some true := by decide +kernel
theorem isi_tuple_list : kitB "tuple" "list" = some false := by decide +kernel
theorem isi_tuple_tuple : kitB "tuple" "tuple" = some true := by decide +kernel
theorem isi_tuple_bool : kitB "tuple" "bool" = some false := by decide +kernel
theorem isi_tuple_int : kitB "tuple" "int" = some false := by decide +kernel
theorem isi_tuple_str : kitB "tuple" "str" = some false := by decide +kernel
theorem isi_tuple_list_tuple : kitsB "tuple" ["list", "tuple"] = some true := by decide +kernel
theorem isi_tuple_bool_int : kitsB "tuple" ["bool", "int"] = some false := by decide +kernel
theorem isi_tuple_bool_int_list_tuple : kitsB "tuple" ["bool", "int", "list", "tuple"] = some true := by decide +kernel
theorem isi_dict_list : kitB "dict" "list" = some false := by decide +kernel
theorem isi_dict_tuple : kitB "dict" "tuple" = some false := by decide +kernel
theorem isi_dict_bool : kitB "dict" "bool" = some false := by decide +kernel
theorem isi_dict_int : kitB "dict" "int" = some false := by decide +kernel
theorem isi_dict_str : kitB "dict" "str" = some false := by decide +kernel
theorem isi_dict_list_tuple : kitsB "dict" ["list", "tuple"] = some false := by decide +kernel
theorem isi_dict_bool_int : kitsB "dict" ["bool", "int"] = some false := by decide +kernel
theorem isi_dict_bool_int_list_tuple : kitsB "dict" ["bool", "int", "list", "tuple"] = some false := by decide +kernel
/-! ### readings -/
section
variable {K : PySem.W.Frag} {σ : L2.St} {H : Hp} {te tb : TE} {v w : V} {d e : PyData} {b : Bool}
theorem ev_isi {n : String} (h : Evl.Ev te σ H v) (hd : Dp K H v d) (hb : kitB (tyOf d) n = some b) : Evl.Ev (tCB (rIsi K) (tCons te (tCons (tC (.ty n)) tNil))) σ H (.bl b) := fun H1 e1 Q q =>
  h H1 e1 _ fun H2 e2 => ⟨v, .ty n, _, _, b, rfl, .ty n, dp_ty (Dp.up hd (e1.trans e2)), kit_ty hb, q H2 e2⟩
theorem ev_isi2 {m n : String} (h : Evl.Ev te σ H v) (hd : Dp K H v d) (hb : kitsB (tyOf d) [m, n] = some b) : Evl.Ev (tCB (rIsiT K) (tCons te (tCons (tTup (tCons (tC (.ty m)) (tCons (tC (.ty n)) tNil))) tNil))) σ H (.bl b) := fun H1 e1 Q q =>
  h H1 e1 _ fun H2 e2 => ⟨by show 2 ≤ sizeLine; decide, fun p hp => ⟨v, p, _, _, _, b, rfl, upd_same, tys_cls (ns := [m, n]), dp_ty (Dp.up hd ((e1.trans e2).trans (Ex.new hp))), kitsB_ok hb, q _ (e2.trans (Ex.new hp))⟩⟩
theorem ev_isi4 {m n k l : String} (h : Evl.Ev te σ H v) (hd : Dp K H v d) (hb : kitsB (tyOf d) [m, n, k, l] = some b) :
    Evl.Ev (tCB (rIsiT K) (tCons te (tCons (tTup (tCons (tC (.ty m)) (tCons (tC (.ty n)) (tCons (tC (.ty k)) (tCons (tC (.ty l)) tNil))))) tNil))) σ H (.bl b) := fun H1 e1 Q q =>
  h H1 e1 _ fun H2 e2 => ⟨by show 4 ≤ sizeLine; decide, fun p hp => ⟨v, p, _, _, _, b, rfl, upd_same, tys_cls (ns := [m, n, k, l]), dp_ty (Dp.up hd ((e1.trans e2).trans (Ex.new hp))), kitsB_ok hb, q _ (e2.trans (Ex.new hp))⟩⟩
theorem ev_eqD (h : Evl.Ev te σ H v) (h2 : Evl.Ev tb σ H w) (hd : Dp K H v d) (he : Dp K H w e) (sd : SeqAt.shaped d = true) (se : SeqAt.shaped e = true) : Evl.Ev (tOp (rEqD K) te tb) σ H (.bl (PyData.eqv d e)) := fun H1 e1 Q q =>
  h H1 e1 _ fun H2 e2 => h2 H2 (e1.trans e2) _ fun H3 e3 => ⟨d, e, Dp.up hd ((e1.trans e2).trans e3), Dp.up he ((e1.trans e2).trans e3), sd, se, q H3 (e2.trans e3)⟩
theorem ev_eqB {a c : Bool} (h : Evl.Ev te σ H (.bl a)) (h2 : Evl.Ev tb σ H (.bl c)) : Evl.Ev (tOp rEq te tb) σ H (.bl (decide (V.bl a = V.bl c))) := Evl.ev_op h h2 (Evl.rv_eq rfl)
theorem ev_neB {a c : Bool} (h : Evl.Ev te σ H (.bl a)) (h2 : Evl.Ev tb σ H (.bl c)) : Evl.Ev (tOp rNe te tb) σ H (.bl (!decide (V.bl a = V.bl c))) := Evl.ev_op h h2 (Evl.rv_ne rfl)
theorem ev_lenS {a : Addr} {xs : List V} (ha : Evl.Ev te σ H (.ref a)) (h : SqL K H a xs ∨ SqT K H a xs) : Evl.Ev (tCB (fun xs H Q => ∃ p ys, xs = [.ref p] ∧ (SqL K H p ys ∨ SqT K H p ys) ∧ Q (.int ys.length) H) (tCons te tNil)) σ H (.int (xs.length : Int)) := fun H1 e Q q =>
  ha H1 e _ fun H2 e2 => ⟨a, xs, rfl, h.imp (Evl.ex_l (e.trans e2)) (Evl.ex_t (e.trans e2)), q H2 e2⟩
end
/-! ### defs of the text, found by their names -/
structure DefAt (P : Program) (w : World) (K : PySem.W.Frag) (mg : Str → Option Value) (base : Heap) (x : Str) (k : Nat) (ps : List Str) (sp : Sp) : Prop where
  ex : ∃ f fd, FnOk P w K mg base CX0 k f fd ps sp ∧ mg x = some (.ref f) ∧ PySem.W.keepIn K (.ref f) = true ∧ Binds K fd ps []
theorem DefAt.imp {P : Program} {w : World} {K : PySem.W.Frag} {mg : Str → Option Value} {base : Heap} {x : Str} {k : Nat} {ps : List Str} {sp sp' : Sp} (D : DefAt P w K mg base x k ps sp) (h : ∀ vs H Q E, sp' vs H Q E → sp vs H Q E) : DefAt P w K mg base x k ps sp' := by
  obtain ⟨f, fd, F, r⟩ := D.ex
  exact ⟨f, fd, F.imp h, r⟩
theorem DefAt.mono {P : Program} {w : World} {K : PySem.W.Frag} {mg : Str → Option Value} {base : Heap} {x : Str} {k j : Nat} {ps : List Str} {sp : Sp} (D : DefAt P w K mg base x k ps sp) (h : k ≤ j) : DefAt P w K mg base x j ps sp := by
  obtain ⟨f, fd, F, r⟩ := D.ex
  exact ⟨f, fd, F.mono h, r⟩
def tCallD (sp : Sp) (t : TA) : TE := fun σ H Q => t σ H fun vs H1 => sp vs H1 Q E0
theorem pe_callD {X : Cx} {x : Str} {k : Nat} {ps : List Str} {sp : Sp} {p pos : Pos} {e : Expr} {es : List Expr} {t : TA} (D : DefAt X.prog X.w X.K X.mg X.base x k ps sp) (hr : Room k X.A) (hg : Gl X x) (ha : PA X (e :: es) t)
    (hdb : (x == ("__debug__" : Str)) = false := by decide) (he : starEach (e :: es) X.env = (false, eval e X.env) :: starEach es X.env := by rfl) (hpl : (backTo pos (starEach es X.env)).any (·.1) = false := by rfl) :
    PE X (.Call (.Name x p) (e :: es) [] pos) (tCallD sp t) := by
  obtain ⟨f, fd, F, hm, hk, hb⟩ := D.ex
  refine ⟨fun pins s σ H Q I h => (pe_call (E := E0) F hr hg hm hk hb .nil pass0 ha hdb he hpl).run pins s σ H Q I ?_⟩
  have e1 : (fun (vs : List V) (H1 : Hp) => sp (vs ++ []) H1 Q E0) = fun vs H1 => sp vs H1 Q E0 := by
    funext vs H1
    rw [List.append_nil]
  show t σ H fun vs H1 => sp (vs ++ []) H1 Q E0
  rw [e1]
  exact h
/-! ### draws -/
/-- at l the draws: three numbers; at most n drawn by the second way -/
def Dr (n : Nat) (H : Hp) (l : Addr) : Prop := ∃ x y z : Int, H l = some (.lst [.int x, .int y, .int z]) ∧ 0 ≤ x ∧ 0 ≤ y ∧ y ≤ 1099511627776 ∧ 0 ≤ z ∧ z ≤ (n : Int)
theorem Dr.up {n m : Nat} {H : Hp} {l : Addr} (h : Dr n H l) (e : n ≤ m) : Dr m H l := by
  obtain ⟨x, y, z, h1, h2, h3, h4, h5, h6⟩ := h
  exact ⟨x, y, z, h1, h2, h3, h4, h5, by omega⟩
theorem Dr.ne {n : Nat} {H : Hp} {l : Addr} (h : Dr n H l) : H l ≠ none := by
  obtain ⟨x, y, z, h1, _⟩ := h
  rw [h1]
  simp
theorem Dr.ex {n : Nat} {H H' : Hp} {l : Addr} (h : Dr n H l) (e : Ex H H') : Dr n H' l := by
  obtain ⟨x, y, z, h1, h2⟩ := h
  exact ⟨x, y, z, e _ _ h1, h2⟩
/-- all but the cell l stays -/
def ExB (l : Addr) (H H' : Hp) : Prop := ∀ a o, a ≠ l → H a = some o → H' a = some o
theorem ExB.refl (l : Addr) (H : Hp) : ExB l H H := fun _ _ _ h => h
theorem ExB.of {l : Addr} {H H' : Hp} (e : Ex H H') : ExB l H H' := fun a o _ h => e a o h
theorem ExB.trans {l : Addr} {H H1 H2 : Hp} (a : ExB l H H1) (b : ExB l H1 H2) : ExB l H H2 := fun c o n h => b c o n (a c o n h)
theorem ExB.upd {l : Addr} {H : Hp} {o : HO} : ExB l H (upd H l o) := fun a u n h => by
  rw [upd_ne n]
  exact h
theorem ExB.w {l : Addr} {L : List Addr} {H H' : Hp} (e : ExB l H H') (m : l ∈ L) : Ex (W L H) (W L H') := fun a o h => by
  obtain ⟨h1, n⟩ := w_in h
  exact w_of n (e a o (fun z => n (by rw [z]; exact m)) h1)
theorem ExB.hid {l : Addr} {L : List Addr} {H H' : Hp} (e : ExB l H H') (hl : H' l ≠ none) (h : Hid L H) : Hid L H' := fun a m => by
  by_cases q : a = l
  · rw [q]
    exact hl
  · intro z
    cases r : H a with
    | none => exact h a m r
    | some o =>
      have t := e a o q r
      rw [z] at t
      cases t
def spSource (K : PySem.W.Frag) : Sp := fun vs H Q _ => ∃ (s : Addr) (ns : List Int) (i : Nat), vs = [.ref s, .int (i : Int)] ∧ SqL K H s (ns.map V.int) ∧ ns.length ≤ 63 ∧ i ≤ 100 ∧
  ∀ l o, H l = none → Dr 0 (upd H l o) l → Q (.ref l) (upd H l o)
def spDraw : Sp := fun vs H Q _ => ∃ (l : Addr) (many : Int) (n : Nat), vs = [.ref l, .int many] ∧ Dr n H l ∧ n < 1000000 ∧ 0 < many ∧ many < 1073741824 ∧
  ∀ r o, 0 ≤ r → r < many → Dr (n + 1) (upd H l o) l → Q (.int r) (upd H l o)
def spPick (K : PySem.W.Frag) : Sp := fun vs H Q _ => ∃ (l t : Addr) (ds : List PyData) (n : Nat) (L : List Addr), vs = [.ref l, .ref t] ∧ Dr n H l ∧ n < 1000000 ∧ l ∈ L ∧ Dp K (W L H) (.ref t) (.list ds) ∧ 0 < ds.length ∧ ds.length < 1073741824 ∧
  ∀ v d o, d ∈ ds → Dp K (W L (upd H l o)) v d → Dr (n + 1) (upd H l o) l → Q v (upd H l o)
end U

set_option Elab.async false
set_option linter.all false
set_option maxRecDepth 100000
set_option maxHeartbeats 2000000
namespace U
open PySem L2
open Evl (Ex)
theorem yes_lc {σ : L2.St} {H : Hp} {A B : Hp → Prop} (h : A H) : tYes σ H (fun b H3 => if b = true then A H3 else B H3) := by
  show (if true = true then A H else B H)
  rw [if_pos rfl]
  exact h
section
variable {K : PySem.W.Frag} {a b : Addr} {xs ys : List V} {σ : L2.St} {H : Hp}
theorem walk_zipT {n : Nat} (hn : n = min xs.length ys.length) : Walk (RZ.ItzT K a b) n (fun H => SqT K H a xs ∧ SqT K H b ys) (YPair (fun i => xs[i]?) (fun i => ys[i]?)) := by
  subst hn
  refine ⟨fun i _ hi q => ?_, fun _ q => ⟨xs, ys, q.1, q.2, by omega⟩, fun i H v H' _ q y => ?_⟩
  · have h1 : i < xs.length := by omega
    have h2 : i < ys.length := by omega
    exact ⟨xs, ys, xs[i], ys[i], q.1, q.2, by simp [h1], by simp [h2]⟩
  · obtain ⟨T, x, z, h1, h2, h3, h4, h5⟩ := y
    exact ⟨T, x, z, h1, h2, h3, h4 xs q.1, h5 ys q.2⟩
/-- what a comprehension of every item has made so far -/
def Cm (H : Hp) (v : Nat → V) (Dl : Addr) (i : Nat) (H' : Hp) : Prop := H Dl = none ∧ Ex H H' ∧ H' Dl = some (.lst ((List.range i).map v))
theorem cm_0 {v : Nat → V} {Dl : Addr} (h : H Dl = none) : Cm H v Dl 0 (upd H Dl (.lst [])) := ⟨h, Ex.new h, upd_same⟩
theorem cm_turn {H' : Hp} {v : Nat → V} {Dl : Addr} {i : Nat} {te : TE} {σ2 : L2.St} (p : Cm H v Dl i H') (hi : i < 50000) (H2 : Hp) (e2 : Ex H' H2) (he : Evl.Ev te σ2 H (v i)) :
    te σ2 H2 fun y H4 => ∃ acc, H4 Dl = some (.lst acc) ∧ acc.length < sizeLine ∧ Cm H v Dl (i + 1) (upd H4 Dl (.lst (acc ++ [y]))) := by
  obtain ⟨p1, p2, p3⟩ := p
  refine he H2 (p2.trans e2) _ fun H4 e4 => ⟨_, e4 Dl _ (e2 Dl _ p3), Evl.sz_lt (by rw [List.length_map, List.length_range]; omega), p1, Evl.Ex.mut ((p2.trans e2).trans e4) p1, ?_⟩
  rw [upd_same, List.range_succ, List.map_append]
  rfl
theorem el_zip {ta : TA} {te : TE} {i1 i2 : Nat} {vs : List Nat} {v : Nat → V} (h : Evl.EvA ta σ H [.ref a, .ref b]) (hx : (SqL K H a xs ∧ SqL K H b ys) ∨ (SqT K H a xs ∧ SqT K H b ys)) (hl : xs.length = ys.length) (hz : xs.length ≤ 40000)
    (hw : ∀ x y, wipe (((wipe σ vs).set i1 (some x)).set i2 (some y)) vs = wipe σ vs)
    (he : ∀ (i : Nat) (x y : V) H1, Ex H H1 → xs[i]? = some x → ys[i]? = some y → Evl.Ev te (((wipe σ vs).set i1 (some x)).set i2 (some y)) H1 (v i)) :
    Evl.EvL (tLc (RZ.iZipA K ta) (gTup K 2 (gCons (gName i1) (gCons (gName i2) gNil))) tYes te vs) σ H ((List.range xs.length).map v) := fun H0 e0 Q q => h H0 e0 _ fun H1 e1 => by
  have turn : ∀ (Dl : Addr) (i : Nat) (x : V) (H2 H3 : Hp), i < xs.length → Cm H1 v Dl i H2 → YPair (fun i => xs[i]?) (fun i => ys[i]?) i H2 x H3 → gTup K 2 (gCons (gName i1) (gCons (gName i2) gNil)) x (wipe σ vs) H3 fun σ2 H2 => wipe σ2 vs = wipe σ vs ∧ tYes σ2 H2 fun b H3 =>
      if b = true then te σ2 H3 fun y H4 => ∃ acc, H4 Dl = some (.lst acc) ∧ acc.length < sizeLine ∧ Cm H1 v Dl (i + 1) (upd H4 Dl (.lst (acc ++ [y]))) else Cm H1 v Dl (i + 1) H3 := by
    intro Dl i x H2 H3 hi p yp
    obtain ⟨T, u, w, rfl, hT, rfl, hu, hw'⟩ := yp
    refine ⟨T, [u, w], rfl, SqT.of upd_same, rfl, u, [w], rfl, w, [], rfl, rfl, hw u w, ?_⟩
    exact yes_lc (A := fun H3 => te ((List.set (wipe σ vs) i1 (some u)).set i2 (some w)) H3 fun y H4 => ∃ acc, H4 Dl = some (.lst acc) ∧ acc.length < sizeLine ∧ Cm H1 v Dl (i + 1) (upd H4 Dl (.lst (acc ++ [y])))) (B := fun H3 => Cm H1 v Dl (i + 1) H3) <| cm_turn p (by omega) _ (Ex.new hT) (he i u w _ (e0.trans e1) hu hw')
  rcases hx with ⟨x1, x2⟩ | ⟨x1, x2⟩
  · refine ⟨a, b, xs, ys, rfl, .inl ⟨Evl.ex_l (e0.trans e1) x1, Evl.ex_l (e0.trans e1) x2, fun Dl hD => ?_⟩⟩
    exact lc_it (walk_zip (n := xs.length) (by omega)) (Cm H1 v Dl) (cm_0 hD) (fun i H2 _ p => ⟨Evl.ex_l ((e0.trans e1).trans p.2.1) x1, Evl.ex_l ((e0.trans e1).trans p.2.1) x2⟩) (fun i x H2 H3 hi p y => turn Dl i x H2 H3 hi p y)
      (fun H2 p => q Dl H2 (Evl.fresh_back e1 p.1) (e1.trans p.2.1) p.2.2)
  · refine ⟨a, b, xs, ys, rfl, .inr ⟨Evl.ex_t (e0.trans e1) x1, Evl.ex_t (e0.trans e1) x2, fun Dl hD => ?_⟩⟩
    exact lc_it (walk_zipT (n := xs.length) (by omega)) (Cm H1 v Dl) (cm_0 hD) (fun i H2 _ p => ⟨Evl.ex_t ((e0.trans e1).trans p.2.1) x1, Evl.ex_t ((e0.trans e1).trans p.2.1) x2⟩) (fun i x H2 H3 hi p y => turn Dl i x H2 H3 hi p y)
      (fun H2 p => q Dl H2 (Evl.fresh_back e1 p.1) (e1.trans p.2.1) p.2.2)
theorem ev_all {te : TE} {bs : List Bool} (h : Evl.EvL te σ H (bs.map V.bl)) : Evl.Ev (tCB (rAll K) (tCons te tNil)) σ H (.bl (bs.all id)) := fun H1 e1 Q q =>
  h H1 e1 _ fun p H2 hp e2 h2 => ⟨p, bs, rfl, SqL.of h2, q H2 e2⟩
theorem ev_any {te : TE} {bs : List Bool} (h : Evl.EvL te σ H (bs.map V.bl)) : Evl.Ev (tCB (rAny K) (tCons te tNil)) σ H (.bl (bs.any id)) := fun H1 e1 Q q =>
  h H1 e1 _ fun p H2 hp e2 h2 => ⟨p, bs, rfl, SqL.of h2, q H2 e2⟩
theorem ev_callD {sp : Sp} {ta : TA} {vs : List V} {z : V} (h : Evl.EvA ta σ H vs) (hs : ∀ H1, Ex H H1 → ∀ Q : VK, (∀ H2, Ex H1 H2 → Q z H2) → sp vs H1 Q E0) : Evl.Ev (tCallD sp ta) σ H z := fun H1 e Q q =>
  h H1 e _ fun H2 e2 => hs H2 (e.trans e2) Q fun H3 e3 => q H3 (e2.trans e3)
end
/-! ### data no deeper than n -/
def fits : Nat → PyData → Prop
  | 0, .list _ => False
  | 0, .tuple _ => False
  | n + 1, .list ds => ds.length ≤ 40000 ∧ ∀ d ∈ ds, fits n d
  | n + 1, .tuple ds => ds.length ≤ 40000 ∧ ∀ d ∈ ds, fits n d
  | _, .dict kvs => kvs = []
  | _, _ => True
theorem fits_up : ∀ {n m : Nat} {d : PyData}, n ≤ m → fits n d → fits m d
  | 0, 0, _, _, h => h
  | 0, m + 1, d, _, h => by
    cases d with
    | list ds => exact h.elim
    | tuple ds => exact h.elim
    | dict _ => exact h
    | _ => trivial
  | n + 1, 0, _, e, _ => by omega
  | n + 1, m + 1, d, e, h => by
    cases d with
    | list ds => exact ⟨h.1, fun z hz => fits_up (by omega) (h.2 z hz)⟩
    | tuple ds => exact ⟨h.1, fun z hz => fits_up (by omega) (h.2 z hz)⟩
    | dict _ => exact h
    | _ => trivial
/-- two readings of the same data: True -/
def spSame (K : PySem.W.Frag) (n : Nat) : Sp := fun vs H Q _ => ∃ (x y : V) (d : PyData), vs = [x, y] ∧ Dp K H x d ∧ Dp K H y d ∧ fits n d ∧ ∀ H', Ex H H' → Q (.bl true) H'
end U

set_option Elab.async false
set_option linter.all false
set_option maxRecDepth 100000
set_option maxHeartbeats 2000000
namespace U
open PySem L2
open Evl (Ex)
/-! ### what evaluates to data -/
section
variable {K : PySem.W.Frag} {L : List Addr} {σ : L2.St} {H H' : Hp} {te tb : TE} {ta tr : TA} {v : V} {d : PyData} {ds : List PyData} {l p : Addr} {o : HO}
def EvD (K : PySem.W.Frag) (L : List Addr) (te : TE) (σ : L2.St) (H : Hp) (d : PyData) : Prop := ∀ H1, Ex H H1 → ∀ Q : VK, (∀ v H2, Ex H1 H2 → Dp K (W L H2) v d → Q v H2) → te σ H1 Q
def EvDs (K : PySem.W.Frag) (L : List Addr) (ta : TA) (σ : L2.St) (H : Hp) (ds : List PyData) : Prop := ∀ H1, Ex H H1 → ∀ Q : List V → Hp → Prop, (∀ vs H2, Ex H1 H2 → DpAll K (W L H2) vs ds → Q vs H2) → ta σ H1 Q
theorem EvD.mono (e : Ex H H') (h : EvD K L te σ H d) : EvD K L te σ H' d := fun H1 a Q q => h H1 (e.trans a) Q q
theorem EvDs.mono (e : Ex H H') (h : EvDs K L ta σ H ds) : EvDs K L ta σ H' ds := fun H1 a Q q => h H1 (e.trans a) Q q
theorem evd_of (h : Evl.Ev te σ H v) (hd : Dp K (W L H) v d) : EvD K L te σ H d := fun H1 e Q q => h H1 e _ fun H2 e2 => q v H2 e2 (hd.up (w_ex (e.trans e2)))
theorem evd_var {i : Nat} (h : σ[i]? = some (some v)) (hd : Dp K (W L H) v d) : EvD K L (tVar i) σ H d := evd_of (Evl.ev_var h) hd
theorem evd_int {i : Int} : EvD K L (tC (.int i)) σ H (.int i) := evd_of Evl.ev_c (.int i)
theorem evd_bl {b : Bool} : EvD K L (tC (.bl b)) σ H (.bool b) := evd_of Evl.ev_c (.bl b)
theorem evd_non : EvD K L (tC .non) σ H .none := evd_of Evl.ev_c .non
theorem evd_str {x : Str} : EvD K L (tC (.str x)) σ H (.str x) := evd_of Evl.ev_c (.str x)
theorem evd_evI {i : Int} (h : Evl.Ev te σ H (.int i)) : EvD K L te σ H (.int i) := evd_of h (.int i)
theorem evd_evB {b : Bool} (h : Evl.Ev te σ H (.bl b)) : EvD K L te σ H (.bool b) := evd_of h (.bl b)
theorem evds_nil : EvDs K L tNil σ H [] := fun H1 _ _ q => q [] H1 (Ex.refl H1) .nil
theorem evds_cons (h : EvD K L te σ H d) (hr : EvDs K L tr σ H ds) : EvDs K L (tCons te tr) σ H (d :: ds) := fun H1 e Q q =>
  h H1 e _ fun v H2 e2 hv => hr H2 (e.trans e2) _ fun vs H3 e3 hvs => q (v :: vs) H3 (e2.trans e3) (.cons (hv.up (w_ex e3)) hvs)
theorem evd_tup (hL : Hid L H) (h : EvDs K L ta σ H ds) (hz : ds.length ≤ 100000) : EvD K L (tTup ta) σ H (.tuple ds) := fun H1 e Q q =>
  h H1 e _ fun vs H2 e2 hv => ⟨Evl.sz_of (by rw [dpa_len hv]; exact hz), fun p hp => q (.ref p) _ (e2.trans (Ex.new hp)) (.tup (SqT.of (w_new (hid_ex (e.trans e2) hL) hp)) (hv.up (w_ex (Ex.new hp))))⟩
theorem evd_lst (hL : Hid L H) (h : EvDs K L ta σ H ds) (hz : ds.length ≤ 100000) : EvD K L (tLst ta) σ H (.list ds) := fun H1 e Q q =>
  h H1 e _ fun vs H2 e2 hv => ⟨Evl.sz_of (by rw [dpa_len hv]; exact hz), fun p hp => q (.ref p) _ (e2.trans (Ex.new hp)) (.lst (SqL.of (w_new (hid_ex (e.trans e2) hL) hp)) (hv.up (w_ex (Ex.new hp))))⟩
theorem w_fresh (hp : H p = none) : Ex (W L H) (W (p :: L) (upd H p o)) := fun a u h => by
  obtain ⟨h1, n⟩ := w_in h
  have ne : a ≠ p := ne_of_none h1 hp
  exact w_of (fun m => (List.mem_cons.mp m).elim ne n) (by rw [upd_ne ne]; exact h1)
theorem w_cons : Ex (W (p :: L) H) (W L H) := w_sub2 fun a m => List.mem_cons_of_mem _ m
/-! ### a list that grows -/
/-- at l a list of the data ds, which do not hang on l -/
def Gr (K : PySem.W.Frag) (L : List Addr) (H : Hp) (l : Addr) (ds : List PyData) : Prop := l ∉ L ∧ ∃ xs, H l = some (.lst xs) ∧ DpAll K (W (l :: L) H) xs ds
theorem Gr.dp (h : Gr K L H l ds) : Dp K (W L H) (.ref l) (.list ds) := by
  obtain ⟨n, xs, h1, h2⟩ := h
  exact .lst (SqL.of (w_of n h1)) (h2.up w_cons)
theorem Gr.up (h : Gr K L H l ds) (e : Ex H H') : Gr K L H' l ds := by
  obtain ⟨n, xs, h1, h2⟩ := h
  exact ⟨n, xs, e _ _ h1, h2.up (w_ex e)⟩
theorem Gr.ne (h : Gr K L H l ds) : H l ≠ none := by
  obtain ⟨n, xs, h1, h2⟩ := h
  rw [h1]
  simp
theorem gr_new {xs : List V} (hL : Hid L H) (hp : H p = none) (h : DpAll K (W L H) xs ds) : Gr K L (upd H p (.lst xs)) p ds := ⟨hid_not hL hp, xs, upd_same, h.up (w_fresh hp)⟩
/-- a heap that differs at l alone, where the list has one more -/
theorem gr_app {xs : List V} (n : l ∉ L) (h1 : H l = some (.lst xs)) (h2 : DpAll K (W (l :: L) H) xs ds) (hv : Dp K (W (l :: L) H) v d) : Gr K L (upd H l (.lst (xs ++ [v]))) l (ds ++ [d]) := by
  refine ⟨n, xs ++ [v], upd_same, ?_⟩
  rw [w_upd_in (List.mem_cons_self ..)]
  exact dpa_app h2 (.cons hv .nil)
/-! ### statements -/
variable {D : Ends} {tz tu : TS} {i : Nat}
theorem d_asg (h : EvD K L te σ H d) (k : ∀ v H1, Ex H H1 → Dp K (W L H1) v d → D.nx (σ.set i (some v)) H1) : tAsg te (gName i) D σ H := h H (Ex.refl H) _ fun v H1 e hv => k v H1 e hv
theorem qd_asg (h : EvD K L te σ H d) (k : ∀ v H1, Ex H H1 → Dp K (W L H1) v d → tz D (σ.set i (some v)) H1) : tSeq (tAsg te (gName i)) tz D σ H := d_asg (D := { D with nx := tz D }) h k
theorem d_ret (h : EvD K L te σ H d) (k : ∀ v H1, Ex H H1 → Dp K (W L H1) v d → D.rt v H1) : tRet te D σ H := h H (Ex.refl H) _ fun v H1 e hv => k v H1 e hv
theorem qd_lst (hL : Hid L H) (h : EvDs K L ta σ H ds) (hz : ds.length ≤ 100000) (k : ∀ p H1, H p = none → Ex H H1 → Gr K L H1 p ds → tz D (σ.set i (some (.ref p))) H1) : tSeq (tAsg (tLst ta) (gName i)) tz D σ H :=
  h H (Ex.refl H) _ fun vs H1 e hv => ⟨Evl.sz_of (by rw [dpa_len hv]; exact hz), fun p hp => k p _ (Evl.fresh_back e hp) (e.trans (Ex.new hp)) (gr_new (hid_ex e hL) hp hv)⟩
theorem d_app (hg : Gr K L H l ds) (ho : Evl.Ev tb σ H (.ref l)) (h : EvD K (l :: L) te σ H d) (hz : ds.length < 100000) (k : ∀ o H1, Ex H H1 → Gr K L (upd H1 l o) l (ds ++ [d]) → D.nx σ (upd H1 l o)) :
    tDrop (tBM K "list" rAppend tb (tCons te tNil)) D σ H := ho H (Ex.refl H) _ fun H1 e1 => by
  obtain ⟨n, xs, h1, h2⟩ := hg
  refine ⟨Or.inl ⟨rfl, xs, SqL.of (e1 l _ h1)⟩, h H1 e1 _ fun v H2 e2 hv => ⟨l, xs, v, rfl, rfl, e2 l _ (e1 l _ h1), Evl.sz_lt (by rw [dpa_len h2]; exact hz), k _ H2 (e1.trans e2) ?_⟩⟩
  exact gr_app n (e2 l _ (e1 l _ h1)) (h2.up (w_ex (e1.trans e2))) hv
theorem qd_app (hg : Gr K L H l ds) (ho : Evl.Ev tb σ H (.ref l)) (h : EvD K (l :: L) te σ H d) (hz : ds.length < 100000) (k : ∀ o H1, Ex H H1 → Gr K L (upd H1 l o) l (ds ++ [d]) → tz D σ (upd H1 l o)) :
    tSeq (tDrop (tBM K "list" rAppend tb (tCons te tNil))) tz D σ H := d_app (D := { D with nx := tz D }) hg ho h hz k
/-- xs + ys, the left a list that stands, the right a new one -/
theorem evd_cat {es : List PyData} (hL : Hid L H) (hg : Gr K L H l ds) (ho : Evl.Ev te σ H (.ref l)) (h : EvDs K L ta σ H es) (hz : ds.length + es.length ≤ 100000) : EvD K L (tOp rCat te (tLst ta)) σ H (.list (ds ++ es)) := fun H1 e1 Q q =>
  ho H1 e1 _ fun H2 e2 => h H2 (e1.trans e2) _ fun vs H3 e3 hv => by
    have eA := (e1.trans e2).trans e3
    obtain ⟨n, xs, h1, h2⟩ := hg
    have l1 := dpa_len h2
    have l2 := dpa_len hv
    refine ⟨Evl.sz_of (by omega), fun p hp => ⟨l, p, xs, vs, rfl, rfl, ?_, upd_same, Evl.sz_of (by omega), fun r hr => ?_⟩⟩
    · exact (eA.trans (Ex.new hp)) l _ h1
    · refine q (.ref r) _ ((e2.trans e3).trans ((Ex.new hp).trans (Ex.new hr))) (.lst (SqL.of (w_new (hid_upd (hid_ex eA hL)) hr)) ?_)
      have z : Ex (W L H3) (W L (upd (upd H3 p (.lst vs)) r (.lst (xs ++ vs)))) := w_ex ((Ex.new hp).trans (Ex.new hr))
      exact dpa_app (((h2.up w_cons).up (w_ex eA)).up z) (hv.up z)
/-- xs.extend(ys), ys a new list -/
theorem d_ext {es : List PyData} (hg : Gr K L H l ds) (hL : Hid L H) (ho : Evl.Ev tb σ H (.ref l)) (h : EvDs K (l :: L) ta σ H es) (hz : ds.length + es.length ≤ 100000) (k : ∀ o H1, Ex H H1 → Gr K L (upd H1 l o) l (ds ++ es) → D.nx σ (upd H1 l o)) :
    tDrop (tBM K "list" rExtend tb (tCons (tLst ta) tNil)) D σ H := ho H (Ex.refl H) _ fun H1 e1 => by
  obtain ⟨n, xs, h1, h2⟩ := hg
  refine ⟨Or.inl ⟨rfl, xs, SqL.of (e1 l _ h1)⟩, h H1 e1 _ fun vs H2 e2 hv => ?_⟩
  have l1 := dpa_len h2
  have l2 := dpa_len hv
  refine ⟨Evl.sz_of (by omega), fun p hp => ?_⟩
  have e3 : Ex H2 (upd H2 p (.lst vs)) := Ex.new hp
  have eA := (e1.trans e2).trans e3
  refine ⟨l, p, xs, vs, rfl, rfl, eA l _ h1, upd_same, Evl.sz_of (by omega), k _ _ eA ⟨n, xs ++ vs, upd_same, ?_⟩⟩
  rw [w_upd_in (List.mem_cons_self ..)]
  exact dpa_app (h2.up (w_ex eA)) (hv.up (w_ex e3))
theorem qd_ext {es : List PyData} (hg : Gr K L H l ds) (hL : Hid L H) (ho : Evl.Ev tb σ H (.ref l)) (h : EvDs K (l :: L) ta σ H es) (hz : ds.length + es.length ≤ 100000) (k : ∀ o H1, Ex H H1 → Gr K L (upd H1 l o) l (ds ++ es) → tz D σ (upd H1 l o)) :
    tSeq (tDrop (tBM K "list" rExtend tb (tCons (tLst ta) tNil))) tz D σ H := d_ext (D := { D with nx := tz D }) hg hL ho h hz k
end
end U

set_option Elab.async false
set_option linter.all false
set_option maxRecDepth 100000
set_option maxHeartbeats 2000000
/-! data with empty dicts among them -/
namespace U
open PySem L2
open Evl (Ex)
section
variable {K : PySem.W.Frag} {H H' : Hp}
mutual
inductive Dq (K : PySem.W.Frag) (H : Hp) : V → PyData → Prop
  | non : Dq K H .non .none
  | bl (b : Bool) : Dq K H (.bl b) (.bool b)
  | int (i : Int) : Dq K H (.int i) (.int i)
  | str (x : Str) : Dq K H (.str x) (.str x)
  | lst {a : Addr} {xs : List V} {ds : List PyData} : SqL K H a xs → DqAll K H xs ds → Dq K H (.ref a) (.list ds)
  | tup {a : Addr} {xs : List V} {ds : List PyData} : SqT K H a xs → DqAll K H xs ds → Dq K H (.ref a) (.tuple ds)
  | dct {a : Addr} : H a = some (.dK []) → Dq K H (.ref a) (.dict [])
inductive DqAll (K : PySem.W.Frag) (H : Hp) : List V → List PyData → Prop
  | nil : DqAll K H [] []
  | cons {v : V} {vs : List V} {d : PyData} {ds : List PyData} : Dq K H v d → DqAll K H vs ds → DqAll K H (v :: vs) (d :: ds)
end
mutual
theorem dq_of : ∀ (d : PyData) (v : V), Dp K H v d → Dq K H v d
  | .none, _, h => by cases h; exact .non
  | .bool _, _, h => by cases h; exact .bl _
  | .int _, _, h => by cases h; exact .int _
  | .str _, _, h => by cases h; exact .str _
  | .list ds, _, h => by
    cases h with
    | lst hs ha => exact .lst hs (dqa_of ds _ ha)
  | .tuple ds, _, h => by
    cases h with
    | tup hs ha => exact .tup hs (dqa_of ds _ ha)
  | .dict _, _, h => by cases h
theorem dqa_of : ∀ (ds : List PyData) (vs : List V), DpAll K H vs ds → DqAll K H vs ds
  | [], _, h => by cases h; exact .nil
  | d :: ds, _, h => by
    cases h with
    | cons h1 h2 => exact .cons (dq_of d _ h1) (dqa_of ds _ h2)
end
theorem _root_.L2.Dp.q {v : V} {d : PyData} (h : Dp K H v d) : Dq K H v d := dq_of d v h
mutual
theorem dq_mono (e : Ex H H') : ∀ (d : PyData) (v : V), Dq K H v d → Dq K H' v d
  | .none, _, h => by cases h; exact .non
  | .bool _, _, h => by cases h; exact .bl _
  | .int _, _, h => by cases h; exact .int _
  | .str _, _, h => by cases h; exact .str _
  | .list ds, _, h => by
    cases h with
    | lst hs ha => exact .lst (Evl.ex_l e hs) (dqa_mono e ds _ ha)
  | .tuple ds, _, h => by
    cases h with
    | tup hs ha => exact .tup (Evl.ex_t e hs) (dqa_mono e ds _ ha)
  | .dict _, _, h => by
    cases h with
    | dct h => exact .dct (e _ _ h)
theorem dqa_mono (e : Ex H H') : ∀ (ds : List PyData) (vs : List V), DqAll K H vs ds → DqAll K H' vs ds
  | [], _, h => by cases h; exact .nil
  | d :: ds, _, h => by
    cases h with
    | cons h1 h2 => exact .cons (dq_mono e d _ h1) (dqa_mono e ds _ h2)
end
theorem Dq.up {v : V} {d : PyData} (h : Dq K H v d) (e : Ex H H') : Dq K H' v d := dq_mono e d v h
theorem DqAll.up {vs : List V} {ds : List PyData} (h : DqAll K H vs ds) (e : Ex H H') : DqAll K H' vs ds := dqa_mono e ds vs h
theorem dqa_len : ∀ {vs : List V} {ds : List PyData}, DqAll K H vs ds → vs.length = ds.length
  | _, _, .nil => rfl
  | _, _, .cons _ t => congrArg Nat.succ (dqa_len t)
theorem dqa_get : ∀ {vs : List V} {ds : List PyData} {i : Nat} {v : V}, DqAll K H vs ds → vs[i]? = some v → ∃ d, ds[i]? = some d ∧ Dq K H v d
  | _, _, _, _, .nil, e => by simp at e
  | _, _, 0, _, .cons r _, e => by simp at e; subst e; exact ⟨_, rfl, r⟩
  | _, _, i + 1, x, .cons _ t, e => by
    obtain ⟨d, h1, h2⟩ := dqa_get (i := i) (v := x) t (by simpa using e)
    exact ⟨d, by simpa using h1, h2⟩
theorem dqa_app : ∀ {vs ws : List V} {ds es : List PyData}, DqAll K H vs ds → DqAll K H ws es → DqAll K H (vs ++ ws) (ds ++ es)
  | _, _, _, _, .nil, h => h
  | _, _, _, _, .cons r t, h => .cons r (dqa_app t h)
theorem dq_ty {v : V} {d : PyData} (h : Dq K H v d) : TyX K H v (.type (tyOf d)) := by
  cases h with
  | non => exact .base .non
  | bl b => exact .base (.bl b)
  | int i => exact .base (.int i)
  | str x => exact .base (.str x)
  | lst hs ha =>
    rcases hs with (h | ⟨o, h⟩) | ⟨o, its, n, h, c, _⟩
    · exact .base (.lst h)
    · exact .base (.frz h)
    · exact .kList h c
  | tup hs ha =>
    rcases hs with (h | ⟨o, h⟩) | ⟨o, its, n, h, c, _⟩
    · exact .base (.tup h)
    · exact .fTuple h
    · exact .kTuple h c
  | dct h => exact .base (.dK h)
end
section
variable {K : PySem.W.Frag} {σ : L2.St} {H : Hp} {te tb : TE} {v w : V} {d e : PyData} {b : Bool}
theorem evq_isi {n : String} (h : Evl.Ev te σ H v) (hd : Dq K H v d) (hb : kitB (tyOf d) n = some b) : Evl.Ev (tCB (rIsi K) (tCons te (tCons (tC (.ty n)) tNil))) σ H (.bl b) := fun H1 e1 Q q =>
  h H1 e1 _ fun H2 e2 => ⟨v, .ty n, _, _, b, rfl, .ty n, dq_ty (hd.up (e1.trans e2)), kit_ty hb, q H2 e2⟩
theorem evq_isi2 {m n : String} (h : Evl.Ev te σ H v) (hd : Dq K H v d) (hb : kitsB (tyOf d) [m, n] = some b) : Evl.Ev (tCB (rIsiT K) (tCons te (tCons (tTup (tCons (tC (.ty m)) (tCons (tC (.ty n)) tNil))) tNil))) σ H (.bl b) := fun H1 e1 Q q =>
  h H1 e1 _ fun H2 e2 => ⟨by show 2 ≤ sizeLine; decide, fun p hp => ⟨v, p, _, _, _, b, rfl, upd_same, tys_cls (ns := [m, n]), dq_ty (hd.up ((e1.trans e2).trans (Ex.new hp))), kitsB_ok hb, q _ (e2.trans (Ex.new hp))⟩⟩
end
end U

set_option Elab.async false
set_option linter.all false
set_option maxRecDepth 100000
set_option maxHeartbeats 4000000
namespace UE
open PySem PySem.Spec PyProof.Rows L2
open AutoSeq1 (wpAny_loadPart')
/-! ### enumerate of a tuple -/
theorem meets_enumT (t : Addr) (its : Array Value) (n : Nat) (dd : Option Addr) (sl : Array (Option Value)) :
    Meets (Builtin.«enumerate.__new__» ⟨[.type "enumerate", .ref t], []⟩) (fun _ R s => s.heap.get? t = some { cls := .type "tuple", dict := dd, data := .seq its n, slots := sl } ∧
      R (.ok (.ret (.ref (s.heap.push { cls := .type "tuple_iterator", data := .fields #[.ref t, .int 0 0] }).objs.size)))
        { s with heap := (s.heap.push { cls := .type "tuple_iterator", data := .fields #[.ref t, .int 0 0] }).push { cls := .type "enumerate", data := .fields #[.none, .bool false, .ref s.heap.objs.size, rawInt 0, .none, .none] } }) :=
  .of_wp fun prog w A R s hyp => by
    obtain ⟨hp, g, d, tk, os⟩ := s
    obtain ⟨ht, hyp⟩ := hyp
    have sub := sub_enumerate
    have hT : Heap.IsTuple (Shared.heap ⟨hp, g, d, tk, os⟩) t its := ⟨_, ht, rfl, n, rfl⟩
    wp_walk using wpAny_loadPart' ht
    refine wpAny_stack_any fun st => wpAny_pure ?_
    split
    · rename_i c _ _ _ _ _
      cases (c == Value.type "enumerate") <;>
      · wp_walk using wpAny_loadPart' ht, wpAny_pyIter_tuple hT
        exact ⟨_, rfl, hyp⟩
    · wp_walk using wpAny_loadPart' ht, wpAny_pyIter_tuple hT
      exact ⟨_, rfl, hyp⟩
section
variable {prog : Program} {w : World} {A : Around} {E : Value → Shared → Prop} {s : Shared}
theorem call_enumT {t : Addr} {its : Array Value} {Q : Value → Shared → Prop} (hT : s.heap.IsTuple t its)
    (hyp : ∀ h', IsEnum h' (s.heap.objs.size + 1) s.heap.objs.size 0 .none → h'.IsTupleIter s.heap.objs.size t 0 → h'.objs.size = s.heap.objs.size + 2 → (∀ b o, s.heap.get? b = some o → h'.get? b = some o) → Q (.ref (s.heap.objs.size + 1)) { s with heap := h' }) :
    wpAny (model prog w) A (call (.type "enumerate") [.ref t]) Q E s := by
  obtain ⟨⟨c, dd, dt, sl⟩, ht, hc, n, hd⟩ := hT
  obtain rfl : c = .type "tuple" := hc
  obtain rfl : dt = .seq its n := hd
  refine callType_new F.called_enumerate (by decide) (F.typeCall_enumerate_1 _) (F.newCall_enumerate_1 _) (fun ob => F.args_object_init_2 ob _) F.entry_enumerate_new (meets_enumT t its n dd sl) ⟨ht, ?_⟩
  have sz : (s.heap.push { cls := .type "tuple_iterator", data := .fields #[.ref t, .int 0 0] }).objs.size = s.heap.objs.size + 1 := Heap.size_push ..
  show _ ∧ _
  rw [sz]
  have he : IsEnum ((s.heap.push { cls := .type "tuple_iterator", data := .fields #[.ref t, .int 0 0] }).push { cls := .type "enumerate", data := .fields #[.none, .bool false, .ref s.heap.objs.size, rawInt 0, .none, .none] }) (s.heap.objs.size + 1) s.heap.objs.size 0 .none := by
    have q := Heap.get?_push_size (s.heap.push { cls := .type "tuple_iterator", data := .fields #[.ref t, .int 0 0] }) (o := { cls := .type "enumerate", data := .fields #[.none, .bool false, .ref s.heap.objs.size, rawInt 0, .none, .none] }) rfl
    rw [sz] at q
    exact q
  exact ⟨⟨_, he, rfl⟩, hyp _ he ⟨_, Heap.get?_push_of_some _ (Heap.get?_push_size _ rfl), rfl, rfl⟩ (by rw [Heap.size_push, sz]) fun b o z => Heap.get?_push_of_some _ (Heap.get?_push_of_some _ z)⟩
end
/-- the tuple at a, each item in a new pair -/
def IteT (K : PySem.W.Frag) (a : Addr) : It :=
  ⟨fun i H => ∃ (xs : List V) (x : V), SqT K H a xs ∧ xs[i]? = some x, fun i H v H' => ∃ T x, v = .ref T ∧ H T = none ∧ H' = upd H T (.tup [.int (i : Nat), x]) ∧ ∀ xs, SqT K H a xs → xs[i]? = some x, fun i H => ∃ xs : List V, SqT K H a xs ∧ xs.length ≤ i⟩
theorem turn_enumT {P : Program} {w : World} {K : PySem.W.Frag} {elts : List Expr} {kk : Nat} {tpos : Pos} (a e it : Addr) :
    Turn P w K (.Tuple elts kk tpos) (IteT K a) [e, it] e (fun i h => (∃ old, IsEnum h e it ((i : Nat) : Int) old) ∧ h.IsTupleIter it a i ∧ e ≠ it ∧ a ≠ it ∧ a ≠ e) where
  mem := by simp
  obj := fun i h st b hb => by
    obtain ⟨⟨old, he⟩, ⟨o, ho, hc, hd⟩, _⟩ := st
    have e' : b = e ∨ b = it := by simpa using hb
    rcases e' with z | z
    · rw [z]
      exact ⟨_, he, fun v q => nomatch q⟩
    · rw [z]
      exact ⟨o, ho, fun v q => by rw [hd] at q; cases q⟩
  keep := fun i h h' st k => by
    obtain ⟨⟨old, he⟩, hi, ne⟩ := st
    exact ⟨⟨old, k e (by simp) _ he⟩, hi.at fun o q => k it (by simp) o q, ne⟩
  item := by
    intro X hP hw hK hc i pins s σ H E I hf st hg
    subst hP hw hK
    obtain ⟨⟨old, he⟩, hit, n1, n2, n3⟩ := st
    obtain ⟨xs, x, hq, hx⟩ := hg
    obtain ⟨its, rv, p, hz⟩ := I.tuple hq
    obtain ⟨u, hu, ru⟩ := rv.get hx
    have le : e < s.heap.objs.size := Heap.lt_size he
    have li : it < s.heap.objs.size := by
      obtain ⟨_, q, _⟩ := hit
      exact Heap.lt_size q
    have hlt : i < its.toArray.size := by
      have z := (List.getElem?_eq_some_iff.mp hu).1
      simpa using z
    have D : Draws X.prog X.w X.A.in1 it [it, a] its.toArray.size (fun i v => its.toArray[i]? = some v) (fun i h => h.IsTupleIter it a i ∧ h.IsTuple a its.toArray) := Draws.tuple (show X.A.in1.handled = none from I.ok.hd hc) it a n2 its.toArray
    refine wpAny_pyNext_enum_itemD D he ⟨hit, p⟩ hlt n1 (by simp [n1, Ne.symm n3]) fun y h' tk hy ho hst hT sz kp => ?_
    obtain rfl : y = u := by
      have z : its.toArray[i]? = some u := by simpa using hu
      rw [hy] at z
      exact Option.some.inj z
    refine ⟨_, rfl, wpAny_letOwnedTupleGo_enum (s := { s with heap := h', toks := tk + 1 }) ho fun h'' he' sb => ?_⟩
    have hT2 : h''.get? s.heap.objs.size = some { cls := .type "tuple", data := .seq #[.int i tk, y] } := (sb.2 _ (Nat.ne_of_gt le)).trans hT
    have new : ObjOk X.prog X.w (upd H s.heap.objs.size (.tup [.int (i : Nat), x])) h'' s.heap.objs.size (.tup [.int (i : Nat), x]) := ⟨by show 2 ≤ sizeLine; decide, [.int i tk, y], .cons ⟨_, rfl⟩ (.cons ru .nil), ⟨_, hT2, rfl, _, rfl⟩⟩
    have I1 : Inv X pins σ (upd H s.heap.objs.size (.tup [.int (i : Nat), x])) { s with heap := h'', toks := tk + 1 } :=
      I.turnedNew (ch := [e, it]) (fun b ob hb q => (sb.2 b (fun z => hb (by simp [z]))).trans (kp b ob (fun z => hb (by simp [z])) (fun z => hb (by simp [z])) q)) hf (Nat.le_refl _) new
    refine ⟨.ref s.heap.objs.size, _, I1, rfl, ⟨_, x, rfl, I.hok.fresh (Nat.le_refl _), rfl, fun ys hy => by rw [I.tuple_inj hy hq]; exact hx⟩, ⟨⟨y, ?_⟩, hst.1.at fun o q => (sb.2 it (Ne.symm n1)).trans q, n1, n2, n3⟩, fun b hb => ?_⟩
    · have e1 : ((i + 1 : Nat) : Int) = (i : Int) + 1 := by omega
      rw [e1]
      exact he'
    · have hb' : b < s.heap.objs.size := by
        have e' : b = e ∨ b = it := by simpa using hb
        rcases e' with z | z
        · rw [z]
          exact le
        · rw [z]
          exact li
      rw [upd_ne (Nat.ne_of_lt hb')]
      exact (hf b hb).1
  done := by
    intro X hP hw hK hc i pins s σ H E I hf st hg
    subst hP hw hK
    obtain ⟨⟨old, he⟩, hit, n1, n2, n3⟩ := st
    obtain ⟨xs, hq, hx⟩ := hg
    obtain ⟨its, rv, p, hz⟩ := I.tuple hq
    obtain ⟨f0, f1, f2, f3, f4, f5⟩ := hf it (by simp)
    have hl := rv.length
    have hA : X.A.in1.handled = none := I.ok.hd hc
    have D : Draws X.prog X.w X.A.in1 it [it, a] i (fun _ _ => True) (fun k h => (h.IsTupleIter it a k ∧ h.IsTuple a its.toArray) ∧ k = i) :=
      { live := fun _ _ st => let ⟨o, ho, _⟩ := st.1.1; ⟨o, ho⟩
        frame := fun _ _ _ st hk => ⟨⟨st.1.1.at fun o e => hk it (by simp) o e, st.1.2.at fun o e => hk a (by simp) o e⟩, st.2⟩
        item := fun k s Q E hi st hQ => absurd st.2 (Nat.ne_of_lt hi)
        done := fun s Q E st hE => wpAny_nextOf_tuple_end hA st.1.1 st.1.2 (by simp; omega) hE }
    exact wpAny_pyNext_enum_endD D he ⟨⟨hit, p⟩, rfl⟩ fun h' eb => ⟨rfl, I.turned (t' := s.toks) (fun b o hb q => eb b o hb q) f0 f1 f3 f4 f5⟩
  self := fun A i s Q E st h => by
    obtain ⟨⟨_, he⟩, _⟩ := st
    exact wpAny_pyIter_enum he h
/-- enumerate of a tuple -/
def iEnumT (K : PySem.W.Frag) (ta : TA) : TI := fun σ H R => ta σ H fun vs H1 => ∃ a xs, vs = [.ref a] ∧ SqT K H1 a xs ∧ R (IteT K a) H1
theorem pi_enumT {X : Cx} {e : Expr} {ta : TA} {p pos tpos : Pos} {elts : List Expr} {kk : Nat} (hg : Gl X "enumerate") (hm : X.mg "enumerate" = none) (ha : PA X [e] ta) (hs : starEach [e] X.env = [(false, eval e X.env)] := by rfl) :
    PI X (.Tuple elts kk tpos) (.Call (.Name "enumerate" p) [e] [] pos) (iEnumT X.K ta) := by
  refine ⟨fun pins s σ H R I h => ?_⟩
  refine Call_ (ld_blt I hg hm boot_enumerate (PyProof.Rows.callWith_type1 (thn (ha.run pos pins s σ H _ I h) fun us s1 ⟨vs, H1, I1, r1, q1⟩ => ?_) hs rfl))
  obtain ⟨a, xs, ex, hq, q⟩ := q1
  subst ex
  cases r1 with
  | cons r rr =>
    cases rr
    cases r
    obtain ⟨its, rv, p', hz⟩ := I1.tuple hq
    obtain ⟨oT, hoT, _⟩ := id p'
    have la : a < s1.heap.objs.size := Heap.lt_size hoT
    refine call_enumT (its := its.toArray) p' fun h' he hit hsz hk => wpAny_pyIter_enum he ?_
    have I2 : Inv X pins σ H1 { s1 with heap := h' } := I1.kept (t' := s1.toks) hk
    refine ⟨s1.heap.objs.size + 1, [s1.heap.objs.size + 1, s1.heap.objs.size], _, _, H1, rfl, I2, turn_enumT a (s1.heap.objs.size + 1) s1.heap.objs.size, ⟨⟨.none, he⟩, hit, Nat.succ_ne_self _, Nat.ne_of_lt la, Nat.ne_of_lt (Nat.lt_succ_of_lt la)⟩, fun b hb => ?_, q⟩
    have e' : b = s1.heap.objs.size + 1 ∨ b = s1.heap.objs.size := by simpa using hb
    have hle : s1.heap.objs.size ≤ b := by
      rcases e' with z | z
      · rw [z]
        exact Nat.le_add_right _ _
      · rw [z]
        exact Nat.le_refl _
    exact I1.fpOk hle (I1.hok.fresh hle)
end UE

set_option Elab.async false
set_option linter.all false
set_option maxRecDepth 100000
set_option maxHeartbeats 4000000
namespace UX
open PySem PySem.W PySem.Calls PyProof.Rows PySem.HandSPX
section
variable {M : Model} {A : Around} {E : Value → Shared → Prop} {h : Heap} {g : Array GenState} {d : Drawn} {t : Nat} {os : OsState}
variable {nm q : Str} {C N : Addr} {bs bm bmB : List Value} {hd : Bool} {sn : List Str} {sub : List Value} {ab : Bool} {col : Option Bool} {dd : Option Addr} {k0 k1 k2 k3 k5 : Option Value} {B nid iid : String}
/-- keywords are no fault of a call of such a __new__ -/
theorem kw_check (F : ExcBaseFacts B nid iid bmB) (hT : ∀ X : String, bm.contains (.type X) = bmB.contains (.type X)) {kw : List (Str × Value)} {Q : Unit → Shared → Prop}
    (hC : h.get? C = some (excClassObj nm q C N bs bm hd sn sub ab col dd k0 k1 k2 k3 k5 nid)) (hq : Q () ⟨h, g, d, t, os⟩) : wpAny M A (checkBuiltinCall nid ⟨[.ref C], kw⟩) Q E ⟨h, g, d, t, os⟩ := by
  have inB : (Value.ref C :: bm).contains (.type B) = true := (List.contains_cons ..).trans (by rw [hT, F.hasB]; exact Bool.or_true _)
  have star := F.noStar
  simp only [checkBuiltinCall, F.newKind, F.newSplit, F.newRow]
  repeat (first | refine wpAny_loadPart_at hC ?_ | (refine wpAny_isSubtype_exc hC ?_; rw [inB]) | refine wpAny_staticBase_exc hC ?_ | refine wpAny_madeBy_exc hC ?_ | (simp only [bne_self_eq_false, Bool.false_eq_true, if_false]) | wp_step)
  exact hq
end
section
variable {prog : Program} {w : World} {A : Around} {E : Value → Shared → Prop} {R : Result → Shared → Prop} {h : Heap} {g : Array GenState} {d : Drawn} {t : Nat} {os : OsState}
variable {nm q : Str} {C N : Addr} {bs bm bmB : List Value} {hd : Bool} {sn : List Str} {sub : List Value} {ab : Bool} {col : Option Bool} {dd : Option Addr} {k0 k1 k2 k3 k5 : Option Value} {B nid iid : String}
/-- the heap behind the making of an exception without arguments -/
abbrev mkd (h : Heap) (C : Addr) : Heap := (h.push (kdv_tup [])).push (excO C h.objs.size)
theorem kw_new (F : ExcBaseFacts B nid iid bmB) (hT : ∀ X : String, bm.contains (.type X) = bmB.contains (.type X)) {kw : List (Str × Value)} (hC : h.get? C = some (excClassObj nm q C N bs bm hd sn sub ab col dd k0 k1 k2 k3 k5 nid))
    (hq : R (.ok (.ret (.ref (h.objs.size + 1)))) ⟨mkd h C, g, d, t, os⟩) : codeAny (model prog w) A (.builtin nid ⟨[.ref C], kw⟩) R ⟨h, g, d, t, os⟩ := by
  have ends := F.ends
  have inB : (Value.ref C :: bm).contains (.type B) = true := (List.contains_cons ..).trans (by rw [hT, F.hasB]; exact Bool.or_true _)
  have noA : (Value.ref C :: bm).contains (.type "AttributeError") = false := (List.contains_cons ..).trans (by rw [hT, F.noAttr]; rfl)
  have noN : (Value.ref C :: bm).contains (.type "NameError") = false := (List.contains_cons ..).trans (by rw [hT, F.noName]; rfl)
  have none0 : ([] : List Value).length ≤ sizeLine := Nat.zero_le _
  refine codeAny_builtinAt F.entry ?_
  unfold Builtin.«BaseException.__new__»
  refine PySem.wpAt_bind ?_
  show PySem.wpAt _ _ _ (stack >>= _) _ _ _
  refine PySem.wpAt_bind (PySem.wpAt_stack fun p below => PySem.wpAt_of_wpAny ?_)
  wp_walk
  refine PySem.wpAt_of_wpAny ?_
  rw [F.owner]
  repeat (first | with_reducible refine wpAny_madeHere_exc F.canon hC ?_ | with_reducible refine wpAny_loadPart_at hC ?_ | (with_reducible refine wpAny_isSubtype_exc hC ?_; first | rw [inB] | rw [noA] | rw [noN]) | wp_step)
  show R _ _
  rw [Heap.size_push]
  exact hq
theorem kw_type (F : ExcBaseFacts B nid iid bmB) (hT : ∀ X : String, bm.contains (.type X) = bmB.contains (.type X)) {kw : List (Str × Value)} {fI : Addr} {Q : Fin → Shared → Prop} (hC : h.get? C = some (excClassObj nm q C N bs bm hd sn sub ab col dd k0 k1 k2 k3 k5 nid))
    (hi : Looks (model prog w) h (typeLookup (.ref C) "__init__") (some (.ref fI))) (hb : ∀ self, Looks (model prog w) h (bindSpecial (.ref fI) self) (.ref fI, [self]))
    (hq : codeAny (model prog w) A (.call (.ref fI) ⟨[.ref (h.objs.size + 1)], kw⟩) (fun r s' => match r with | .ok (.ret v) => v = .none ∧ Q (.done (.ret (.ref (h.objs.size + 1)))) s' | .ok _ => False | .error e => E e s') ⟨mkd h C, g, d, t, os⟩) :
    wpAny (model prog w) A (Builtin.«type.__call__» ⟨[.ref C], kw⟩) Q E ⟨h, g, d, t, os⟩ := by
  repeat (first | with_reducible refine wpAny_loadPart_at hC ?_ | with_reducible refine wpAny_madeBy_exc hC ?_ | wp_step)
  refine codeAny_call_builtin_code (Code.quiet_builtin _ F.quiet) (kw_check F hT hC ?_)
  refine kw_new F hT hC ?_
  show wpAny _ _ _ _ _ _
  have kp : ∀ b o, h.get? b = some o → (mkd h C).get? b = some o := fun b o e => Heap.get?_push_of_some _ (Heap.get?_push_of_some _ e)
  have hC1 := kp _ _ hC
  have get1 : (mkd h C).get? (h.objs.size + 1) = some (excO C h.objs.size) := by heap_get
  have self1 : (Value.ref C :: bm).contains (.ref C) = true := by simp
  have i1 := hi.keeps kp
  have b1 := (hb (.ref (h.objs.size + 1))).keeps kp
  unfold isInstance
  repeat (first | with_reducible refine wpAny_loadPart_at get1 ?_ | (with_reducible refine wpAny_isSubtype_exc hC1 ?_; rw [self1]) | wp_step)
  show wpAny _ _ (typeLookup (.ref C) _) _ _ _
  refine i1.at ?_
  refine wpAny_holding (wpAny_bind (b1.at ?_))
  refine wpAny_bind (wpAny_call (codeAny_mono hq fun r s' z => ?_))
  cases r with
  | error e => exact z
  | ok fl =>
    cases fl with
    | ret v =>
      obtain ⟨rfl, z⟩ := z
      first
        | exact wpAny_pure (wpAny_pure z)
        | (wp_walk; exact z)
    | next => exact z.elim
    | brk => exact z.elim
    | cont => exact z.elim
theorem kw_call (F : ExcBaseFacts B nid iid bmB) (hT : ∀ X : String, bm.contains (.type X) = bmB.contains (.type X)) {kw : List (Str × Value)} {fI : Addr} (hC : h.get? C = some (excClassObj nm q C N bs bm hd sn sub ab col dd k0 k1 k2 k3 k5 nid))
    (hi : Looks (model prog w) h (typeLookup (.ref C) "__init__") (some (.ref fI))) (hb : ∀ self, Looks (model prog w) h (bindSpecial (.ref fI) self) (.ref fI, [self]))
    (hq : codeAny (model prog w) (A.under (.builtin "type.__call__" ⟨[.ref C], kw⟩)) (.call (.ref fI) ⟨[.ref (h.objs.size + 1)], kw⟩) (InitBack (h.objs.size + 1) R) ⟨mkd h C, g, d, t, os⟩) :
    codeAny (model prog w) A (.call (.ref C) ⟨[], kw⟩) R ⟨h, g, d, t, os⟩ := by
  have f1 := tc_lookup
  have f2 := tc_bind (.ref C)
  have tyC : (⟨h, g, d, t, os⟩ : Shared).TypeIs (.ref C) "type" := ⟨_, hC, rfl⟩
  refine codeAny_of_tree ?_
  show wpAny _ _ (callAny (.ref C) _) _ _ _
  repeat (any_goals (first | assumption | with_reducible refine wpAny_loadPart_at hC ?_ | wp_step))
  refine ⟨rfl, ?_⟩
  refine codeAny_call_builtin_at (Code.quiet_builtin _ (by decide +kernel)) entry_typeCall (wpAny_check_type_call_sub hC (kw_type F hT hC hi hb ?_))
  refine codeAny_mono hq fun r s' z => ?_
  cases r with
  | error e => exact z
  | ok fl => cases fl <;> exact z
end
end UX

set_option Elab.async false
set_option linter.all false
set_option maxRecDepth 100000
set_option maxHeartbeats 4000000
namespace U
open PySem L2 PyProof.Rows
open Evl (Ex)
/-! ### errors of the text as values -/
/-- what a class of errors with its own __init__(self, f) says -/
structure ErrC (P : Program) (w : World) (K : PySem.W.Frag) (mg : Str → Option Value) (base : Heap) (x : Str) (C : Addr) (f : Str) : Prop where
  T : OexC K C
  gC : mg x = some (.ref C)
  xf : XfC K C
  no : PySem.W.findIn K (.ref C) f = some none
  init : ∃ (fI : Addr) (fd : FuncData), PySem.W.findIn K (.ref C) "__init__" = some (some (.ref fI)) ∧ PySem.W.typeIn K (.ref fI) = some (.type "function") ∧
    FnOk P w K mg base CX0 1 fI fd ["self", f] (fun vs H Q _ => ∃ (a : Addr) (v : V), vs = [.ref a, v] ∧ H a = some (exo a C none) ∧ ∀ dx, H dx = none → dx ≠ a → Q .non (upd (upd H dx (exd dx [(f, v)])) a (exo a C (some dx)))) ∧
    Binds K fd ["self", f] [] ∧ (∀ (s : Shared) (u v : Value), BindsTo s fd ⟨[u], [(f, v)]⟩ [("self", u), (f, v)])
/-- at a an error of the class at C whose attribute f is v -/
def ErrAt (H : Hp) (a C : Addr) (f : Str) (v : V) : Prop := ∃ d : Addr, H a = some (exo a C (some d)) ∧ H d = some (exd d [(f, v)])
theorem ErrAt.up {H H' : Hp} {a C : Addr} {f : Str} {v : V} (h : ErrAt H a C f v) (e : Ex H H') : ErrAt H' a C f v := by
  obtain ⟨d, h1, h2⟩ := h
  exact ⟨d, e _ _ h1, e _ _ h2⟩
/-- at a an error of the class at C -/
def ErrOf (H : Hp) (a C : Addr) : Prop := (∃ (d : Addr) (fs : List (Str × V)), H a = some (exo a C (some d)) ∧ H d = some (exd d fs)) ∨ H a = some (ExO (.ref C) a)
theorem ErrOf.up {H H' : Hp} {a C : Addr} (h : ErrOf H a C) (e : Ex H H') : ErrOf H' a C := by
  rcases h with ⟨d, fs, h1, h2⟩ | h1
  · exact .inl ⟨d, fs, e _ _ h1, e _ _ h2⟩
  · exact .inr (e _ _ h1)
theorem ErrAt.of {H : Hp} {a C : Addr} {f : Str} {v : V} (h : ErrAt H a C f v) : ErrOf H a C := by
  obtain ⟨d, h1, h2⟩ := h
  exact .inl ⟨d, _, h1, h2⟩
theorem err_laid {H : Hp} {a dx C : Addr} {f : Str} {v : V} (ha : H a = none) (hd : H dx = none) (n : dx ≠ a) :
    Ex H (upd (upd (upd H a (exo a C none)) dx (exd dx [(f, v)])) a (exo a C (some dx))) ∧ ErrAt (upd (upd (upd H a (exo a C none)) dx (exd dx [(f, v)])) a (exo a C (some dx))) a C f v := by
  refine ⟨fun b o e => ?_, dx, upd_same, ?_⟩
  · have n1 : b ≠ a := ne_of_none e ha
    have n2 : b ≠ dx := ne_of_none e hd
    rw [upd_ne n1, upd_ne n2, upd_ne n1]
    exact e
  · rw [upd_ne n, upd_same]
section
variable {X : Cx} {x f : Str} {C : Addr} {e : Expr} {te : TE} {p pos kpos apos : Pos}
/-- X(e): a new error -/
def tErr (C : Addr) (f : Str) (te : TE) : TE := fun σ H Q => te σ H fun v H1 => ∀ a H2, H1 a = none → Ex H1 H2 → ErrAt H2 a C f v → Q (.ref a) H2
theorem err_size {us : List Value} (h : us.length ≤ 1) : us.length ≤ sizeLine := by
  rw [sizeLine_eq]
  omega
theorem pe_err (R : ErrC X.prog X.w X.K X.mg X.base x C f) (hr : Room 2 X.A) (hg : Gl X x) (he : PE X e te) (hdb : (x == ("__debug__" : Str)) = false := by decide)
    (hs : starEach [e] X.env = (false, eval e X.env) :: starEach [] X.env := by rfl) : PE X (.Call (.Name x p) [e] [] pos) (tErr C f te) := by
  refine ⟨fun pins s σ H Q I h => ?_⟩
  obtain ⟨fI, fd, iC, tI, F1, hb, _⟩ := R.init
  obtain ⟨nm, q, N, bs, bm, sn, sub, ab, col, dd, k0, k1, k2, k3, k5, hC, hbm⟩ := R.T.cls
  refine wpAny_Call_Name_kw (ld_glob I hg R.gC ?_ hdb)
  refine PySem.W.callWith_K (h₀ := X.base) I.ok.mod.kin R.T.kC ?_ hs (by rfl)
  rw [hs]
  show wpAny _ _ (spliced ((false, eval e X.env) :: backTo pos (starEach [] X.env))) _ _ s
  refine Calls.spliced_cons (thn (he.run pins s σ H _ I h) fun u s1 ⟨v, H1, I1, r1, q1⟩ => Calls.spliced_nil ⟨I1.kIn, ?_⟩)
  show wpAny _ _ (call (.ref C) [u]) _ _ _
  obtain ⟨hp, g, dr, tk, os⟩ := s1
  have hsz : hp.objs.size ≤ hp.objs.size + 1 := Nat.le_succ _
  have hn : H1 (hp.objs.size + 1) = none := I1.hok.fresh hsz
  have kk : ∀ b o, hp.get? b = some o → ((hp.push (PySem.W.kdv_tup [u])).push (PySem.HandSPX.excO C hp.objs.size)).get? b = some o := fun b o z => Heap.get?_push_of_some _ (Heap.get?_push_of_some _ z)
  have hget : ((hp.push (PySem.W.kdv_tup [u])).push (PySem.HandSPX.excO C hp.objs.size)).get? (hp.objs.size + 1) = some (PySem.HandSPX.excO C hp.objs.size) := by heap_get
  have I2 : Inv X pins σ (upd H1 (hp.objs.size + 1) (exo (hp.objs.size + 1) C none)) ⟨(hp.push (PySem.W.kdv_tup [u])).push (PySem.HandSPX.excO C hp.objs.size), g, dr, tk, os⟩ :=
    I1.laid (t' := tk) (a := hp.objs.size + 1) (o := exo (hp.objs.size + 1) C none) (h' := (hp.push (PySem.W.kdv_tup [u])).push (PySem.HandSPX.excO C hp.objs.size)) kk hsz (exo_ok hget)
  have r2 : Vals [V.ref (hp.objs.size + 1), v] [Value.ref (hp.objs.size + 1), u] := .cons rfl (.cons r1 .nil)
  have bt := hb _ [Value.ref (hp.objs.size + 1), u] I2.kIn rfl
  rw [List.append_nil] at bt
  refine wpAny_call (PySem.HandSPX.call_own PySem.F.excBase_ValueError (fun Y => PySem.HandSPX.refsVE_contains Y bm hbm) (I1.kIn _ _ hC) (PySem.W.looks_findIn I1.kIn iC) (fun self => PySem.W.bind_fn I1.kIn self tI) (err_size (Nat.le_refl 1))
    (codeAny_mono (F1.run _ X.stack _ _ ⟨[Value.ref (hp.objs.size + 1), u], []⟩ [Value.ref (hp.objs.size + 1), u] _ (fun y H2 => y = .non ∧ Q (.ref (hp.objs.size + 1)) H2) (fun _ _ _ => False) (hr.make C [u] []) (I2.env0.make C [u] []) bt r2
      ⟨_, v, rfl, upd_same, fun dx hdx nx => ⟨rfl, ?_⟩⟩) fun r s' hq' => ?_))
  · have hd1 : H1 dx = none := by
      rw [upd_ne nx] at hdx
      exact hdx
    obtain ⟨z1, z2⟩ := err_laid (C := C) (f := f) (v := v) hn hd1 nx
    exact q1 _ _ hn z1 z2
  · cases r with
    | error er => exact False.elim hq'
    | ok fl =>
      cases fl with
      | ret u' =>
        obtain ⟨y, H', I3, ry, ey, q3⟩ := I2.after hq'
        subst ey
        exact ⟨ry, ⟨V.ref (hp.objs.size + 1), H', I3, rfl, q3⟩⟩
      | next => exact False.elim hq'
      | brk => exact False.elim hq'
      | cont => exact False.elim hq'
/-- of a list with one item -/
def only1 (R : V → Hp → Prop) : List V → Hp → Prop
  | [v], H => R v H
  | _, _ => False
theorem only1_is {R : V → Hp → Prop} : ∀ {vs : List V} {H : Hp}, only1 R vs H → ∃ v, vs = [v] ∧ R v H
  | [v], _, h => ⟨v, rfl, h⟩
  | [], _, h => h.elim
  | _ :: _ :: _, _, h => h.elim
/-- X(f=e) -/
theorem pe_errK (R : ErrC X.prog X.w X.K X.mg X.base x C f) (hr : Room 2 X.A) (hg : Gl X x) (he : PE X e te) (hdb : (x == ("__debug__" : Str)) = false := by decide) : PE X (.Call (.Name x p) [] [⟨some f, e, kpos⟩] pos) (tErr C f te) := by
  refine ⟨fun pins s σ H Q I h => ?_⟩
  obtain ⟨fI, fd, iC, tI, F1, _, hb⟩ := R.init
  obtain ⟨nm, q, N, bs, bm, sn, sub, ab, col, dd, k0, k1, k2, k3, k5, hC, hbm⟩ := R.T.cls
  refine wpAny_Call_Name_kw (ld_glob I hg R.gC ?_ hdb)
  have hk : PK X [⟨some f, e, kpos⟩] (tCons te tNil) := pk_cons he pk_nil
  refine PySem.W.callWith_KW0 (h₀ := X.base) I.ok.mod.kin R.T.kC (by rfl) (thn (hk.run pos pins s σ H (only1 fun v H1 => ∀ a H2, H1 a = none → Ex H1 H2 → ErrAt H2 a C f v → Q (.ref a) H2) I h) fun us s1 ⟨vs, H1, I1, r1, q0⟩ => ⟨I1.kIn, ?_⟩)
  obtain ⟨v, ev, q1⟩ := only1_is q0
  subst ev
  obtain ⟨u, eu, r9⟩ := Vals.one r1
  subst eu
  show wpAny _ _ (call (.ref C) [] [(f, u)]) _ _ _
  obtain ⟨hp, g, dr, tk, os⟩ := s1
  have hsz : hp.objs.size ≤ hp.objs.size + 1 := Nat.le_succ _
  have hn : H1 (hp.objs.size + 1) = none := I1.hok.fresh hsz
  have kk : ∀ b o, hp.get? b = some o → (UX.mkd hp C).get? b = some o := fun b o z => Heap.get?_push_of_some _ (Heap.get?_push_of_some _ z)
  have hget : (UX.mkd hp C).get? (hp.objs.size + 1) = some (PySem.HandSPX.excO C hp.objs.size) := by heap_get
  have I2 : Inv X pins σ (upd H1 (hp.objs.size + 1) (exo (hp.objs.size + 1) C none)) ⟨UX.mkd hp C, g, dr, tk, os⟩ :=
    I1.laid (t' := tk) (a := hp.objs.size + 1) (o := exo (hp.objs.size + 1) C none) (h' := UX.mkd hp C) kk hsz (exo_ok hget)
  have r2 : Vals [V.ref (hp.objs.size + 1), v] [Value.ref (hp.objs.size + 1), u] := .cons rfl (.cons r9 .nil)
  have bt := hb ⟨UX.mkd hp C, g, dr, tk, os⟩ (Value.ref (hp.objs.size + 1)) u
  refine wpAny_call (UX.kw_call PySem.F.excBase_ValueError (fun Y => PySem.HandSPX.refsVE_contains Y bm hbm) (I1.kIn _ _ hC) (PySem.W.looks_findIn I1.kIn iC) (fun self => PySem.W.bind_fn I1.kIn self tI)
    (codeAny_mono (F1.run _ X.stack _ _ ⟨[Value.ref (hp.objs.size + 1)], [(f, u)]⟩ [Value.ref (hp.objs.size + 1), u] _ (fun y H2 => y = .non ∧ Q (.ref (hp.objs.size + 1)) H2) (fun _ _ _ => False) (hr.make C [] [(f, u)]) (I2.env0.make C [] [(f, u)]) bt r2
      ⟨_, v, rfl, upd_same, fun dx hdx nx => ⟨rfl, ?_⟩⟩) fun r s' hq' => ?_))
  · have hd1 : H1 dx = none := by
      rw [upd_ne nx] at hdx
      exact hdx
    obtain ⟨z1, z2⟩ := err_laid (C := C) (f := f) (v := v) hn hd1 nx
    exact q1 _ _ hn z1 z2
  · cases r with
    | error er => exact False.elim hq'
    | ok fl =>
      cases fl with
      | ret u' =>
        obtain ⟨y, H', I3, ry, ey, q3⟩ := I2.after hq'
        subst ey
        exact ⟨ry, ⟨V.ref (hp.objs.size + 1), H', I3, rfl, q3⟩⟩
      | next => exact False.elim hq'
      | brk => exact False.elim hq'
      | cont => exact False.elim hq'
/-- e.f, e an error that stands -/
def tErrF (K : PySem.W.Frag) (f : Str) (te : TE) : TE := fun σ H Q => te σ H fun x H1 => ∃ (a C : Addr) (v : V), x = .ref a ∧ XfC K C ∧ PySem.W.findIn K (.ref C) f = some none ∧ ErrAt H1 a C f v ∧ Q v H1
theorem pe_errF (he : PE X e te) (hb : attributeBase e f X.env (eval e X.env) = eval e X.env := by rfl) : PE X (.Attribute e f pos) (tErrF X.K f te) := by
  refine ⟨fun pins s σ H Q I h => ?_⟩
  refine attr_of hb (thn (he.run pins s σ H _ I h) fun u s1 hh => ?_)
  obtain ⟨x, H1, I1, rx, a, C, v, ex, R, hno, ⟨d, ea, ed⟩, q⟩ := hh
  subst ex
  obtain rfl : u = Value.ref a := rx
  obtain ⟨t1, ho⟩ := exo_at I1.hok ea
  obtain ⟨mA, hns, rel⟩ := exd_at I1.hok ed
  obtain ⟨od, hd, hl⟩ := lookIn_ns hns
  have l1 : [(f, v)].lookup f = some v := by simp [List.lookup]
  obtain ⟨y, hy, ry⟩ := RelO.some_of (v := v) (o := mA f) (by rw [← l1]; exact rel f)
  have J : PySem.W.InstAt s1.heap a { cls := .ref C, dict := some d, data := .fields #[.ref t1, .none, .none, .none, .bool false, .none] } C (some od) := ⟨ho, rfl, rfl, hd⟩
  exact HandSPX.exc_get I1.kIn J R.ga R.gg R.exC (PySem.W.findObj_own R.hdC hno rfl (by rw [hl, hy])) (handed_of ry) ⟨v, H1, I1.tok _, ry, q⟩
/-- X(): an error of a class without own __init__ -/
theorem pe_err0 {bmB : List Value} {B nid iid : String} (F : ExcBaseFacts B nid iid bmB) (q : PySem.W.excIn X.K C bmB nid = true) (gC : X.mg x = some (.ref C)) (kC : PySem.W.keepIn X.K (.ref C) = true) (hg : Gl X x) (hdb : (x == ("__debug__" : Str)) = false := by decide) :
    PE X (.Call (.Name x p) [] [] pos) (fun _ H Q => ∀ a, H a = none → Q (.ref a) (upd H a (ExO (.ref C) a))) := by
  refine ⟨fun pins s σ H Q I h => ?_⟩
  refine wpAny_Call_Name_kw (ld_glob I hg gC ?_ hdb)
  refine PySem.W.callWith_K0 I.kIn kC ?_
  show wpAny _ _ (call (.ref C) []) _ _ _
  obtain ⟨bm, N, nm, qn, bs, hdct, sn, sub, ab, col, dd, k0, k1, k2, k3, k5, mN, hC, hN, hni, T⟩ := exc_obj I.kIn q
  refine wpAny_call_exc_subT F T hC hN hni (fun h' a hm => ?_) (Nat.zero_le _)
  have hn : H a = none := I.hok.gone hm.new
  obtain ⟨t, ht, _, _⟩ := hm.there
  exact ⟨.ref a, upd H a (ExO (.ref C) a), I.laidN hm.keeps hm.new hn (exO_ok ht ⟨rfl, rfl⟩ rfl rfl rfl (show 4 < 6 by decide)), rfl, h a hn⟩
/-- what the class D says, so that isinstance asks its instances rightly -/
structure IsiC (K : PySem.W.Frag) (D : Addr) : Prop where
  cl : (PySem.W.clsIn K D).isSome = true
  hg : PySem.W.findIn K (.ref D) "__getattribute__" = some (some (.builtin "BaseException.__getattribute__"))
  hk : PySem.W.findIn K (.ref D) "__getattr__" = some none
  hs : PySem.W.subIn K (.ref D) (.type "BaseException") = some true
  ha : PySem.W.findIn K (.ref D) "__class__" = some (some (.builtin "object.__class__"))
  hn : PySem.W.specialIn K (.builtin "object.__class__") "__get__" = some (some (.builtin "getset_descriptor.__get__"))
  ht : PySem.W.takesIn K (.builtin "object.__class__") = some true
  hm : PySem.W.mroIn K D (.type "object") = some true
/-- isinstance(e, c), e an error that stands -/
def rIsErr (K : PySem.W.Frag) : List V → Hp → VK → Prop := fun xs H Q => ∃ (a D : Addr) (c : V) (cv : Value) (b : Bool), xs = [.ref a, c] ∧ ErrOf H a D ∧ IsiC K D ∧ ClsV c cv ∧ PySem.W.kitOne K (.ref D) cv = some b ∧ Q (.bl b) H
theorem call_isErr : CallR X (.builtin "isinstance") (rIsErr X.K) := by
  intro pins s σ H xs us Q I r h
  obtain ⟨a, D, c, cv, b, rfl, he, Z, hc, e, q⟩ := h
  obtain ⟨u1, u2, rfl, r1, r2⟩ := vals2 r
  have e2 := hc.eq r2
  subst e2
  obtain rfl : u1 = Value.ref a := r1
  have J : ∃ (ox : Obj) (od : Option Obj), PySem.W.InstAt s.heap a ox D od := by
    rcases he with ⟨d, fs, ea, ed⟩ | ea
    · obtain ⟨t1, ho⟩ := exo_at I.hok ea
      obtain ⟨mA, hns, rel⟩ := exd_at I.hok ed
      obtain ⟨od, hd, hl⟩ := lookIn_ns hns
      exact ⟨_, some od, ho, rfl, rfl, hd⟩
    · obtain ⟨⟨oe, vs, h1, h2, h3, _⟩, _, _⟩ := (show ObjOk X.prog X.w H s.heap a (.ext _) from I.hok a _ ea)
      refine ⟨oe, none, h1, h2.1, ?_, ?_⟩
      · unfold PySem.W.notCls
        rw [h3]
      · rw [h2.2]
        trivial
  obtain ⟨ox, od, J⟩ := J
  exact PySem.W.kia_one (PySem.W.kitx_exc Z.cl Z.hg Z.hk Z.hs Z.ha Z.hn Z.ht Z.hm) I.kIn J e (fun z => nomatch z) fun tk => ⟨.bl b, H, I.tok tk, rfl, q⟩
end
end U

set_option Elab.async false
set_option linter.all false
set_option maxRecDepth 100000
set_option maxHeartbeats 4000000
namespace U
open PySem PySem.Spec PyProof.Rows L2
open Evl (Ex)
section
variable {X : Cx} {tg : Expr}
/-- a list or a tuple, item by item -/
def iSeq (K : PySem.W.Frag) (tl : TE) : TI := fun σ H R => tl σ H fun x H1 => ∃ a, x = .ref a ∧ (((∃ xs, SqL K H1 a xs) ∧ R (Itl K a) H1) ∨ ((∃ xs, SqT K H1 a xs) ∧ R (Itt K a) H1))
theorem pi_seq {l : Expr} {tl : TE} (hl : PE X l tl) : PI X tg l (iSeq X.K tl) := by
  refine ⟨fun pins s σ H R I h => ?_⟩
  refine thn (hl.run pins s σ H _ I h) fun v s1 ⟨x, H1, I1, r1, q1⟩ => ?_
  obtain ⟨a, e, q⟩ := q1
  subst e
  cases r1
  have fresh : ∀ b ∈ [s1.heap.objs.size], b = s1.heap.objs.size := fun b hb => by simpa using hb
  rcases q with ⟨⟨xs, hq⟩, q⟩ | ⟨⟨xs, hq⟩, q⟩
  · obtain ⟨its, rv, p, hz⟩ := I1.list hq
    refine wpAny_pyIter_list p.isList ?_
    refine ⟨s1.heap.objs.size, [s1.heap.objs.size], _, _, H1, rfl, I1.kept (t' := s1.toks) fun b o e => Heap.get?_push_of_some _ e, turn_list a _, ⟨_, Heap.get?_push_size _ rfl, rfl, rfl⟩, fun b hb => ?_, q⟩
    rw [fresh b hb]
    exact I1.fpOk (Nat.le_refl _) (I1.hok.fresh (Nat.le_refl _))
  · obtain ⟨its, rv, p, hz⟩ := I1.tuple hq
    refine wpAny_pyIter_tuple (show s1.heap.IsTuple a its.toArray from p) ?_
    refine ⟨s1.heap.objs.size, [s1.heap.objs.size], _, _, H1, rfl, I1.kept (t' := s1.toks) fun b o e => Heap.get?_push_of_some _ e, turn_tuple a _, ⟨_, Heap.get?_push_size _ rfl, rfl, rfl⟩, fun b hb => ?_, q⟩
    rw [fresh b hb]
    exact I1.fpOk (Nat.le_refl _) (I1.hok.fresh (Nat.le_refl _))
/-- enumerate of a list or a tuple -/
def iEnumA (K : PySem.W.Frag) (ta : TA) : TI := fun σ H R => ta σ H fun vs H1 => ∃ a xs, vs = [.ref a] ∧ ((SqL K H1 a xs ∧ R (Ite K a) H1) ∨ (SqT K H1 a xs ∧ R (UE.IteT K a) H1))
theorem pi_enumA {e : Expr} {ta : TA} {p pos tpos : Pos} {elts : List Expr} {kk : Nat} (hg : Gl X "enumerate") (hm : X.mg "enumerate" = none) (ha : PA X [e] ta) (hs : starEach [e] X.env = [(false, eval e X.env)] := by rfl) :
    PI X (.Tuple elts kk tpos) (.Call (.Name "enumerate" p) [e] [] pos) (iEnumA X.K ta) := by
  refine ⟨fun pins s σ H R I h => ?_⟩
  refine Call_ (ld_blt I hg hm boot_enumerate (PyProof.Rows.callWith_type1 (thn (ha.run pos pins s σ H _ I h) fun us s1 ⟨vs, H1, I1, r1, q1⟩ => ?_) hs rfl))
  obtain ⟨a, xs, ex, q⟩ := q1
  subst ex
  have hb2 : ∀ b ∈ [s1.heap.objs.size + 1, s1.heap.objs.size], s1.heap.objs.size ≤ b := fun b hb => by
    have e' : b = s1.heap.objs.size + 1 ∨ b = s1.heap.objs.size := by simpa using hb
    omega
  cases r1 with
  | cons r rr =>
    cases rr
    cases r
    rcases q with ⟨hq, q⟩ | ⟨hq, q⟩
    · obtain ⟨its, rv, p', hz⟩ := I1.list hq
      refine call_enumerate_list p'.isList fun h' he hit hsz hk => wpAny_pyIter_enum he ?_
      have I2 : Inv X pins σ H1 { s1 with heap := h' } := I1.kept (t' := s1.toks) hk
      exact ⟨s1.heap.objs.size + 1, [s1.heap.objs.size + 1, s1.heap.objs.size], _, _, H1, rfl, I2, turn_enum a (s1.heap.objs.size + 1) s1.heap.objs.size, ⟨⟨.none, he⟩, hit, Nat.succ_ne_self _⟩, fun b hb => I1.fpOk (hb2 b hb) (I1.hok.fresh (hb2 b hb)), q⟩
    · obtain ⟨its, rv, p', hz⟩ := I1.tuple hq
      obtain ⟨oT, hoT, _⟩ := id p'
      have la : a < s1.heap.objs.size := Heap.lt_size hoT
      refine UE.call_enumT (its := its.toArray) p' fun h' he hit hsz hk => wpAny_pyIter_enum he ?_
      have I2 : Inv X pins σ H1 { s1 with heap := h' } := I1.kept (t' := s1.toks) hk
      exact ⟨s1.heap.objs.size + 1, [s1.heap.objs.size + 1, s1.heap.objs.size], _, _, H1, rfl, I2, UE.turn_enumT a (s1.heap.objs.size + 1) s1.heap.objs.size, ⟨⟨.none, he⟩, hit, Nat.succ_ne_self _, Nat.ne_of_lt la, Nat.ne_of_lt (Nat.lt_succ_of_lt la)⟩, fun b hb => I1.fpOk (hb2 b hb) (I1.hok.fresh (hb2 b hb)), q⟩
end
section
variable {K : PySem.W.Frag} {a : Addr} {xs : List V}
theorem walk_enumT : Walk (UE.IteT K a) xs.length (fun H => SqT K H a xs) (YPair (fun i => some (.int (i : Nat))) (fun i => xs[i]?)) := by
  refine ⟨fun i _ hi q => ⟨xs, xs[i], q, by simp [hi]⟩, fun _ q => ⟨xs, q, Nat.le_refl _⟩, fun i H v H' _ q y => ?_⟩
  obtain ⟨T, x, h1, h2, h3, h4⟩ := y
  exact ⟨T, .int (i : Nat), x, h1, h2, h3, rfl, h4 xs q⟩
end
/-! ### a comprehension whose items are data -/
section
variable {K : PySem.W.Frag} {L : List Addr} {σ σ2 : L2.St} {H H' H1 H2 : Hp} {te tl : TE} {ta : TA} {tt : TT} {v : V} {d : PyData} {ds : List PyData} {l a Dl : Addr} {xs : List V} {f : Nat → List PyData} {i : Nat}
theorem w_past (hn : H Dl = none) (e : Ex H H') : Ex (W L H) (W (Dl :: L) H') := fun b o h => by
  obtain ⟨h1, n⟩ := w_in h
  have ne : b ≠ Dl := ne_of_none h1 hn
  exact w_of (fun m => (List.mem_cons.mp m).elim ne n) (e b o h1)
/-- evaluates to a new list of data -/
def EvG (K : PySem.W.Frag) (L : List Addr) (te : TE) (σ : L2.St) (H : Hp) (ds : List PyData) : Prop := ∀ H1, Ex H H1 → ∀ Q : VK, (∀ p H2, H1 p = none → Ex H1 H2 → Gr K L H2 p ds → Q (.ref p) H2) → te σ H1 Q
theorem EvG.mono (e : Ex H H') (h : EvG K L te σ H ds) : EvG K L te σ H' ds := fun H1 a Q q => h H1 (e.trans a) Q q
theorem EvG.dat (h : EvG K L te σ H ds) : EvD K L te σ H (.list ds) := fun H1 e Q q => h H1 e _ fun p H2 hp e2 g => q (.ref p) H2 e2 g.dp
def Cmd (K : PySem.W.Frag) (L : List Addr) (H : Hp) (f : Nat → List PyData) (Dl : Addr) (i : Nat) (H' : Hp) : Prop := H Dl = none ∧ Ex H H' ∧ Gr K L H' Dl (f i)
theorem cmd_0 (hL : Hid L H) (hn : H Dl = none) (f0 : f 0 = []) : Cmd K L H f Dl 0 (upd H Dl (.lst [])) := ⟨hn, Ex.new hn, by
  rw [f0]
  exact gr_new hL hn .nil⟩
theorem cmd_yes (p : Cmd K L H f Dl i H') (hz : (f i).length < 100000) (e2 : Ex H' H2) (he : EvD K (Dl :: L) te σ2 H2 d) (hf : f (i + 1) = f i ++ [d]) :
    te σ2 H2 fun y H4 => ∃ acc, H4 Dl = some (.lst acc) ∧ acc.length < sizeLine ∧ Cmd K L H f Dl (i + 1) (upd H4 Dl (.lst (acc ++ [y]))) := by
  obtain ⟨p1, p2, n, acc, p3, p4⟩ := p
  refine he H2 (Ex.refl H2) _ fun y H4 e4 hy => ⟨acc, e4 Dl _ (e2 Dl _ p3), Evl.sz_lt (by rw [dpa_len p4]; exact hz), p1, Evl.Ex.mut ((p2.trans e2).trans e4) p1, ?_⟩
  rw [hf]
  exact gr_app n (e4 Dl _ (e2 Dl _ p3)) (p4.up (w_ex (e2.trans e4))) hy
theorem cmd_no (p : Cmd K L H f Dl i H') (e2 : Ex H' H2) (hf : f (i + 1) = f i) : Cmd K L H f Dl (i + 1) H2 := by
  obtain ⟨p1, p2, p3⟩ := p
  rw [← hf] at p3
  exact ⟨p1, p2.trans e2, p3.up e2⟩
/-- [.. for x in a list or a tuple of data] -/
theorem eg_seq {j : Nat} {vs : List Nat} {g : PyData → PyData} (h : Evl.Ev tl σ H (.ref a)) (hx : SqL K H a xs ∨ SqT K H a xs) (hd : DpAll K (W L H) xs ds) (hL : Hid L H) (hz : ds.length ≤ 50000) (hw : ∀ x, wipe ((wipe σ vs).set j (some x)) vs = wipe σ vs)
    (he : ∀ L' (x : V) d H1, d ∈ ds → Hid L' H1 → Ex H H1 → Dp K (W L' H1) x d → EvD K L' te ((wipe σ vs).set j (some x)) H1 (g d)) : EvG K L (tLc (iSeq K tl) (gName j) tYes te vs) σ H (ds.map g) := fun H0 e0 Q q => h H0 e0 _ fun H1 e1 => by
  have hlen := dpa_len hd
  have turn : ∀ (Dl : Addr) (i : Nat) (x : V) (H2 H3 : Hp), i < xs.length → Cmd K L H1 (fun i => (ds.take i).map g) Dl i H2 → YAt xs i H2 x H3 → gName j x (wipe σ vs) H3 fun σ2 H2 => wipe σ2 vs = wipe σ vs ∧ tYes σ2 H2 fun b H3 =>
      if b = true then te σ2 H3 fun y H4 => ∃ acc, H4 Dl = some (.lst acc) ∧ acc.length < sizeLine ∧ Cmd K L H1 (fun i => (ds.take i).map g) Dl (i + 1) (upd H4 Dl (.lst (acc ++ [y]))) else Cmd K L H1 (fun i => (ds.take i).map g) Dl (i + 1) H3 := by
    intro Dl i x H2 H3 hi p yp
    obtain ⟨rfl, hu⟩ := yp
    obtain ⟨d, hd1, hd2⟩ := dpa_get hd hu
    obtain ⟨p1, p2, p3⟩ := id p
    refine ⟨hw x, ?_⟩
    refine yes_lc (A := fun H3 => te ((wipe σ vs).set j (some x)) H3 fun y H4 => ∃ acc, H4 Dl = some (.lst acc) ∧ acc.length < sizeLine ∧ Cmd K L H1 (fun i => (ds.take i).map g) Dl (i + 1) (upd H4 Dl (.lst (acc ++ [y])))) (B := fun H3 => Cmd K L H1 (fun i => (ds.take i).map g) Dl (i + 1) H3) ?_
    refine cmd_yes p (by simp; omega) (Ex.refl _) (he _ x d _ (List.mem_of_getElem? hd1) ?_ ((e0.trans e1).trans p2) (hd2.up (w_past (Evl.fresh_back (e0.trans e1) p1) ((e0.trans e1).trans p2)))) ?_
    · intro b hb
      rcases List.mem_cons.mp hb with z | z
      · rw [z]
        exact p3.ne
      · exact hid_ex ((e0.trans e1).trans p2) hL b z
    · have hi' : i < ds.length := by omega
      rw [List.take_add_one, hd1]
      simp
  have fin : ∀ Dl H2, Cmd K L H1 (fun i => (ds.take i).map g) Dl xs.length H2 → Q (.ref Dl) H2 := fun Dl H2 p => by
    obtain ⟨p1, p2, p3⟩ := p
    refine q Dl H2 (Evl.fresh_back e1 p1) (e1.trans p2) ?_
    have e : (ds.take xs.length).map g = ds.map g := by rw [hlen, List.take_length]
    rw [← e]
    exact p3
  have hL1 : Hid L H1 := hid_ex (e0.trans e1) hL
  refine ⟨a, rfl, ?_⟩
  rcases hx with x1 | x1
  · refine .inl ⟨⟨xs, Evl.ex_l (e0.trans e1) x1⟩, fun Dl hD => ?_⟩
    exact lc_it (walk_list (xs := xs)) (Cmd K L H1 (fun i => (ds.take i).map g) Dl) (cmd_0 hL1 hD rfl) (fun i H2 _ p => Evl.ex_l ((e0.trans e1).trans p.2.1) x1) (fun i x H2 H3 hi p y => turn Dl i x H2 H3 hi p y) (fun H2 p => fin Dl H2 p)
  · refine .inr ⟨⟨xs, Evl.ex_t (e0.trans e1) x1⟩, fun Dl hD => ?_⟩
    exact lc_it (walk_tup (xs := xs)) (Cmd K L H1 (fun i => (ds.take i).map g) Dl) (cmd_0 hL1 hD rfl) (fun i H2 _ p => Evl.ex_t ((e0.trans e1).trans p.2.1) x1) (fun i x H2 H3 hi p y => turn Dl i x H2 H3 hi p y) (fun H2 p => fin Dl H2 p)
/-- [.. for p, q in a list or a tuple of pairs of data] -/
theorem eg_pairs {j1 j2 : Nat} {vs : List Nat} {g : PyData → PyData} (h : Evl.Ev tl σ H (.ref a)) (hx : SqL K H a xs ∨ SqT K H a xs) (hd : DpAll K (W L H) xs ds) (hL : Hid L H) (hz : ds.length ≤ 50000)
    (h2 : ∀ d ∈ ds, ∃ d1 d2, d = .tuple [d1, d2]) (hw : ∀ x y, wipe (((wipe σ vs).set j1 (some x)).set j2 (some y)) vs = wipe σ vs)
    (he : ∀ L' (x y : V) d1 d2 H1, PyData.tuple [d1, d2] ∈ ds → Hid L' H1 → Ex H H1 → Dp K (W L' H1) x d1 → Dp K (W L' H1) y d2 → EvD K L' te (((wipe σ vs).set j1 (some x)).set j2 (some y)) H1 (g (.tuple [d1, d2]))) :
    EvG K L (tLc (iSeq K tl) (gTup K 2 (gCons (gName j1) (gCons (gName j2) gNil))) tYes te vs) σ H (ds.map g) := fun H0 e0 Q q => h H0 e0 _ fun H1 e1 => by
  have hlen := dpa_len hd
  have turn : ∀ (Dl : Addr) (i : Nat) (x : V) (H2 H3 : Hp), i < xs.length → Cmd K L H1 (fun i => (ds.take i).map g) Dl i H2 → YAt xs i H2 x H3 → gTup K 2 (gCons (gName j1) (gCons (gName j2) gNil)) x (wipe σ vs) H3 fun σ2 H2 => wipe σ2 vs = wipe σ vs ∧ tYes σ2 H2 fun b H3 =>
      if b = true then te σ2 H3 fun y H4 => ∃ acc, H4 Dl = some (.lst acc) ∧ acc.length < sizeLine ∧ Cmd K L H1 (fun i => (ds.take i).map g) Dl (i + 1) (upd H4 Dl (.lst (acc ++ [y]))) else Cmd K L H1 (fun i => (ds.take i).map g) Dl (i + 1) H3 := by
    intro Dl i x H2 H3 hi p yp
    obtain ⟨rfl, hu⟩ := yp
    obtain ⟨d, hd1, hd2⟩ := dpa_get hd hu
    obtain ⟨d1, d2, rfl⟩ := h2 d (List.mem_of_getElem? hd1)
    obtain ⟨p1, p2, p3⟩ := id p
    have hd3 := hd2.up (w_past (Evl.fresh_back (e0.trans e1) p1) ((e0.trans e1).trans p2))
    cases hd3 with
    | @tup T ys _ hT ha =>
      cases ha with
      | @cons u1 us1 _ _ r1 rr =>
        cases rr with
        | @cons u2 us2 _ _ r2 rr2 =>
          cases rr2
          refine ⟨T, [u1, u2], rfl, Evl.ex_t w_sub hT, rfl, u1, [u2], rfl, u2, [], rfl, rfl, hw u1 u2, ?_⟩
          refine yes_lc (A := fun H3 => te ((List.set (wipe σ vs) j1 (some u1)).set j2 (some u2)) H3 fun y H4 => ∃ acc, H4 Dl = some (.lst acc) ∧ acc.length < sizeLine ∧ Cmd K L H1 (fun i => (ds.take i).map g) Dl (i + 1) (upd H4 Dl (.lst (acc ++ [y])))) (B := fun H3 => Cmd K L H1 (fun i => (ds.take i).map g) Dl (i + 1) H3) ?_
          refine cmd_yes p (by simp; omega) (Ex.refl _) (he _ u1 u2 d1 d2 _ (List.mem_of_getElem? hd1) ?_ ((e0.trans e1).trans p2) r1 r2) ?_
          · intro b hb
            rcases List.mem_cons.mp hb with z | z
            · rw [z]
              exact p3.ne
            · exact hid_ex ((e0.trans e1).trans p2) hL b z
          · rw [List.take_add_one, hd1]
            simp
  have fin : ∀ Dl H2, Cmd K L H1 (fun i => (ds.take i).map g) Dl xs.length H2 → Q (.ref Dl) H2 := fun Dl H2 p => by
    obtain ⟨p1, p2, p3⟩ := p
    refine q Dl H2 (Evl.fresh_back e1 p1) (e1.trans p2) ?_
    have e : (ds.take xs.length).map g = ds.map g := by rw [hlen, List.take_length]
    rw [← e]
    exact p3
  have hL1 : Hid L H1 := hid_ex (e0.trans e1) hL
  refine ⟨a, rfl, ?_⟩
  rcases hx with x1 | x1
  · refine .inl ⟨⟨xs, Evl.ex_l (e0.trans e1) x1⟩, fun Dl hD => ?_⟩
    exact lc_it (walk_list (xs := xs)) (Cmd K L H1 (fun i => (ds.take i).map g) Dl) (cmd_0 hL1 hD rfl) (fun i H2 _ p => Evl.ex_l ((e0.trans e1).trans p.2.1) x1) (fun i x H2 H3 hi p y => turn Dl i x H2 H3 hi p y) (fun H2 p => fin Dl H2 p)
  · refine .inr ⟨⟨xs, Evl.ex_t (e0.trans e1) x1⟩, fun Dl hD => ?_⟩
    exact lc_it (walk_tup (xs := xs)) (Cmd K L H1 (fun i => (ds.take i).map g) Dl) (cmd_0 hL1 hD rfl) (fun i H2 _ p => Evl.ex_t ((e0.trans e1).trans p.2.1) x1) (fun i x H2 H3 hi p y => turn Dl i x H2 H3 hi p y) (fun H2 p => fin Dl H2 p)
/-- the items at the places that c names -/
def sel (c : Nat → Bool) (ds : List PyData) (n : Nat) : List PyData := (List.range n).flatMap fun i => if c i then (ds[i]?).toList else []
theorem sel_step {c : Nat → Bool} {n : Nat} : sel c ds (n + 1) = sel c ds n ++ (if c n then (ds[n]?).toList else []) := by
  unfold sel
  rw [List.range_succ, List.flatMap_append]
  simp
theorem sel_len {c : Nat → Bool} : ∀ n, (sel c ds n).length ≤ n
  | 0 => by simp [sel]
  | n + 1 => by
    have q := sel_len (c := c) n
    rw [sel_step, List.length_append]
    have z : (if c n = true then (ds[n]?).toList else []).length ≤ 1 := by
      split
      · cases ds[n]? <;> simp
      · simp
    omega
theorem sel_mem {c : Nat → Bool} {n : Nat} {d : PyData} (h : d ∈ sel c ds n) : d ∈ ds := by
  unfold sel at h
  obtain ⟨i, _, hi⟩ := List.mem_flatMap.mp h
  split at hi
  · exact List.mem_of_getElem? (by simpa using hi)
  · cases hi
/-- [x for i, x in enumerate(a list or a tuple of data) if c i] -/
theorem eg_enum {j1 j2 : Nat} {vs : List Nat} {c : Nat → Bool} (h : Evl.EvA ta σ H [.ref a]) (hx : SqL K H a xs ∨ SqT K H a xs) (hd : DpAll K (W L H) xs ds) (hL : Hid L H) (hz : ds.length ≤ 50000)
    (hw : ∀ x y, wipe (((wipe σ vs).set j1 (some x)).set j2 (some y)) vs = wipe σ vs)
    (ht : ∀ (x : V) (i : Nat) H1, i < ds.length → Ex H H1 → Evl.EvT tt (((wipe σ vs).set j1 (some (.int (i : Int)))).set j2 (some x)) H1 (c i)) (hn : ∀ x y, (((wipe σ vs).set j1 (some x)).set j2 (some y))[j2]? = some (some y)) :
    EvG K L (tLc (iEnumA K ta) (gTup K 2 (gCons (gName j1) (gCons (gName j2) gNil))) tt (tVar j2) vs) σ H (sel c ds ds.length) := fun H0 e0 Q q => h H0 e0 _ fun H1 e1 => by
  have hlen := dpa_len hd
  have turn : ∀ (Dl : Addr) (i : Nat) (x : V) (H2 H3 : Hp), i < xs.length → Cmd K L H1 (sel c ds) Dl i H2 → YPair (fun i => some (.int (i : Nat))) (fun i => xs[i]?) i H2 x H3 → gTup K 2 (gCons (gName j1) (gCons (gName j2) gNil)) x (wipe σ vs) H3 fun σ2 H2 => wipe σ2 vs = wipe σ vs ∧ tt σ2 H2 fun b H3 =>
      if b = true then (tVar j2) σ2 H3 fun y H4 => ∃ acc, H4 Dl = some (.lst acc) ∧ acc.length < sizeLine ∧ Cmd K L H1 (sel c ds) Dl (i + 1) (upd H4 Dl (.lst (acc ++ [y]))) else Cmd K L H1 (sel c ds) Dl (i + 1) H3 := by
    intro Dl i x H2 H3 hi p yp
    obtain ⟨T, u, w, rfl, hT, rfl, hu, hw'⟩ := yp
    have eu : u = .int (i : Int) := (Option.some.inj hu).symm
    subst eu
    have hw2 : xs[i]? = some w := hw'
    obtain ⟨d, hd1, hd2⟩ := dpa_get hd hw2
    obtain ⟨p1, p2, p3⟩ := id p
    refine ⟨T, [.int (i : Int), w], rfl, SqT.of upd_same, rfl, .int (i : Int), [w], rfl, w, [], rfl, rfl, hw _ w, ?_⟩
    have eN := ((e0.trans e1).trans p2).trans (Ex.new (o := .tup [.int (i : Int), w]) hT)
    refine ht w i _ (by omega) eN _ (Ex.refl _) _ fun H4 e4 => ?_
    have e24 : Ex H2 H4 := (Ex.new hT).trans e4
    by_cases hc : c i = true
    · rw [if_pos hc]
      refine cmd_yes (d := d) p (Nat.lt_of_le_of_lt (sel_len i) (by omega)) e24 (evd_var (hn _ w) (hd2.up (w_past (Evl.fresh_back (e0.trans e1) p1) (((e0.trans e1).trans p2).trans e24)))) ?_
      rw [sel_step, if_pos hc, hd1]
      rfl
    · rw [if_neg hc]
      refine cmd_no p e24 ?_
      rw [sel_step, if_neg hc, List.append_nil]
  have fin : ∀ Dl H2, Cmd K L H1 (sel c ds) Dl xs.length H2 → Q (.ref Dl) H2 := fun Dl H2 p => by
    obtain ⟨p1, p2, p3⟩ := p
    refine q Dl H2 (Evl.fresh_back e1 p1) (e1.trans p2) ?_
    rw [hlen] at p3
    exact p3
  have hL1 : Hid L H1 := hid_ex (e0.trans e1) hL
  refine ⟨a, xs, rfl, ?_⟩
  rcases hx with x1 | x1
  · refine .inl ⟨Evl.ex_l (e0.trans e1) x1, fun Dl hD => ?_⟩
    exact lc_it (walk_enum (xs := xs)) (Cmd K L H1 (sel c ds) Dl) (cmd_0 hL1 hD rfl) (fun i H2 _ p => Evl.ex_l ((e0.trans e1).trans p.2.1) x1) (fun i x H2 H3 hi p y => turn Dl i x H2 H3 hi p y) (fun H2 p => fin Dl H2 p)
  · refine .inr ⟨Evl.ex_t (e0.trans e1) x1, fun Dl hD => ?_⟩
    exact lc_it (walk_enumT (xs := xs)) (Cmd K L H1 (sel c ds) Dl) (cmd_0 hL1 hD rfl) (fun i H2 _ p => Evl.ex_t ((e0.trans e1).trans p.2.1) x1) (fun i x H2 H3 hi p y => turn Dl i x H2 H3 hi p y) (fun H2 p => fin Dl H2 p)
/-- tuple(a new list of data) -/
theorem evd_tupG (h : EvG K L te σ H ds) (hL : Hid L H) : EvD K L (tCB (fun xs H Q => ∃ p ys, xs = [.ref p] ∧ ((SqL K H p ys ∧ ∀ l, H l = none → Q (.ref l) (upd H l (.tup ys))) ∨ (SqT K H p ys ∧ Q (.ref p) H))) (tCons te tNil)) σ H (.tuple ds) := fun H1 e Q q =>
  h H1 e _ fun p H2 hp e2 g => by
    obtain ⟨n, ys, g1, g2⟩ := g
    refine ⟨p, ys, rfl, .inl ⟨SqL.of g1, fun r hr => ?_⟩⟩
    exact q (.ref r) _ (e2.trans (Ex.new hr)) (.tup (SqT.of (w_new (hid_ex (e.trans e2) hL) hr)) ((g2.up w_cons).up (w_ex (Ex.new hr))))
/-- tuple(x) of data that are a list or a tuple -/
theorem evd_tupD {x : V} (h : Evl.Ev te σ H x) (hd : Dp K (W L H) x (.list ds) ∨ Dp K (W L H) x (.tuple ds)) (hL : Hid L H) : EvD K L (tCB (fun xs H Q => ∃ p ys, xs = [.ref p] ∧ ((SqL K H p ys ∧ ∀ l, H l = none → Q (.ref l) (upd H l (.tup ys))) ∨ (SqT K H p ys ∧ Q (.ref p) H))) (tCons te tNil)) σ H (.tuple ds) := fun H1 e Q q =>
  h H1 e _ fun H2 e2 => by
    rcases hd with hd | hd
    · cases hd with
      | @lst p ys _ hs ha =>
        refine ⟨p, ys, rfl, .inl ⟨Evl.ex_l (w_sub.trans (e.trans e2)) hs, fun r hr => ?_⟩⟩
        exact q (.ref r) _ (e2.trans (Ex.new hr)) (.tup (SqT.of (w_new (hid_ex (e.trans e2) hL) hr)) (ha.up (w_ex ((e.trans e2).trans (Ex.new hr)))))
    · have hd' := hd
      cases hd with
      | @tup p ys _ hs ha =>
        exact ⟨p, ys, rfl, .inr ⟨Evl.ex_t (w_sub.trans (e.trans e2)) hs, q (.ref p) H2 e2 (hd'.up (w_ex (e.trans e2)))⟩⟩
/-- list(x) of data that are a list or a tuple -/
theorem eg_list {x : V} (h : Evl.Ev te σ H x) (hd : Dp K (W L H) x (.list ds) ∨ Dp K (W L H) x (.tuple ds)) (hL : Hid L H) : EvG K L (tCB (fun xs H Q => ∃ p ys, xs = [.ref p] ∧ (SqL K H p ys ∨ SqT K H p ys) ∧ ∀ l, H l = none → Q (.ref l) (upd H l (.lst ys))) (tCons te tNil)) σ H ds := fun H1 e Q q =>
  h H1 e _ fun H2 e2 => by
    rcases hd with hd | hd
    · cases hd with
      | @lst p ys _ hs ha =>
        refine ⟨p, ys, rfl, .inl (Evl.ex_l (w_sub.trans (e.trans e2)) hs), fun r hr => ?_⟩
        exact q r _ (Evl.fresh_back e2 hr) (e2.trans (Ex.new hr)) (gr_new (hid_ex (e.trans e2) hL) hr (ha.up (w_ex (e.trans e2))))
    · cases hd with
      | @tup p ys _ hs ha =>
        refine ⟨p, ys, rfl, .inr (Evl.ex_t (w_sub.trans (e.trans e2)) hs), fun r hr => ?_⟩
        exact q r _ (Evl.fresh_back e2 hr) (e2.trans (Ex.new hr)) (gr_new (hid_ex (e.trans e2) hL) hr (ha.up (w_ex (e.trans e2))))
end
end U

set_option Elab.async false
set_option linter.all false
set_option maxRecDepth 100000
set_option maxHeartbeats 4000000
namespace U
open PySem PySem.Spec PyProof.Rows L2
open Evl (Ex)
/-! ### own +, raise X(), a class of two at once -/
/-- one + other of two instances of the class at C, by what its own method promises: a reference -/
def tOwn (C : Addr) (sp : Sp) (E : L2.St → XK) (ta tb : TE) : TE := fun σ H Q => ta σ H fun x H1 => tb σ H1 fun y H2 => ∃ a b dx dy fs gs, x = .ref a ∧ y = .ref b ∧ H2 a = some (.ins C dx fs) ∧ H2 b = some (.ins C dy gs) ∧
  sp [.ref a, .ref b] H2 (fun v H' => ∃ r, v = .ref r ∧ Q (.ref r) H') (E σ)
section
variable {X : Cx} {CX : CXT} {n : Nat} {f C : Addr} {fd : FuncData} {ps : List Str} {sp : Sp} {E : L2.St → XK} {a b : Expr} {ta tb : TE} {pos : Pos} {op : Operator}
theorem pe_own (F : FnOk X.prog X.w X.K X.mg X.base CX n f fd ps sp) (hr : Room n X.A) (hs : PySem.W.findIn X.K (.ref C) (PySem.dunder op.info.2) = some (some (.ref f))) (hf : PySem.W.isFn X.K (.ref f) = true) (hc : PySem.W.selfFirst X.K C = true)
    (hb : Binds X.K fd ps []) (hx : ∀ σ, PassesAt CX X σ (E σ)) (ha : PE X a ta) (hb2 : PE X b tb) : PE X (.BinOp a op b pos) (tOwn C sp E ta tb) := by
  refine ⟨fun pins s σ H Q I h => wpAny_BinOp (binT (R := fun x y H2 => ∃ a b dx dy fs gs, x = .ref a ∧ y = .ref b ∧ H2 a = some (.ins C dx fs) ∧ H2 b = some (.ins C dy gs) ∧ sp [.ref a, .ref b] H2 (fun v H' => ∃ r, v = .ref r ∧ Q (.ref r) H') (E σ)) ha hb2 I h fun v u s2 x y H2 I2 rx ry q => ?_)⟩
  obtain ⟨p, r, dx, dy, fs, gs, rfl, rfl, hp, hr2, hsp⟩ := q
  cases rx
  cases ry
  obtain ⟨mA, J, _⟩ := ins_get I2.hok hp
  obtain ⟨mB, J', _⟩ := ins_get I2.hok hr2
  obtain ⟨od, J, _⟩ := J.look
  obtain ⟨od', J', _⟩ := J'.look
  obtain ⟨m, hF⟩ := I2.fr
  refine PySem.W.binop_K (C := C) hF I2.ok.mod.kin J J'.type hc hs hf ?_
  have r2 : Vals [V.ref p, V.ref r] [Value.ref p, Value.ref r] := .cons rfl (.cons rfl .nil)
  refine wpAny_mono (run_fnS F hr hb (hx σ) I2 r2 hsp) (fun r s' z => ?_) fun _ _ x => x
  obtain ⟨v, H', I', rv, t, rfl, q⟩ := z
  cases rv
  exact ⟨V.ref t, H', I', rfl, q⟩
/-- X() of an own class of errors without __init__ -/
theorem pmk_own0 {bmB : List Value} {B newId initId : String} {x : Str} {p : Pos} (F : ExcBaseFacts B newId initId bmB) (q : PySem.W.excIn X.K C bmB newId = true) (gC : X.mg x = some (.ref C)) (kC : PySem.W.keepIn X.K (.ref C) = true) (r : Raises X (.ref C)) (hg : Gl X x)
    (hdb : (x == ("__debug__" : Str)) = false := by decide) : PMk X (.Call (.Name x p) [] [] pos) (fun _ H Q => Q (.ref C) none H) := by
  intro pins s σ H Q I h
  refine wpAny_Call_Name_kw (ld_glob I hg gC ?_ hdb)
  refine PySem.W.callWith_K0 I.kIn kC ?_
  show wpAny _ _ (call (.ref C) []) _ _ _
  obtain ⟨bm, N, nm, qn, bs, hdct, sn, sub, ab, col, dd, k0, k1, k2, k3, k5, mN, hC, hN, hni, T⟩ := exc_obj I.kIn q
  refine wpAny_call_exc_subT F T hC hN hni (fun h' e hm => ?_) (by show 0 ≤ sizeLine; exact Nat.zero_le _)
  exact mk_of I hm r h (I.hok.gone hm.new)
/-- x[i] of a list or a tuple -/
def rIxA (K : PySem.W.Frag) : R2 := fun x y H Q => rIxL K x y H Q ∨ rIxT K x y H Q
theorem ix_seq : IxR X (rIxA X.K) := IxR.or ix_list ix_tup
end
section
variable {K : PySem.W.Frag} {σ : L2.St} {H : Hp} {te ta tb tc : TE} {x y z : V} {r r' : R2} {a : Addr} {xs : List V} {v : V} {i : Int}
theorem ev_ixA (h : Evl.Ev te σ H (.ref a)) (hx : SqL K H a xs ∨ SqT K H a xs) (hv : atI xs i = some v) : Evl.Ev (tOp (rIxA K) te (tC (.int i))) σ H v := fun H1 e Q q =>
  h H1 e _ fun H2 e2 => by
    show rIxA K (.ref a) (.int i) H2 Q
    rcases hx with hx | hx
    · exact .inl ⟨a, xs, i, v, rfl, rfl, Evl.ex_l (e.trans e2) hx, hv, q H2 e2⟩
    · exact .inr ⟨a, xs, i, v, rfl, rfl, Evl.ex_t (e.trans e2) hx, hv, q H2 e2⟩
/-- a op b op c -/
theorem ev_chain {k l : Bool} (ha : Evl.Ev ta σ H x) (hb : Evl.Ev tb σ H y) (hr : Evl.RV r x y H (.bl k)) (hc : k = true → Evl.Ev tc σ H z) (hr2 : k = true → Evl.RV r' y z H (.bl l)) (hl : k = false → l = false) : Evl.Ev (tChain r r' ta tb tc) σ H (.bl l) := fun H1 e1 Q q =>
  ha H1 e1 _ fun H2 e2 => hb H2 (e1.trans e2) _ fun H3 e3 => hr H3 ((e1.trans e2).trans e3) _ fun H4 e4 => ⟨k, rfl, by
    cases k with
    | true =>
      rw [if_pos rfl]
      exact hc rfl H4 (((e1.trans e2).trans e3).trans e4) _ fun H5 e5 => hr2 rfl H5 ((((e1.trans e2).trans e3).trans e4).trans e5) Q fun H6 e6 => q H6 (((e2.trans e3).trans e4).trans (e5.trans e6))
    | false =>
      rw [if_neg (by simp)]
      rw [hl rfl] at q
      exact q H4 ((e2.trans e3).trans e4)⟩
/-- [True or False for x in a list or a tuple of data] -/
theorem el_seqB {tl : TE} {ds : List PyData} {f : PyData → Bool} {j : Nat} {vs : List Nat} (h : Evl.Ev tl σ H (.ref a)) (hx : SqL K H a xs ∨ SqT K H a xs) (hd : DpAll K H xs ds) (hz : ds.length ≤ 40000) (hw : ∀ x, wipe ((wipe σ vs).set j (some x)) vs = wipe σ vs)
    (he : ∀ (x : V) d H1, d ∈ ds → Ex H H1 → Dp K H1 x d → Evl.Ev te ((wipe σ vs).set j (some x)) H1 (.bl (f d))) : Evl.EvL (tLc (iSeq K tl) (gName j) tYes te vs) σ H ((ds.map f).map V.bl) := fun H0 e0 Q q => h H0 e0 _ fun H1 e1 => by
  have hlen := dpa_len hd
  let w : Nat → V := fun i => .bl (f (ds.getD i .none))
  have turn : ∀ (Dl : Addr) (i : Nat) (x : V) (H2 H3 : Hp), i < xs.length → Cm H1 w Dl i H2 → YAt xs i H2 x H3 → gName j x (wipe σ vs) H3 fun σ2 H2 => wipe σ2 vs = wipe σ vs ∧ tYes σ2 H2 fun b H3 =>
      if b = true then te σ2 H3 fun y H4 => ∃ acc, H4 Dl = some (.lst acc) ∧ acc.length < sizeLine ∧ Cm H1 w Dl (i + 1) (upd H4 Dl (.lst (acc ++ [y]))) else Cm H1 w Dl (i + 1) H3 := by
    intro Dl i x H2 H3 hi p yp
    obtain ⟨rfl, hu⟩ := yp
    obtain ⟨d, hd1, hd2⟩ := dpa_get hd hu
    refine ⟨hw x, ?_⟩
    refine yes_lc (A := fun H3 => te ((wipe σ vs).set j (some x)) H3 fun y H4 => ∃ acc, H4 Dl = some (.lst acc) ∧ acc.length < sizeLine ∧ Cm H1 w Dl (i + 1) (upd H4 Dl (.lst (acc ++ [y])))) (B := fun H3 => Cm H1 w Dl (i + 1) H3) ?_
    have ew : w i = .bl (f d) := by
      show V.bl (f (ds.getD i .none)) = _
      rw [List.getD_eq_getElem?_getD, hd1]
      rfl
    refine cm_turn p (by omega) _ (Ex.refl _) ?_
    rw [ew]
    exact he x d _ (List.mem_of_getElem? hd1) (e0.trans e1) (hd2.up (e0.trans e1))
  have fin : ∀ Dl H2, Cm H1 w Dl xs.length H2 → Q (.ref Dl) H2 := fun Dl H2 p => by
    refine q Dl H2 (Evl.fresh_back e1 p.1) (e1.trans p.2.1) ?_
    rw [p.2.2, hlen]
    congr 2
    apply List.ext_getElem
    · simp
    · intro i h1 h2
      have h3 : i < ds.length := by simpa using h1
      simp [w, h3]
  refine ⟨a, rfl, ?_⟩
  rcases hx with x1 | x1
  · refine .inl ⟨⟨xs, Evl.ex_l (e0.trans e1) x1⟩, fun Dl hD => ?_⟩
    exact lc_it (walk_list (xs := xs)) (Cm H1 w Dl) (cm_0 hD) (fun i H2 _ p => Evl.ex_l ((e0.trans e1).trans p.2.1) x1) (fun i x H2 H3 hi p y => turn Dl i x H2 H3 hi p y) (fun H2 p => fin Dl H2 p)
  · refine .inr ⟨⟨xs, Evl.ex_t (e0.trans e1) x1⟩, fun Dl hD => ?_⟩
    exact lc_it (walk_tup (xs := xs)) (Cm H1 w Dl) (cm_0 hD) (fun i H2 _ p => Evl.ex_t ((e0.trans e1).trans p.2.1) x1) (fun i x H2 H3 hi p y => turn Dl i x H2 H3 hi p y) (fun H2 p => fin Dl H2 p)
theorem el_seqBq {tl : TE} {ds : List PyData} {f : PyData → Bool} {j : Nat} {vs : List Nat} (h : Evl.Ev tl σ H (.ref a)) (hx : SqL K H a xs ∨ SqT K H a xs) (hd : DqAll K H xs ds) (hz : ds.length ≤ 40000) (hw : ∀ x, wipe ((wipe σ vs).set j (some x)) vs = wipe σ vs)
    (he : ∀ (x : V) d H1, d ∈ ds → Ex H H1 → Dq K H1 x d → Evl.Ev te ((wipe σ vs).set j (some x)) H1 (.bl (f d))) : Evl.EvL (tLc (iSeq K tl) (gName j) tYes te vs) σ H ((ds.map f).map V.bl) := fun H0 e0 Q q => h H0 e0 _ fun H1 e1 => by
  have hlen := dqa_len hd
  let w : Nat → V := fun i => .bl (f (ds.getD i .none))
  have turn : ∀ (Dl : Addr) (i : Nat) (x : V) (H2 H3 : Hp), i < xs.length → Cm H1 w Dl i H2 → YAt xs i H2 x H3 → gName j x (wipe σ vs) H3 fun σ2 H2 => wipe σ2 vs = wipe σ vs ∧ tYes σ2 H2 fun b H3 =>
      if b = true then te σ2 H3 fun y H4 => ∃ acc, H4 Dl = some (.lst acc) ∧ acc.length < sizeLine ∧ Cm H1 w Dl (i + 1) (upd H4 Dl (.lst (acc ++ [y]))) else Cm H1 w Dl (i + 1) H3 := by
    intro Dl i x H2 H3 hi p yp
    obtain ⟨rfl, hu⟩ := yp
    obtain ⟨d, hd1, hd2⟩ := dqa_get hd hu
    refine ⟨hw x, ?_⟩
    refine yes_lc (A := fun H3 => te ((wipe σ vs).set j (some x)) H3 fun y H4 => ∃ acc, H4 Dl = some (.lst acc) ∧ acc.length < sizeLine ∧ Cm H1 w Dl (i + 1) (upd H4 Dl (.lst (acc ++ [y])))) (B := fun H3 => Cm H1 w Dl (i + 1) H3) ?_
    have ew : w i = .bl (f d) := by
      show V.bl (f (ds.getD i .none)) = _
      rw [List.getD_eq_getElem?_getD, hd1]
      rfl
    refine cm_turn p (by omega) _ (Ex.refl _) ?_
    rw [ew]
    exact he x d _ (List.mem_of_getElem? hd1) (e0.trans e1) (hd2.up (e0.trans e1))
  have fin : ∀ Dl H2, Cm H1 w Dl xs.length H2 → Q (.ref Dl) H2 := fun Dl H2 p => by
    refine q Dl H2 (Evl.fresh_back e1 p.1) (e1.trans p.2.1) ?_
    rw [p.2.2, hlen]
    congr 2
    apply List.ext_getElem
    · simp
    · intro i h1 h2
      have h3 : i < ds.length := by simpa using h1
      simp [w, h3]
  refine ⟨a, rfl, ?_⟩
  rcases hx with x1 | x1
  · refine .inl ⟨⟨xs, Evl.ex_l (e0.trans e1) x1⟩, fun Dl hD => ?_⟩
    exact lc_it (walk_list (xs := xs)) (Cm H1 w Dl) (cm_0 hD) (fun i H2 _ p => Evl.ex_l ((e0.trans e1).trans p.2.1) x1) (fun i x H2 H3 hi p y => turn Dl i x H2 H3 hi p y) (fun H2 p => fin Dl H2 p)
  · refine .inr ⟨⟨xs, Evl.ex_t (e0.trans e1) x1⟩, fun Dl hD => ?_⟩
    exact lc_it (walk_tup (xs := xs)) (Cm H1 w Dl) (cm_0 hD) (fun i H2 _ p => Evl.ex_t ((e0.trans e1).trans p.2.1) x1) (fun i x H2 H3 hi p y => turn Dl i x H2 H3 hi p y) (fun H2 p => fin Dl H2 p)
theorem fits_len {ds : List PyData} (h : (∃ n, fits n (.list ds)) ∨ ∃ n, fits n (.tuple ds)) : ds.length ≤ 40000 := by
  rcases h with ⟨n, h⟩ | ⟨n, h⟩ <;>
  · cases n with
    | zero => exact h.elim
    | succ n => exact h.1
theorem fits_in {ds : List PyData} {d : PyData} (h : (∃ n, fits n (.list ds)) ∨ ∃ n, fits n (.tuple ds)) (hd : d ∈ ds) : ∃ n, fits n d := by
  rcases h with ⟨n, h⟩ | ⟨n, h⟩ <;>
  · cases n with
    | zero => exact h.elim
    | succ n => exact ⟨n, h.2 d hd⟩
/-- a field of an instance -/
theorem ev_fld {C dx : Addr} {fs : List (Str × V)} {f : Str} (h : Evl.Ev te σ H (.ref a)) (ha : H a = some (.ins C dx fs)) (c : Cls K C) (n : NoAttr K C f) (hv : fs.lookup f = some v) : Evl.Ev (tFld K te f) σ H v := fun H1 e Q q =>
  h H1 e _ fun H2 e2 => ⟨a, C, dx, fs, v, rfl, (e.trans e2) a _ ha, c, n, hv, q H2 e2⟩
end
end U

set_option Elab.async false
set_option linter.all false
set_option maxRecDepth 100000
set_option maxHeartbeats 2000000
namespace U
open PySem L2
open Evl (Ex)
/-! ### what evaluates to data -/
section
variable {K : PySem.W.Frag} {L : List Addr} {σ : L2.St} {H H' : Hp} {te tb : TE} {ta tr : TA} {v : V} {d : PyData} {ds : List PyData} {l p : Addr} {o : HO}
def EvQ (K : PySem.W.Frag) (L : List Addr) (te : TE) (σ : L2.St) (H : Hp) (d : PyData) : Prop := ∀ H1, Ex H H1 → ∀ Q : VK, (∀ v H2, Ex H1 H2 → Dq K (W L H2) v d → Q v H2) → te σ H1 Q
def EvQs (K : PySem.W.Frag) (L : List Addr) (ta : TA) (σ : L2.St) (H : Hp) (ds : List PyData) : Prop := ∀ H1, Ex H H1 → ∀ Q : List V → Hp → Prop, (∀ vs H2, Ex H1 H2 → DqAll K (W L H2) vs ds → Q vs H2) → ta σ H1 Q
theorem EvQ.mono (e : Ex H H') (h : EvQ K L te σ H d) : EvQ K L te σ H' d := fun H1 a Q q => h H1 (e.trans a) Q q
theorem EvQs.mono (e : Ex H H') (h : EvQs K L ta σ H ds) : EvQs K L ta σ H' ds := fun H1 a Q q => h H1 (e.trans a) Q q
theorem evq_of (h : Evl.Ev te σ H v) (hd : Dq K (W L H) v d) : EvQ K L te σ H d := fun H1 e Q q => h H1 e _ fun H2 e2 => q v H2 e2 (hd.up (w_ex (e.trans e2)))
theorem evq_var {i : Nat} (h : σ[i]? = some (some v)) (hd : Dq K (W L H) v d) : EvQ K L (tVar i) σ H d := evq_of (Evl.ev_var h) hd
theorem evq_int {i : Int} : EvQ K L (tC (.int i)) σ H (.int i) := evq_of Evl.ev_c (.int i)
theorem evq_bl {b : Bool} : EvQ K L (tC (.bl b)) σ H (.bool b) := evq_of Evl.ev_c (.bl b)
theorem evq_non : EvQ K L (tC .non) σ H .none := evq_of Evl.ev_c .non
theorem evq_str {x : Str} : EvQ K L (tC (.str x)) σ H (.str x) := evq_of Evl.ev_c (.str x)
theorem evq_evI {i : Int} (h : Evl.Ev te σ H (.int i)) : EvQ K L te σ H (.int i) := evq_of h (.int i)
theorem evq_evB {b : Bool} (h : Evl.Ev te σ H (.bl b)) : EvQ K L te σ H (.bool b) := evq_of h (.bl b)
theorem evqs_nil : EvQs K L tNil σ H [] := fun H1 _ _ q => q [] H1 (Ex.refl H1) .nil
theorem evqs_cons (h : EvQ K L te σ H d) (hr : EvQs K L tr σ H ds) : EvQs K L (tCons te tr) σ H (d :: ds) := fun H1 e Q q =>
  h H1 e _ fun v H2 e2 hv => hr H2 (e.trans e2) _ fun vs H3 e3 hvs => q (v :: vs) H3 (e2.trans e3) (.cons (hv.up (w_ex e3)) hvs)
theorem evq_tup (hL : Hid L H) (h : EvQs K L ta σ H ds) (hz : ds.length ≤ 100000) : EvQ K L (tTup ta) σ H (.tuple ds) := fun H1 e Q q =>
  h H1 e _ fun vs H2 e2 hv => ⟨Evl.sz_of (by rw [dqa_len hv]; exact hz), fun p hp => q (.ref p) _ (e2.trans (Ex.new hp)) (.tup (SqT.of (w_new (hid_ex (e.trans e2) hL) hp)) (hv.up (w_ex (Ex.new hp))))⟩
theorem evq_lst (hL : Hid L H) (h : EvQs K L ta σ H ds) (hz : ds.length ≤ 100000) : EvQ K L (tLst ta) σ H (.list ds) := fun H1 e Q q =>
  h H1 e _ fun vs H2 e2 hv => ⟨Evl.sz_of (by rw [dqa_len hv]; exact hz), fun p hp => q (.ref p) _ (e2.trans (Ex.new hp)) (.lst (SqL.of (w_new (hid_ex (e.trans e2) hL) hp)) (hv.up (w_ex (Ex.new hp))))⟩
/-! ### a list that grows -/
/-- at l a list of the data ds, which do not hang on l -/
def Gq (K : PySem.W.Frag) (L : List Addr) (H : Hp) (l : Addr) (ds : List PyData) : Prop := l ∉ L ∧ ∃ xs, H l = some (.lst xs) ∧ DqAll K (W (l :: L) H) xs ds
theorem Gq.dp (h : Gq K L H l ds) : Dq K (W L H) (.ref l) (.list ds) := by
  obtain ⟨n, xs, h1, h2⟩ := h
  exact .lst (SqL.of (w_of n h1)) (h2.up w_cons)
theorem Gq.up (h : Gq K L H l ds) (e : Ex H H') : Gq K L H' l ds := by
  obtain ⟨n, xs, h1, h2⟩ := h
  exact ⟨n, xs, e _ _ h1, h2.up (w_ex e)⟩
theorem Gq.ne (h : Gq K L H l ds) : H l ≠ none := by
  obtain ⟨n, xs, h1, h2⟩ := h
  rw [h1]
  simp
theorem gq_new {xs : List V} (hL : Hid L H) (hp : H p = none) (h : DqAll K (W L H) xs ds) : Gq K L (upd H p (.lst xs)) p ds := ⟨hid_not hL hp, xs, upd_same, h.up (w_fresh hp)⟩
/-- a heap that differs at l alone, where the list has one more -/
theorem gq_app {xs : List V} (n : l ∉ L) (h1 : H l = some (.lst xs)) (h2 : DqAll K (W (l :: L) H) xs ds) (hv : Dq K (W (l :: L) H) v d) : Gq K L (upd H l (.lst (xs ++ [v]))) l (ds ++ [d]) := by
  refine ⟨n, xs ++ [v], upd_same, ?_⟩
  rw [w_upd_in (List.mem_cons_self ..)]
  exact dqa_app h2 (.cons hv .nil)
/-! ### statements -/
variable {D : Ends} {tz tu : TS} {i : Nat}
theorem dq_asg (h : EvQ K L te σ H d) (k : ∀ v H1, Ex H H1 → Dq K (W L H1) v d → D.nx (σ.set i (some v)) H1) : tAsg te (gName i) D σ H := h H (Ex.refl H) _ fun v H1 e hv => k v H1 e hv
theorem qq_asg (h : EvQ K L te σ H d) (k : ∀ v H1, Ex H H1 → Dq K (W L H1) v d → tz D (σ.set i (some v)) H1) : tSeq (tAsg te (gName i)) tz D σ H := dq_asg (D := { D with nx := tz D }) h k
theorem dq_ret (h : EvQ K L te σ H d) (k : ∀ v H1, Ex H H1 → Dq K (W L H1) v d → D.rt v H1) : tRet te D σ H := h H (Ex.refl H) _ fun v H1 e hv => k v H1 e hv
theorem qq_lst (hL : Hid L H) (h : EvQs K L ta σ H ds) (hz : ds.length ≤ 100000) (k : ∀ p H1, H p = none → Ex H H1 → Gq K L H1 p ds → tz D (σ.set i (some (.ref p))) H1) : tSeq (tAsg (tLst ta) (gName i)) tz D σ H :=
  h H (Ex.refl H) _ fun vs H1 e hv => ⟨Evl.sz_of (by rw [dqa_len hv]; exact hz), fun p hp => k p _ (Evl.fresh_back e hp) (e.trans (Ex.new hp)) (gq_new (hid_ex e hL) hp hv)⟩
theorem dq_app (hg : Gq K L H l ds) (ho : Evl.Ev tb σ H (.ref l)) (h : EvQ K (l :: L) te σ H d) (hz : ds.length < 100000) (k : ∀ o H1, Ex H H1 → Gq K L (upd H1 l o) l (ds ++ [d]) → D.nx σ (upd H1 l o)) :
    tDrop (tBM K "list" rAppend tb (tCons te tNil)) D σ H := ho H (Ex.refl H) _ fun H1 e1 => by
  obtain ⟨n, xs, h1, h2⟩ := hg
  refine ⟨Or.inl ⟨rfl, xs, SqL.of (e1 l _ h1)⟩, h H1 e1 _ fun v H2 e2 hv => ⟨l, xs, v, rfl, rfl, e2 l _ (e1 l _ h1), Evl.sz_lt (by rw [dqa_len h2]; exact hz), k _ H2 (e1.trans e2) ?_⟩⟩
  exact gq_app n (e2 l _ (e1 l _ h1)) (h2.up (w_ex (e1.trans e2))) hv
theorem qq_app (hg : Gq K L H l ds) (ho : Evl.Ev tb σ H (.ref l)) (h : EvQ K (l :: L) te σ H d) (hz : ds.length < 100000) (k : ∀ o H1, Ex H H1 → Gq K L (upd H1 l o) l (ds ++ [d]) → tz D σ (upd H1 l o)) :
    tSeq (tDrop (tBM K "list" rAppend tb (tCons te tNil))) tz D σ H := dq_app (D := { D with nx := tz D }) hg ho h hz k
/-- xs + ys, the left a list that stands, the right a new one -/
theorem evq_cat {es : List PyData} (hL : Hid L H) (hg : Gq K L H l ds) (ho : Evl.Ev te σ H (.ref l)) (h : EvQs K L ta σ H es) (hz : ds.length + es.length ≤ 100000) : EvQ K L (tOp rCat te (tLst ta)) σ H (.list (ds ++ es)) := fun H1 e1 Q q =>
  ho H1 e1 _ fun H2 e2 => h H2 (e1.trans e2) _ fun vs H3 e3 hv => by
    have eA := (e1.trans e2).trans e3
    obtain ⟨n, xs, h1, h2⟩ := hg
    have l1 := dqa_len h2
    have l2 := dqa_len hv
    refine ⟨Evl.sz_of (by omega), fun p hp => ⟨l, p, xs, vs, rfl, rfl, ?_, upd_same, Evl.sz_of (by omega), fun r hr => ?_⟩⟩
    · exact (eA.trans (Ex.new hp)) l _ h1
    · refine q (.ref r) _ ((e2.trans e3).trans ((Ex.new hp).trans (Ex.new hr))) (.lst (SqL.of (w_new (hid_upd (hid_ex eA hL)) hr)) ?_)
      have z : Ex (W L H3) (W L (upd (upd H3 p (.lst vs)) r (.lst (xs ++ vs)))) := w_ex ((Ex.new hp).trans (Ex.new hr))
      exact dqa_app (((h2.up w_cons).up (w_ex eA)).up z) (hv.up z)
/-- xs.extend(ys), ys a new list -/
theorem dq_ext {es : List PyData} (hg : Gq K L H l ds) (hL : Hid L H) (ho : Evl.Ev tb σ H (.ref l)) (h : EvQs K (l :: L) ta σ H es) (hz : ds.length + es.length ≤ 100000) (k : ∀ o H1, Ex H H1 → Gq K L (upd H1 l o) l (ds ++ es) → D.nx σ (upd H1 l o)) :
    tDrop (tBM K "list" rExtend tb (tCons (tLst ta) tNil)) D σ H := ho H (Ex.refl H) _ fun H1 e1 => by
  obtain ⟨n, xs, h1, h2⟩ := hg
  refine ⟨Or.inl ⟨rfl, xs, SqL.of (e1 l _ h1)⟩, h H1 e1 _ fun vs H2 e2 hv => ?_⟩
  have l1 := dqa_len h2
  have l2 := dqa_len hv
  refine ⟨Evl.sz_of (by omega), fun p hp => ?_⟩
  have e3 : Ex H2 (upd H2 p (.lst vs)) := Ex.new hp
  have eA := (e1.trans e2).trans e3
  refine ⟨l, p, xs, vs, rfl, rfl, eA l _ h1, upd_same, Evl.sz_of (by omega), k _ _ eA ⟨n, xs ++ vs, upd_same, ?_⟩⟩
  rw [w_upd_in (List.mem_cons_self ..)]
  exact dqa_app (h2.up (w_ex eA)) (hv.up (w_ex e3))
theorem qq_ext {es : List PyData} (hg : Gq K L H l ds) (hL : Hid L H) (ho : Evl.Ev tb σ H (.ref l)) (h : EvQs K (l :: L) ta σ H es) (hz : ds.length + es.length ≤ 100000) (k : ∀ o H1, Ex H H1 → Gq K L (upd H1 l o) l (ds ++ es) → tz D σ (upd H1 l o)) :
    tSeq (tDrop (tBM K "list" rExtend tb (tCons (tLst ta) tNil))) tz D σ H := dq_ext (D := { D with nx := tz D }) hg hL ho h hz k
end
/-! ### a comprehension whose items are data -/
section
variable {K : PySem.W.Frag} {L : List Addr} {σ σ2 : L2.St} {H H' H1 H2 : Hp} {te tl : TE} {ta : TA} {tt : TT} {v : V} {d : PyData} {ds : List PyData} {l a Dl : Addr} {xs : List V} {f : Nat → List PyData} {i : Nat}
/-- evaluates to a new list of data -/
def EvGq (K : PySem.W.Frag) (L : List Addr) (te : TE) (σ : L2.St) (H : Hp) (ds : List PyData) : Prop := ∀ H1, Ex H H1 → ∀ Q : VK, (∀ p H2, H1 p = none → Ex H1 H2 → Gq K L H2 p ds → Q (.ref p) H2) → te σ H1 Q
theorem EvGq.mono (e : Ex H H') (h : EvGq K L te σ H ds) : EvGq K L te σ H' ds := fun H1 a Q q => h H1 (e.trans a) Q q
theorem EvGq.dat (h : EvGq K L te σ H ds) : EvQ K L te σ H (.list ds) := fun H1 e Q q => h H1 e _ fun p H2 hp e2 g => q (.ref p) H2 e2 g.dp
def Cmq (K : PySem.W.Frag) (L : List Addr) (H : Hp) (f : Nat → List PyData) (Dl : Addr) (i : Nat) (H' : Hp) : Prop := H Dl = none ∧ Ex H H' ∧ Gq K L H' Dl (f i)
theorem cmq_0 (hL : Hid L H) (hn : H Dl = none) (f0 : f 0 = []) : Cmq K L H f Dl 0 (upd H Dl (.lst [])) := ⟨hn, Ex.new hn, by
  rw [f0]
  exact gq_new hL hn .nil⟩
theorem cmq_yes (p : Cmq K L H f Dl i H') (hz : (f i).length < 100000) (e2 : Ex H' H2) (he : EvQ K (Dl :: L) te σ2 H2 d) (hf : f (i + 1) = f i ++ [d]) :
    te σ2 H2 fun y H4 => ∃ acc, H4 Dl = some (.lst acc) ∧ acc.length < sizeLine ∧ Cmq K L H f Dl (i + 1) (upd H4 Dl (.lst (acc ++ [y]))) := by
  obtain ⟨p1, p2, n, acc, p3, p4⟩ := p
  refine he H2 (Ex.refl H2) _ fun y H4 e4 hy => ⟨acc, e4 Dl _ (e2 Dl _ p3), Evl.sz_lt (by rw [dqa_len p4]; exact hz), p1, Evl.Ex.mut ((p2.trans e2).trans e4) p1, ?_⟩
  rw [hf]
  exact gq_app n (e4 Dl _ (e2 Dl _ p3)) (p4.up (w_ex (e2.trans e4))) hy
theorem cmq_no (p : Cmq K L H f Dl i H') (e2 : Ex H' H2) (hf : f (i + 1) = f i) : Cmq K L H f Dl (i + 1) H2 := by
  obtain ⟨p1, p2, p3⟩ := p
  rw [← hf] at p3
  exact ⟨p1, p2.trans e2, p3.up e2⟩
/-- [.. for x in a list or a tuple of data] -/
theorem egq_seq {j : Nat} {vs : List Nat} {g : PyData → PyData} (h : Evl.Ev tl σ H (.ref a)) (hx : SqL K H a xs ∨ SqT K H a xs) (hd : DqAll K (W L H) xs ds) (hL : Hid L H) (hz : ds.length ≤ 50000) (hw : ∀ x, wipe ((wipe σ vs).set j (some x)) vs = wipe σ vs)
    (he : ∀ L' (x : V) d H1, d ∈ ds → Hid L' H1 → Ex H H1 → Dq K (W L' H1) x d → EvQ K L' te ((wipe σ vs).set j (some x)) H1 (g d)) : EvGq K L (tLc (iSeq K tl) (gName j) tYes te vs) σ H (ds.map g) := fun H0 e0 Q q => h H0 e0 _ fun H1 e1 => by
  have hlen := dqa_len hd
  have turn : ∀ (Dl : Addr) (i : Nat) (x : V) (H2 H3 : Hp), i < xs.length → Cmq K L H1 (fun i => (ds.take i).map g) Dl i H2 → YAt xs i H2 x H3 → gName j x (wipe σ vs) H3 fun σ2 H2 => wipe σ2 vs = wipe σ vs ∧ tYes σ2 H2 fun b H3 =>
      if b = true then te σ2 H3 fun y H4 => ∃ acc, H4 Dl = some (.lst acc) ∧ acc.length < sizeLine ∧ Cmq K L H1 (fun i => (ds.take i).map g) Dl (i + 1) (upd H4 Dl (.lst (acc ++ [y]))) else Cmq K L H1 (fun i => (ds.take i).map g) Dl (i + 1) H3 := by
    intro Dl i x H2 H3 hi p yp
    obtain ⟨rfl, hu⟩ := yp
    obtain ⟨d, hd1, hd2⟩ := dqa_get hd hu
    obtain ⟨p1, p2, p3⟩ := id p
    refine ⟨hw x, ?_⟩
    refine yes_lc (A := fun H3 => te ((wipe σ vs).set j (some x)) H3 fun y H4 => ∃ acc, H4 Dl = some (.lst acc) ∧ acc.length < sizeLine ∧ Cmq K L H1 (fun i => (ds.take i).map g) Dl (i + 1) (upd H4 Dl (.lst (acc ++ [y])))) (B := fun H3 => Cmq K L H1 (fun i => (ds.take i).map g) Dl (i + 1) H3) ?_
    refine cmq_yes p (by simp; omega) (Ex.refl _) (he _ x d _ (List.mem_of_getElem? hd1) ?_ ((e0.trans e1).trans p2) (hd2.up (w_past (Evl.fresh_back (e0.trans e1) p1) ((e0.trans e1).trans p2)))) ?_
    · intro b hb
      rcases List.mem_cons.mp hb with z | z
      · rw [z]
        exact p3.ne
      · exact hid_ex ((e0.trans e1).trans p2) hL b z
    · have hi' : i < ds.length := by omega
      rw [List.take_add_one, hd1]
      simp
  have fin : ∀ Dl H2, Cmq K L H1 (fun i => (ds.take i).map g) Dl xs.length H2 → Q (.ref Dl) H2 := fun Dl H2 p => by
    obtain ⟨p1, p2, p3⟩ := p
    refine q Dl H2 (Evl.fresh_back e1 p1) (e1.trans p2) ?_
    have e : (ds.take xs.length).map g = ds.map g := by rw [hlen, List.take_length]
    rw [← e]
    exact p3
  have hL1 : Hid L H1 := hid_ex (e0.trans e1) hL
  refine ⟨a, rfl, ?_⟩
  rcases hx with x1 | x1
  · refine .inl ⟨⟨xs, Evl.ex_l (e0.trans e1) x1⟩, fun Dl hD => ?_⟩
    exact lc_it (walk_list (xs := xs)) (Cmq K L H1 (fun i => (ds.take i).map g) Dl) (cmq_0 hL1 hD rfl) (fun i H2 _ p => Evl.ex_l ((e0.trans e1).trans p.2.1) x1) (fun i x H2 H3 hi p y => turn Dl i x H2 H3 hi p y) (fun H2 p => fin Dl H2 p)
  · refine .inr ⟨⟨xs, Evl.ex_t (e0.trans e1) x1⟩, fun Dl hD => ?_⟩
    exact lc_it (walk_tup (xs := xs)) (Cmq K L H1 (fun i => (ds.take i).map g) Dl) (cmq_0 hL1 hD rfl) (fun i H2 _ p => Evl.ex_t ((e0.trans e1).trans p.2.1) x1) (fun i x H2 H3 hi p y => turn Dl i x H2 H3 hi p y) (fun H2 p => fin Dl H2 p)
/-- tuple(a new list of data) -/
theorem evq_tupG (h : EvGq K L te σ H ds) (hL : Hid L H) : EvQ K L (tCB (fun xs H Q => ∃ p ys, xs = [.ref p] ∧ ((SqL K H p ys ∧ ∀ l, H l = none → Q (.ref l) (upd H l (.tup ys))) ∨ (SqT K H p ys ∧ Q (.ref p) H))) (tCons te tNil)) σ H (.tuple ds) := fun H1 e Q q =>
  h H1 e _ fun p H2 hp e2 g => by
    obtain ⟨n, ys, g1, g2⟩ := g
    refine ⟨p, ys, rfl, .inl ⟨SqL.of g1, fun r hr => ?_⟩⟩
    exact q (.ref r) _ (e2.trans (Ex.new hr)) (.tup (SqT.of (w_new (hid_ex (e.trans e2) hL) hr)) ((g2.up w_cons).up (w_ex (Ex.new hr))))
/-- tuple(x) of data that are a list or a tuple -/
theorem evq_tupD {x : V} (h : Evl.Ev te σ H x) (hd : Dq K (W L H) x (.list ds) ∨ Dq K (W L H) x (.tuple ds)) (hL : Hid L H) : EvQ K L (tCB (fun xs H Q => ∃ p ys, xs = [.ref p] ∧ ((SqL K H p ys ∧ ∀ l, H l = none → Q (.ref l) (upd H l (.tup ys))) ∨ (SqT K H p ys ∧ Q (.ref p) H))) (tCons te tNil)) σ H (.tuple ds) := fun H1 e Q q =>
  h H1 e _ fun H2 e2 => by
    rcases hd with hd | hd
    · cases hd with
      | @lst p ys _ hs ha =>
        refine ⟨p, ys, rfl, .inl ⟨Evl.ex_l (w_sub.trans (e.trans e2)) hs, fun r hr => ?_⟩⟩
        exact q (.ref r) _ (e2.trans (Ex.new hr)) (.tup (SqT.of (w_new (hid_ex (e.trans e2) hL) hr)) (ha.up (w_ex ((e.trans e2).trans (Ex.new hr)))))
    · have hd' := hd
      cases hd with
      | @tup p ys _ hs ha =>
        exact ⟨p, ys, rfl, .inr ⟨Evl.ex_t (w_sub.trans (e.trans e2)) hs, q (.ref p) H2 e2 (hd'.up (w_ex (e.trans e2)))⟩⟩
/-- list(x) of data that are a list or a tuple -/
theorem egq_list {x : V} (h : Evl.Ev te σ H x) (hd : Dq K (W L H) x (.list ds) ∨ Dq K (W L H) x (.tuple ds)) (hL : Hid L H) : EvGq K L (tCB (fun xs H Q => ∃ p ys, xs = [.ref p] ∧ (SqL K H p ys ∨ SqT K H p ys) ∧ ∀ l, H l = none → Q (.ref l) (upd H l (.lst ys))) (tCons te tNil)) σ H ds := fun H1 e Q q =>
  h H1 e _ fun H2 e2 => by
    rcases hd with hd | hd
    · cases hd with
      | @lst p ys _ hs ha =>
        refine ⟨p, ys, rfl, .inl (Evl.ex_l (w_sub.trans (e.trans e2)) hs), fun r hr => ?_⟩
        exact q r _ (Evl.fresh_back e2 hr) (e2.trans (Ex.new hr)) (gq_new (hid_ex (e.trans e2) hL) hr (ha.up (w_ex (e.trans e2))))
    · cases hd with
      | @tup p ys _ hs ha =>
        refine ⟨p, ys, rfl, .inr (Evl.ex_t (w_sub.trans (e.trans e2)) hs), fun r hr => ?_⟩
        exact q r _ (Evl.fresh_back e2 hr) (e2.trans (Ex.new hr)) (gq_new (hid_ex (e.trans e2) hL) hr (ha.up (w_ex (e.trans e2))))
end
end U

set_option Elab.async false
set_option linter.all false
set_option maxRecDepth 100000
set_option maxHeartbeats 4000000
/-! operators of two own classes, ~ of an own one, one rule of several -/
namespace UO
open PySem PySem.W PySem.Calls PyProof.Rows
section
variable {prog : Program} {w : World} {A : Around} {E : Value → Shared → Prop} {s : Shared} {K : Frag} {x C1 C2 L f g : Addr} {h₀ : Heap} {m : Str → Option Value} {ox : Obj} {od : Option Obj} {op : Operator} {b : Value} {Q : Value → Shared → Prop}
theorem binop2 (F : Fr h₀ L s.heap m) (X₀ : K.In h₀) (I : InstAt s.heap x ox C1 od) (hb : Looks (model prog w) s.heap (typeOf b) (.ref C2)) (ne : C1 ≠ C2) (c1 : selfFirst K C1 = true) (c2 : selfFirst K C2 = true)
    (s1 : findIn K (.ref C1) (PySem.dunder op.info.2) = some (some (.ref f))) (f1 : isFn K (.ref f) = true) (s2 : findIn K (.ref C2) (PySem.dunder op.info.2) = some (some (.ref g))) (r1 : findIn K (.ref C1) (dunderR op.info.2) = some none) (r2 : findIn K (.ref C2) (dunderR op.info.2) = some none)
    (hsub : subIn K (.ref C2) (.ref C1) = some false) (h : wpAny (model prog w) A (call (.ref f) [.ref x, b]) (PySem.W.CmpBack Q) E s) : wpAny (model prog w) A (binaryOp op (.ref x) b) Q E s := by
  have X := X₀.keeps F.keep
  obtain ⟨d1, t1, e1, m1⟩ := ksp_first c1
  obtain ⟨d2, t2, e2, m2⟩ := ksp_first c2
  rcases hi : op.info with ⟨sym, nm⟩
  rw [hi] at s1 s2 r1 r2
  dsimp only at s1 s2 r1 r2
  have one := ksp_try X I s1 f1 h
  obtain ⟨hh, g1, d, tt, os⟩ := s
  have T1 : Looks (model prog w) hh (typeOf (.ref x)) (.ref C1) := I.type
  have T2 : Looks (model prog w) hh (typeOf b) (.ref C2) := hb
  have N1 : Looks (model prog w) hh (fillsNumberSlot (.ref C1) nm) true := fills_K X e1 m1 s1
  have N2 : Looks (model prog w) hh (fillsNumberSlot (.ref C2) nm) true := fills_K X e2 m2 s2
  have S1 : Looks (model prog w) hh (isSubtype (.ref C2) (.ref C1)) false := looks_subIn X hsub
  have P1 : Looks (model prog w) hh (numberSlotInPython (.ref C1) nm) true := ksp_inPy X s1 r1 (.inl rfl)
  have P2 : Looks (model prog w) hh (numberSlotInPython (.ref C2) nm) true := ksp_inPy X s2 r2 (.inl rfl)
  have hne : (Value.ref C1 == Value.ref C2) = false := Bool.eq_false_iff.mpr fun q => ne (by cases beq_iff_eq.mp q; rfl)
  simp only [binaryOp, hi]
  refine wpAny_holding (wpAny_bind ?_)
  unfold binaryOp1
  refine wpAny_bind (T1.at (wpAny_bind (T2.at (wpAny_bind (N1.at ?_)))))
  simp only [hne, Bool.false_eq_true, if_false]
  ksp_lk
  refine wpAny_mono one (fun r s' hr' => ?_) fun _ _ e => e
  obtain ⟨v, rfl, hq⟩ := hr'
  ksp_lk
  exact hq
end
end UO
namespace U
open PySem PySem.Spec PyProof.Rows L2
open Evl (Ex)
section
variable {X : Cx} {e a b : Expr} {ta tb : TE} {n : Nat} {pos : Pos} {op : Operator} {sp : Sp} {C C1 C2 f g : Addr} {fd : FuncData} {ps : List Str}
/-- one of several readings -/
def tAny {ι : Type} (P : ι → Prop) (t : ι → TE) : TE := fun σ H Q => ∃ i, P i ∧ t i σ H Q
theorem pe_any {ι : Type} {P : ι → Prop} {t : ι → TE} (h : ∀ i, P i → PE X e (t i)) : PE X e (tAny P t) := ⟨fun pins s σ H Q I ⟨i, hi, q⟩ => (h i hi).run pins s σ H Q I q⟩
/-- one op other of instances of two classes -/
def tOwn2 (C1 C2 : Addr) (sp : Sp) (ta tb : TE) : TE := fun σ H Q => ta σ H fun x H1 => tb σ H1 fun y H2 => ∃ a b dx dy fs gs, x = .ref a ∧ y = .ref b ∧ H2 a = some (.ins C1 dx fs) ∧ H2 b = some (.ins C2 dy gs) ∧
  sp [.ref a, .ref b] H2 (fun v H' => ∃ r, v = .ref r ∧ Q (.ref r) H') E0
structure OpC (K : PySem.W.Frag) (C : Addr) (nm : Str) (nr : Str) (f : Addr) : Prop where
  sf : PySem.W.selfFirst K C = true
  hs : PySem.W.findIn K (.ref C) nm = some (some (.ref f))
  hf : PySem.W.isFn K (.ref f) = true
  hr : PySem.W.findIn K (.ref C) nr = some none
theorem pe_own2 (F : FnOk X.prog X.w X.K X.mg X.base CX0 n f fd ps sp) (hr : Room n X.A) (o1 : OpC X.K C1 (PySem.dunder op.info.2) (dunderR op.info.2) f) (o2 : OpC X.K C2 (PySem.dunder op.info.2) (dunderR op.info.2) g) (hsub : C1 = C2 ∨ PySem.W.subIn X.K (.ref C2) (.ref C1) = some false)
    (hb : Binds X.K fd ps []) (ha : PE X a ta) (hb2 : PE X b tb) : PE X (.BinOp a op b pos) (tOwn2 C1 C2 sp ta tb) := by
  refine ⟨fun pins s σ H Q I h => wpAny_BinOp (binT (R := fun x y H2 => ∃ a b dx dy fs gs, x = .ref a ∧ y = .ref b ∧ H2 a = some (.ins C1 dx fs) ∧ H2 b = some (.ins C2 dy gs) ∧ sp [.ref a, .ref b] H2 (fun v H' => ∃ r, v = .ref r ∧ Q (.ref r) H') E0) ha hb2 I h fun v u s2 x y H2 I2 rx ry q => ?_)⟩
  obtain ⟨p, r, dx, dy, fs, gs, rfl, rfl, hp, hr2, hsp⟩ := q
  cases rx
  cases ry
  obtain ⟨mA, J, _⟩ := ins_get I2.hok hp
  obtain ⟨mB, J', _⟩ := ins_get I2.hok hr2
  obtain ⟨od, J, _⟩ := J.look
  obtain ⟨od', J', _⟩ := J'.look
  obtain ⟨m, hF⟩ := I2.fr
  have r2 : Vals [V.ref p, V.ref r] [Value.ref p, Value.ref r] := .cons rfl (.cons rfl .nil)
  have run : wpAny (model X.prog X.w) X.A (call (.ref f) [Value.ref p, .ref r]) (PySem.W.CmpBack (EP X pins σ Q)) X.xe s2 := by
    refine wpAny_mono (run_fn F hr hb .nil pass0 I2 r2 hsp) (fun r s' z => ?_) fun _ _ x => x
    obtain ⟨v, H', I', rv, t, rfl, q⟩ := z
    cases rv
    exact ⟨V.ref t, H', I', rfl, q⟩
  by_cases e : C1 = C2
  · subst e
    exact PySem.W.binop_K (C := C1) hF I2.ok.mod.kin J J'.type o1.sf o1.hs o1.hf run
  · exact UO.binop2 hF I2.ok.mod.kin J J'.type e o1.sf o2.sf o1.hs o1.hf o2.hs o1.hr o2.hr (hsub.resolve_left e) run
/-- ~x of an instance -/
def tInv (C : Addr) (sp : Sp) (ta : TE) : TE := fun σ H Q => ta σ H fun x H1 => ∃ a dx fs, x = .ref a ∧ H1 a = some (.ins C dx fs) ∧ sp [.ref a] H1 Q E0
theorem pe_inv (F : FnOk X.prog X.w X.K X.mg X.base CX0 n f fd ps sp) (hr : Room n X.A) (hs : PySem.W.findIn X.K (.ref C) "__invert__" = some (some (.ref f))) (hf : PySem.W.isFn X.K (.ref f) = true) (hb : Binds X.K fd ps []) (ha : PE X a ta) : PE X (.UnaryOp .Invert a pos) (tInv C sp ta) := by
  refine ⟨fun pins s σ H Q I h => ?_⟩
  refine wpAny_UnaryOp (thn (ha.run pins s σ H _ I h) fun v s1 ⟨x, H1, I1, r1, q1⟩ => ?_)
  obtain ⟨p, dx, fs, rfl, hp, hsp⟩ := q1
  cases r1
  obtain ⟨mA, J, _⟩ := ins_get I1.hok hp
  obtain ⟨od, J, _⟩ := J.look
  obtain ⟨m, hF⟩ := I1.fr
  refine PySem.W.ksp_inv hF I1.ok.mod.kin J hs hf ?_
  exact run_fn F hr hb .nil pass0 I1 (show Vals [V.ref p] [Value.ref p] from .cons rfl .nil) hsp
end
end U

set_option Elab.async false
set_option linter.all false
set_option maxRecDepth 100000
set_option maxHeartbeats 2000000
/-! == and != by an own __eq__, against any value: at the library's level -/
namespace OQ
open PySem PySem.W PyProof.Rows
section
variable {prog : Program} {w : World} {A : Around} {E : Value → Shared → Prop} {s : Shared} {K : Frag} {x C L f : Addr} {h0 : Heap} {m : Str → Option Value} {ox : Obj} {od : Option Obj} {b tb : Value}
theorem chk_slot {id owner n : String} {rest : List Value} {Q : Unit → Shared → Prop} (hk : builtinKind id = some .slot) (hs : splitId id = some (owner, n)) (ha : argsOk id ⟨.ref x :: rest, []⟩)
    (X : K.In s.heap) (I : InstAt s.heap x ox C od) (hsub : subIn K (.ref C) (.type owner) = some true) (hq : Q () s) : wpAny (model prog w) A (checkBuiltinCall id ⟨.ref x :: rest, []⟩) Q E s := by
  simp only [checkBuiltinCall, hk, hs]
  refine wpAny_bind ?_
  unfold isInstance
  refine wpAny_bind (I.type.here ?_)
  refine (looks_subIn X hsub).here ?_
  rw [if_neg (show ¬ ((!true) = true) from Bool.false_ne_true)]
  cases hsig : Manifest.signature? id with
  | none => exact wpAny_pure hq
  | some sig =>
    simp only [argsOk, hsig] at ha
    have h2 : Bind.checkArgs id sig ⟨.ref x :: rest, []⟩ = pure () := ha
    show wpAny _ A (Bind.checkArgs id sig ⟨.ref x :: rest, []⟩) Q E s
    rw [h2]
    exact wpAny_pure hq
/-- a built-in slot that an own class inherits -/
theorem ifBound_blt {id : String} {name : Str} {args : List Value} {Q : Option Value → Shared → Prop} (X : K.In s.heap) (I : InstAt s.heap x ox C od) (hs : findIn K (.ref C) name = some (some (.builtin id))) (hb : ∀ self, bindSpecial (.builtin id) self = pure (.builtin id, [self]))
    (h : wpAny (model prog w) A (call (.builtin id) (.ref x :: args)) (fun v => Q (some v)) E s) : wpAny (model prog w) A (callSpecialIfBound? (.ref x) name args) Q E s := by
  simp only [callSpecialIfBound?, bindSpecialIfBound?]
  refine wpAny_holding (wpAny_bind (wpAny_bind (wpAny_bind (I.type.here ((looks_findIn X hs).here ?_)))))
  simp only [hb]
  have fin : wpAny (model prog w) A (call (.builtin id) ([.ref x] ++ args) >>= fun v => pure (some v)) Q E s := wpAny_bind (wpAny_mono h (fun v s' h' => wpAny_pure h') fun _ _ h' => h')
  refine wpAny_bind (wpAny_askSetting (wpAny_ite ?_))
  split
  · exact wpAny_bind (wpAny_pure (wpAny_pure fin))
  · exact wpAny_tryCatch (wpAny_bind (wpAny_pure (wpAny_pure fin)))
theorem objNe {Q : Fin → Shared → Prop} (hu : A.units < cLine) (X : K.In s.heap) (I : InstAt s.heap x ox C od) (he : findIn K (.ref C) "__eq__" = some (some (.ref f))) (hf : isFn K (.ref f) = true)
    (h : wpAny (model prog w) A (call (.ref f) [.ref x, b]) (fun v s' => ∃ r, v = .bool r ∧ Q (.done (.ret (.bool (!r)))) s') E s) : wpAny (model prog w) A (Builtin.«object.__ne__» ⟨[.ref x, b], []⟩) Q E s := by
  unfold Builtin.«object.__ne__»
  show wpAny _ A (cRoomFor "comparison" [.ref x, b] >>= _) _ _ s
  refine wpAny_bind (wpAny_cRoomFor hu ?_)
  refine wpAny_bind (m := callSpecialIfBound? (.ref x) (Str.ofString "__eq__") [b]) (ifBound_K X I he hf (wpAny_mono h (fun v s' q => ?_) fun _ _ e => e))
  obtain ⟨r, rfl, q⟩ := q
  show wpAny _ A (truthy (.bool r) >>= _) _ _ s'
  exact wpAny_bind (wpAny_truthy_bool (wpAny_pure q))
theorem ne_K {Q : Value → Shared → Prop} (hu : A.units + 1 < cLine) (FR : Fr h0 L s.heap m) (X0 : K.In h0) (I : InstAt s.heap x ox C od) (hb : Looks (model prog w) s.heap (typeOf b) tb) (hn : notFirst K C tb = true)
    (hne : findIn K (.ref C) "__ne__" = some (some (.builtin "object.__ne__"))) (hsub : subIn K (.ref C) (.type "object") = some true) (he : findIn K (.ref C) "__eq__" = some (some (.ref f))) (hf : isFn K (.ref f) = true)
    (h : wpAny (model prog w) A.in1 (call (.ref f) [.ref x, b]) (fun v s' => ∃ r, v = .bool r ∧ Q (.bool (!r)) s') E s) : wpAny (model prog w) A (richCompare .NotEq (.ref x) b) Q E s := by
  have X := X0.keeps FR.keep
  have hu0 : A.units < cLine := Nat.lt_of_succ_lt hu
  have one : wpAny (model prog w) A (tryCompare (.ref x) (cmpInfo .NotEq).2.1 b) (fun r s' => ∃ v, r = some v ∧ Q v s') E s := by
    unfold tryCompare
    refine wpAny_bind (ifBound_blt X I hne F.slot_zip_ne.bind ?_)
    refine wpAny_call (codeAny_call_builtin F.slot_zip_ne.plain F.cmpEntry_ne (chk_slot F.cmpKind_ne F.cmpSplit_ne (F.cmpArgs_ne _ _) X I hsub ?_))
    refine objNe (A := A.in1) hu X I he hf (wpAny_mono h (fun v s' q => ?_) fun _ _ e => e)
    obtain ⟨r, rfl, q⟩ := q
    exact ⟨r, rfl, wpAny_pure ⟨_, rfl, q⟩⟩
  unfold richCompare
  simp only [oneThing_ref]
  refine wpAny_holding (wpAny_bind (wpAny_cRoomFor hu0 ?_))
  refine wpAny_bind (I.type.here (wpAny_bind (hb.here ?_)))
  split
  · rename_i q
    have e : subIn K tb (.ref C) = some false := by
      rcases Bool.or_eq_true_iff.mp hn with e | e
      · rw [beq_iff_eq.mp e] at q; simp at q
      · exact beq_iff_eq.mp e
    refine wpAny_bind ((looks_subIn X e).here ?_)
    simp only [Bool.false_eq_true, if_false]
    refine wpAny_bind (wpAny_mono one (fun r s' z => ?_) fun _ _ e => e)
    obtain ⟨v, rfl, hq⟩ := z
    exact wpAny_pure hq
  · refine wpAny_bind (wpAny_pure ?_)
    simp only [Bool.false_eq_true, if_false]
    refine wpAny_bind (wpAny_mono one (fun r s' z => ?_) fun _ _ e => e)
    obtain ⟨v, rfl, hq⟩ := z
    exact wpAny_pure hq
end
end OQ

set_option Elab.async false
set_option linter.all false
set_option maxRecDepth 100000
set_option maxHeartbeats 2000000
/-! == and != of an instance by its own __eq__, against any value -/
namespace U
open PySem PySem.Spec PyProof.Rows L2
open Evl (Ex)
section
variable {X : Cx} {n : Nat} {sp : Sp} {C f : Addr} {fd : FuncData} {ps : List Str}
/-- a def called somewhere below the running body -/
theorem run_sub {A : Around} {pins : List (Addr × Obj)} {σ : L2.St} {H : Hp} {s : Shared} {Q : VK} {us : List Value} {vs : List V} (F : FnOk X.prog X.w X.K X.mg X.base CX0 n f fd ps sp) (sb : Sub X n A) (hb : Binds X.K fd ps []) (I : Inv X pins σ H s) (r : Vals vs us) (h : sp vs H Q E0) :
    wpAny (model X.prog X.w) A (call (.ref f) us) (EP X pins σ Q) X.xe s := by
  have e0 : Env0 X.prog X.w X.K X.mg X.base A X.stack s H := by
    have e := I.env0
    exact ⟨by rw [sb.fr]; exact e.frames, e.mod, e.bs, e.bsz, e.funs, e.frf, e.hok, e.bare⟩
  have hl := F.len _ _ _ _ h
  refine wpAny_call (codeAny_mono (F.run A X.stack s H ⟨us, []⟩ us vs _ E0 sb.room e0 (by
    have := hb s us I.kIn (by rw [List.append_nil, ← r.length]; exact hl)
    simpa using this) r h) fun r s' hq => ?_)
  cases r with
  | error e => exact pass0 pins σ H s e s' I hq
  | ok fl =>
    cases fl with
    | ret w => exact I.after hq
    | next => exact False.elim hq
    | brk => exact False.elim hq
    | cont => exact False.elim hq
/-- the own == of a class -/
structure EqC (K : PySem.W.Frag) (C f : Addr) : Prop where
  eq : PySem.W.findIn K (.ref C) "__eq__" = some (some (.ref f))
  fn : PySem.W.isFn K (.ref f) = true
  ne : PySem.W.findIn K (.ref C) "__ne__" = some (some (.builtin "object.__ne__"))
  ob : PySem.W.subIn K (.ref C) (.type "object") = some true
/-- x op y: x of C, y of any type that does not come first; the truth told, or its opposite -/
def rOwnQ (K : PySem.W.Frag) (C : Addr) (sp : Sp) (g : Bool → Bool) : R2 := fun x y H Q => ∃ a dx fs t, x = .ref a ∧ H a = some (.ins C dx fs) ∧ TyX K H y t ∧ PySem.W.notFirst K C t = true ∧ sp [.ref a, y] H (fun v H' => ∃ b, v = .bl b ∧ Q (.bl (g b)) H') E0
theorem op_eqOwn (F : FnOk X.prog X.w X.K X.mg X.base CX0 n f fd ps sp) (hr : Room n X.A) (e : EqC X.K C f) (hb : Binds X.K fd ps []) : OpR X (compareOp .Eq) (rOwnQ X.K C sp id) := by
  intro pins s σ H x y v u Q I rx ry hq
  obtain ⟨a, dx, fs, t, rfl, ha, ty, nf, hsp⟩ := hq
  cases rx
  obtain ⟨mA, J, _⟩ := ins_get I.hok ha
  obtain ⟨od, J, _⟩ := J.look
  obtain ⟨m, hF⟩ := I.fr
  obtain ⟨P, kit, hP, _⟩ := kit_of I ry ty
  show wpAny (model X.prog X.w) X.A (richCompare .Eq (.ref a) u) (EP X pins σ Q) X.xe s
  refine PySem.W.cmp_K (op := .Eq) hr.units0 hF I.ok.mod.kin J (kit.ty _ _ I.kIn hP) nf e.eq e.fn ?_
  refine wpAny_mono (run_fn F hr hb .nil pass0 I (show Vals [V.ref a, y] [Value.ref a, u] from .cons rfl (.cons ry .nil)) hsp) (fun r s' z => ?_) fun _ _ x => x
  obtain ⟨v, H', I', rv, b, rfl, q⟩ := z
  cases rv
  exact ⟨V.bl b, H', I', rfl, q⟩
theorem op_neOwn (F : FnOk X.prog X.w X.K X.mg X.base CX0 n f fd ps sp) (hr : Room (n + 1) X.A) (e : EqC X.K C f) (hb : Binds X.K fd ps []) : OpR X (compareOp .NotEq) (rOwnQ X.K C sp not) := by
  intro pins s σ H x y v u Q I rx ry hq
  obtain ⟨a, dx, fs, t, rfl, ha, ty, nf, hsp⟩ := hq
  cases rx
  obtain ⟨mA, J, _⟩ := ins_get I.hok ha
  obtain ⟨od, J, _⟩ := J.look
  obtain ⟨m, hF⟩ := I.fr
  obtain ⟨P, kit, hP, _⟩ := kit_of I ry ty
  show wpAny (model X.prog X.w) X.A (richCompare .NotEq (.ref a) u) (EP X pins σ Q) X.xe s
  refine OQ.ne_K (Nat.lt_of_le_of_lt (Nat.add_le_add_left (by decide : 1 ≤ 64) _) hr.units) hF I.ok.mod.kin J (kit.ty _ _ I.kIn hP) nf e.ne e.ob e.eq e.fn ?_
  have sb : Sub X n X.A.in1 := (show Sub X (n + 1) X.A from ⟨hr, rfl⟩).in1
  refine wpAny_mono (run_sub F sb hb I (show Vals [V.ref a, y] [Value.ref a, u] from .cons rfl (.cons ry .nil)) hsp) (fun r s' z => ?_) fun _ _ x => x
  obtain ⟨v, H', I', rv, b, rfl, q⟩ := z
  cases rv
  exact ⟨b, rfl, V.bl (!b), H', I', rfl, q⟩
end
section
variable {K : PySem.W.Frag} {C : Addr}
/-- a built-in type does not come first -/
theorem nf_ty {T : String} {l : List Value} (h : fastBuiltinMro T = some l) (h2 : l.contains (.ref C) = false) : PySem.W.notFirst K C (.type T) = true := by
  unfold PySem.W.notFirst
  have : PySem.W.subIn K (.type T) (.ref C) = some false := by
    show (fastBuiltinMro T).map (·.contains (.ref C)) = some false
    rw [h]
    exact congrArg some h2
  rw [this]
  simp
theorem nf_data (d : PyData) : PySem.W.notFirst K C (.type (tyOf d)) = true := by
  cases d with
  | none => exact nf_ty (T := "NoneType") (l := [.type "NoneType", .type "object"]) (by decide +kernel) (by simp)
  | bool _ => exact nf_ty (T := "bool") (l := [.type "bool", .type "int", .type "object"]) (by decide +kernel) (by simp)
  | int _ => exact nf_ty (T := "int") (l := [.type "int", .type "object"]) (by decide +kernel) (by simp)
  | str _ => exact nf_ty (T := "str") (l := [.type "str", .type "object"]) (by decide +kernel) (by simp)
  | list _ => exact nf_ty (T := "list") (l := [.type "list", .type "object"]) (by decide +kernel) (by simp)
  | tuple _ => exact nf_ty (T := "tuple") (l := [.type "tuple", .type "object"]) (by decide +kernel) (by simp)
  | dict _ => exact nf_ty (T := "dict") (l := [.type "dict", .type "object"]) (by decide +kernel) (by simp)
end
end U

set_option Elab.async false
set_option linter.all false
set_option maxRecDepth 100000
set_option maxHeartbeats 4000000
/-! len(o) and x in o by own methods; data in a tuple of data -/
namespace U
open PySem PySem.Spec PyProof.Rows L2
open Evl (Ex)
section
variable {X : Cx} {n : Nat} {sp : Sp} {C f : Addr} {fd : FuncData} {ps : List Str}
/-- an own method found by its special name -/
structure SpM (K : PySem.W.Frag) (C f : Addr) (name : Str) : Prop where
  fi : PySem.W.findIn K (.ref C) name = some (some (.ref f))
  fn : PySem.W.isFn K (.ref f) = true
def rLenO (C : Addr) (sp : Sp) : List V → Hp → VK → Prop := fun xs H Q => ∃ a dx fs, xs = [.ref a] ∧ H a = some (.ins C dx fs) ∧ sp [.ref a] H (fun v H' => ∃ n : Nat, v = .int n ∧ n ≤ 100000 ∧ Q (.int n) H') E0
theorem call_lenO (F : FnOk X.prog X.w X.K X.mg X.base CX0 n f fd ps sp) (hr : Room (n + 1) X.A) (e : SpM X.K C f "__len__") (hb : Binds X.K fd ps []) : CallR X (.builtin "len") (rLenO C sp) := by
  intro pins s σ H xs us Q I r h
  obtain ⟨a, dx, fs, rfl, ha, hsp⟩ := h
  obtain ⟨u, rfl, ru⟩ := vals1 r
  cases ru
  obtain ⟨mA, J, _⟩ := ins_get I.hok ha
  obtain ⟨od, J, _⟩ := J.look
  obtain ⟨m, hF⟩ := I.fr
  refine PySem.W.len_K hF I.ok.mod.kin J e.fi e.fn ?_
  refine wpAny_mono (run_sub F (Sub.in1 ⟨hr, rfl⟩) hb I (show Vals [V.ref a] [Value.ref a] from .cons rfl .nil) hsp) (fun v s' z => ?_) fun _ _ x => x
  obtain ⟨v', H', I', rv, n, rfl, hn, q⟩ := z
  obtain ⟨t, rfl⟩ := rv
  exact ⟨⟨by omega, by omega⟩, .int n, H', I'.tok _, ⟨_, rfl⟩, q⟩
def rInO (C : Addr) (sp : Sp) (g : Bool → Bool) : R2 := fun x y H Q => ∃ a dx fs, y = .ref a ∧ H a = some (.ins C dx fs) ∧ sp [.ref a, x] H (fun v H' => ∃ b, v = .bl b ∧ Q (.bl (g b)) H') E0
theorem op_inO (F : FnOk X.prog X.w X.K X.mg X.base CX0 n f fd ps sp) (hr : Room n X.A) (e : SpM X.K C f "__contains__") (hb : Binds X.K fd ps []) : OpR X (compareOp .In) (rInO C sp id) := by
  intro pins s σ H x y v u Q I rx ry h
  obtain ⟨a, dx, fs, rfl, ha, hsp⟩ := h
  cases ry
  obtain ⟨mA, J, _⟩ := ins_get I.hok ha
  obtain ⟨od, J, _⟩ := J.look
  obtain ⟨m, hF⟩ := I.fr
  refine PySem.W.in_K hF I.ok.mod.kin J e.fi e.fn ?_
  refine wpAny_mono (run_sub F ⟨hr, rfl⟩ hb I (show Vals [V.ref a, x] [Value.ref a, v] from .cons rfl (.cons rx .nil)) hsp) (fun v s' z => ?_) fun _ _ x => x
  obtain ⟨v', H', I', rv, b, rfl, q⟩ := z
  cases rv
  exact wpAny_truthy_bool ⟨.bl b, H', I', rfl, q⟩
theorem op_notInO (F : FnOk X.prog X.w X.K X.mg X.base CX0 n f fd ps sp) (hr : Room n X.A) (e : SpM X.K C f "__contains__") (hb : Binds X.K fd ps []) : OpR X (compareOp .NotIn) (rInO C sp not) := by
  intro pins s σ H x y v u Q I rx ry h
  obtain ⟨a, dx, fs, rfl, ha, hsp⟩ := h
  cases ry
  obtain ⟨mA, J, _⟩ := ins_get I.hok ha
  obtain ⟨od, J, _⟩ := J.look
  obtain ⟨m, hF⟩ := I.fr
  refine PySem.W.notIn_K hF I.ok.mod.kin J e.fi e.fn ?_
  refine wpAny_mono (run_sub F ⟨hr, rfl⟩ hb I (show Vals [V.ref a, x] [Value.ref a, v] from .cons rfl (.cons rx .nil)) hsp) (fun v s' z => ?_) fun _ _ x => x
  obtain ⟨v', H', I', rv, b, rfl, q⟩ := z
  cases rv
  exact wpAny_truthy_bool ⟨.bl (!b), H', I', rfl, q⟩
/-- x in t, data in a tuple of data -/
def rInDT (K : PySem.W.Frag) : R2 := fun x y H Q => ∃ d ds, Dp K H x d ∧ Dp K H y (.tuple ds) ∧ SeqAt.shaped d = true ∧ SeqAt.shaped (.tuple ds) = true ∧ Q (.bl (ds.any fun z => PyData.eqv z d)) H
theorem op_inDT (hu : X.A.units + 65 < cLine) : OpR X (compareOp .In) (rInDT X.K) := by
  intro pins s σ H x y v u Q I rx ry h
  obtain ⟨d, ds, hd, he, sd, se, q⟩ := h
  obtain ⟨as, r1⟩ := Dp.reads I d x v hd rx
  obtain ⟨bs, r2⟩ := Dp.reads I (.tuple ds) y u he ry
  exact SeqAt.in_tuple_reads r2 r1 (SeqAt.canLay_of_shaped se) (SeqAt.canLay_of_shaped sd) (room_in_shaped sd hu) ⟨.bl _, H, I, rfl, q⟩
end
end U

set_option Elab.async false
set_option linter.all false
set_option maxRecDepth 100000
set_option maxHeartbeats 4000000
/-! an own __iter__ that gives a tuple's iterator: walked, and listed -/
namespace U
open PySem PySem.Spec PyProof.Rows L2
open Evl (Ex)
open ItX (dropH dropH_upd inv_drop inv_fp)
/-- a tuple's iterator at its start -/
def tiObj (t : Addr) : Obj := { cls := .type "tuple_iterator", data := .fields #[.ref t, .int 0 0] }
def TiO (t it : Addr) : HO := .ext fun h => h.get? it = some (tiObj t)
theorem tiO_ok {P : Program} {w : World} {H : Hp} {h : Heap} {t it : Addr} (e : h.get? it = some (tiObj t)) : ObjOk P w H h it (TiO t it) := ⟨e, ⟨_, e⟩, fun h1 h2 q k => k _ q⟩
theorem ti_at {h : Heap} {t it : Addr} (e : h.get? it = some (tiObj t)) : h.IsTupleIter it t 0 := ⟨_, e, rfl, rfl⟩
section
variable {prog : Program} {w : World} {A : Around} {E : Value → Shared → Prop} {s : Shared} {t : Addr} {items : Array Value}
theorem call_iterTup {Q : Value → Shared → Prop} (hl : s.heap.IsTuple t items) (h : Q (.ref s.heap.objs.size) { s with heap := s.heap.push (tiObj t) }) : wpAny (model prog w) A (call (.builtin "iter") [.ref t]) Q E s := by
  refine Calls.call_function_entry (by decide +kernel) (by decide +kernel) PySem.W.kdk_entry_iter (PySem.W.kdk_args_iter _) ?_
  unfold Builtin.«iter»
  refine wpAny_bind (m := someArgs "iter" 1 2 _) (wpAny_of_eq (a := [Value.ref t]) (by first | rfl | kernel_rfl!) ?_)
  show wpAny _ _ (pyIter (.ref t) >>= _) _ _ _
  refine wpAny_bind (wpAny_pyIter_tuple hl ?_)
  exact wpAny_pure ⟨_, rfl, h⟩
end
def rIterT (K : PySem.W.Frag) (n : Nat) : List V → Hp → VK → Prop := fun xs H Q => ∃ (t : Addr) (zs : List V), xs = [.ref t] ∧ SqT K H t zs ∧ ∀ it, H it = none → n ≤ it → Q (.ref it) (upd H it (TiO t it))
section
variable {X : Cx}
theorem call_iterT : CallR X (.builtin "iter") (rIterT X.K X.s_0.heap.objs.size) := by
  intro pins s σ H xs us Q I r h
  obtain ⟨t, zs, rfl, hq, q⟩ := h
  obtain ⟨u, rfl, ru⟩ := vals1 r
  cases ru
  obtain ⟨its, rv, pl, hz⟩ := I.tuple hq
  refine call_iterTup (show s.heap.IsTuple t its.toArray from pl) ?_
  exact ⟨.ref s.heap.objs.size, _, I.laid (t' := s.toks) (fun b u e => Heap.get?_push_of_some _ e) (Nat.le_refl _) (tiO_ok (Heap.get?_push_size _ rfl)), rfl, q _ (I.hok.fresh (Nat.le_refl _)) I.sz⟩
end
/-- what the own __iter__ does: called where H stands, it gives a new iterator of the tuple t -/
def IterG (P : Program) (w : World) (K : PySem.W.Frag) (mg : Str → Option Value) (base : Heap) (k : Nat) (C f : Addr) (fld : Str) : Prop :=
  ∀ (A : Around) (outer : List Env) (s : Shared) (H : Hp) (a t dx : Addr) (fs : List (Str × V)) (xs : List V) (Q : VK), Room (k + 1) A → Env0 P w K mg base A outer s H → H a = some (.ins C dx fs) → fs.lookup fld = some (.ref t) → SqT K H t xs →
    (∀ it, H it = none → s.heap.objs.size ≤ it → Q (.ref it) (upd H it (TiO t it))) → codeAny (model P w) A (.call (.ref f) ⟨[.ref a], []⟩) (CR CX0 outer P w H s Q E0) s
section
variable {X : Cx} {k : Nat} {C f : Addr} {fld : Str} {tg : Expr}
theorem iter_run {A : Around} {pins : List (Addr × Obj)} {σ : L2.St} {H : Hp} {s : Shared} {Q : VK} {a t dx : Addr} {fs : List (Str × V)} {xs : List V} (G : IterG X.prog X.w X.K X.mg X.base k C f fld) (sb : Sub X (k + 1) A) (I : Inv X pins σ H s) (ha : H a = some (.ins C dx fs)) (hf : fs.lookup fld = some (.ref t)) (ht : SqT X.K H t xs)
    (q : ∀ it, H it = none → s.heap.objs.size ≤ it → Q (.ref it) (upd H it (TiO t it))) : wpAny (model X.prog X.w) A (call (.ref f) [.ref a]) (EP X pins σ Q) X.xe s := by
  have e0 : Env0 X.prog X.w X.K X.mg X.base A X.stack s H := by
    have e := I.env0
    exact ⟨by rw [sb.fr]; exact e.frames, e.mod, e.bs, e.bsz, e.funs, e.frf, e.hok, e.bare⟩
  refine wpAny_call (codeAny_mono (G A X.stack s H a t dx fs xs Q sb.room e0 ha hf ht q) fun r s' hq => ?_)
  cases r with
  | error e => exact pass0 pins σ H s e s' I hq
  | ok fl =>
    cases fl with
    | ret w => exact I.after hq
    | next => exact False.elim hq
    | brk => exact False.elim hq
    | cont => exact False.elim hq
theorem it_of {M : Model} {A : Around} {E : Value → Shared → Prop} {s : Shared} {Q : Value → Shared → Prop} {it t : Addr} (e : s.heap.get? it = some (tiObj t)) (h : Q (.ref it) s) : PySem.W.OwitIt M A Q E (.ref it) s := by
  unfold PySem.W.OwitIt
  exact wpAny_specialOf (name := Str.ofString "__next__") (show s.TypeIs (.ref it) "tuple_iterator" from ⟨_, e, rfl⟩) PySem.F.slot_tuple_iterator_next.lookup h
/-- an instance, its items those of the tuple that its field holds -/
def iOwn (K : PySem.W.Frag) (C : Addr) (fld : Str) (te : TE) : TI := fun σ H R => te σ H fun x H1 => ∃ a dx fs t xs, x = .ref a ∧ H1 a = some (.ins C dx fs) ∧ fs.lookup fld = some (.ref t) ∧ SqT K H1 t xs ∧ R (Itt K t) H1
theorem pi_own {e : Expr} {te : TE} (G : IterG X.prog X.w X.K X.mg X.base k C f fld) (hr : Room (k + 1) X.A) (m : SpM X.K C f "__iter__") (he : PE X e te) : PI X tg e (iOwn X.K C fld te) := by
  refine ⟨fun pins s σ H R I h => ?_⟩
  refine thn (he.run pins s σ H _ I h) fun v s1 ⟨x, H1, I1, r1, q1⟩ => ?_
  obtain ⟨a, dx, fs, t, xs, rfl, ha, hf, ht, q⟩ := q1
  cases r1
  obtain ⟨mA, J, _⟩ := ins_get I1.hok ha
  obtain ⟨od, J, _⟩ := J.look
  obtain ⟨m1, hF⟩ := I1.fr
  refine PySem.W.owit_iter hF I1.ok.mod.kin J m.fi m.fn ?_
  refine wpAny_mono (iter_run (Q := fun v H' => ∃ it, v = .ref it ∧ H1 it = none ∧ s1.heap.objs.size ≤ it ∧ H' = upd H1 it (TiO t it)) G ⟨hr, rfl⟩ I1 ha hf ht fun it h1 h2 => ⟨it, rfl, h1, h2, rfl⟩) (fun u s2 z => ?_) fun _ _ y => y
  obtain ⟨v, H2, I2, rv, it, rfl, hi, hz, rfl⟩ := z
  cases rv
  have eo : s2.heap.get? it = some (tiObj t) := (I2.hok it _ upd_same).1
  refine it_of eo ?_
  have hd := inv_drop I2 (show upd H1 it (TiO t it) it = some (.ext _) from upd_same)
  rw [dropH_upd hi] at hd
  refine ⟨it, [it], _, _, H1, rfl, hd, turn_tuple t it, ti_at eo, fun b hb => ?_, q⟩
  have e : b = it := by simpa using hb
  rw [e]
  have fp := inv_fp I2 (show upd H1 it (TiO t it) it = some (TiO t it) from upd_same) (Nat.le_trans I1.sz hz)
  rw [dropH_upd hi] at fp
  exact fp
/-! ### list(o) -/
theorem run_sub0 {n : Nat} {sp : Sp} {f : Addr} {fd : FuncData} {ps : List Str} {A : Around} {pins : List (Addr × Obj)} {σ : L2.St} {H : Hp} {s : Shared} {Q : VK} {E : Value → Shared → Prop} {us : List Value} {vs : List V} (F : FnOk X.prog X.w X.K X.mg X.base CX0 n f fd ps sp) (sb : Sub X n A) (hb : Binds X.K fd ps []) (I : Inv X pins σ H s) (r : Vals vs us) (h : sp vs H Q E0) :
    wpAny (model X.prog X.w) A (call (.ref f) us) (EP X pins σ Q) E s := by
  have e0 : Env0 X.prog X.w X.K X.mg X.base A X.stack s H := by
    have e := I.env0
    exact ⟨by rw [sb.fr]; exact e.frames, e.mod, e.bs, e.bsz, e.funs, e.frf, e.hok, e.bare⟩
  have hl := F.len _ _ _ _ h
  refine wpAny_call (codeAny_mono (F.run A X.stack s H ⟨us, []⟩ us vs _ E0 sb.room e0 (by
    have := hb s us I.kIn (by rw [List.append_nil, ← r.length]; exact hl)
    simpa using this) r h) fun r s' hq => ?_)
  cases r with
  | error e => exact (show False from hq).elim
  | ok fl =>
    cases fl with
    | ret w => exact I.after hq
    | next => exact False.elim hq
    | brk => exact False.elim hq
    | cont => exact False.elim hq
theorem len_sub {E : Value → Shared → Prop} {n : Nat} {sp : Sp} {fl a dx : Addr} {fs : List (Str × V)} {fd : FuncData} {ps : List Str} {A : Around} {pins : List (Addr × Obj)} {σ : L2.St} {H : Hp} {s : Shared} {Q : VK} (F : FnOk X.prog X.w X.K X.mg X.base CX0 n fl fd ps sp) (sb : Sub X n A.in1) (e : SpM X.K C fl "__len__") (hb : Binds X.K fd ps []) (I : Inv X pins σ H s)
    (ha : H a = some (.ins C dx fs)) (hsp : sp [.ref a] H (fun v H' => ∃ n : Nat, v = .int n ∧ n ≤ 100000 ∧ Q (.int n) H') E0) : wpAny (model X.prog X.w) A (call (.builtin "len") [.ref a]) (EP X pins σ Q) E s := by
  obtain ⟨mA, J, _⟩ := ins_get I.hok ha
  obtain ⟨od, J, _⟩ := J.look
  obtain ⟨m, hF⟩ := I.fr
  refine PySem.W.len_K hF I.ok.mod.kin J e.fi e.fn ?_
  refine wpAny_mono (run_sub0 F sb hb I (show Vals [V.ref a] [Value.ref a] from .cons rfl .nil) hsp) (fun v s' z => ?_) fun _ _ x => x
  obtain ⟨v', H', I', rv, n, rfl, hn, q⟩ := z
  obtain ⟨t, rfl⟩ := rv
  exact ⟨⟨by omega, by omega⟩, .int n, H', I'.tok _, ⟨_, rfl⟩, q⟩
theorem lenQ {sp : Sp} {a : Addr} {H1 : Hp} {n : Nat} (h : sp [.ref a] H1 (fun v H2 => v = .int (n : Int) ∧ Ex H1 H2) E0) (hz : n ≤ 50000) : sp [.ref a] H1 (fun v H' => ∃ m : Nat, v = .int m ∧ m ≤ 100000 ∧ ((V.int m = .int (n : Int)) ∧ Ex H1 H')) E0 := by
  have e : (fun (v : V) (H' : Hp) => ∃ m : Nat, v = .int m ∧ m ≤ 100000 ∧ ((V.int m = .int (n : Int)) ∧ Ex H1 H')) = fun v H2 => v = .int (n : Int) ∧ Ex H1 H2 := by
    funext v H'
    refine propext ⟨fun ⟨m, h1, h2, h3, h4⟩ => ⟨h1.trans h3, h4⟩, fun ⟨h1, h2⟩ => ⟨n, h1, by omega, rfl, h2⟩⟩
  rw [e]
  exact h
theorem list_loop {A1 : Around} {pins : List (Addr × Obj)} {σ : L2.St} {H : Hp} {S it t : Addr} {xs : List V} {Rs : Result → Shared → Prop} (hd : A1.in1.handled = none) (hz : xs.length ≤ 50000) (hS : H S = none) (ht : SqT X.K H t xs)
    (f0 : H it = none) (fS : it ≠ S) (f1 : it ≠ X.env.locals) (f3 : it ∈ X.ex ∨ X.s_0.heap.objs.size ≤ it) (f4 : ∀ x c, X.env.cells.lookup x = some c → c ≠ it) (f5 : ∀ p ∈ X.pn ++ pins, p.1 ≠ it) (hdone : ∀ s, Inv X pins σ (upd H S (.lst xs)) s → Rs (.ok (.ret .none)) s) :
    ∀ (m i : Nat) (s : Shared), xs.length - i = m → i ≤ xs.length → Inv X pins σ (upd H S (.lst (xs.take i))) s → s.heap.IsTupleIter it t i → codeAny (model X.prog X.w) A1 (.builtin "list.extend.loop" ⟨[.ref S, .ref it, .none], []⟩) Rs s := by
  have hit : upd H S (.lst xs) it = none := by rw [upd_ne fS]; exact f0
  intro m
  induction m with
  | zero =>
    intro i s hm hi I st
    have hie : i = xs.length := by omega
    subst hie
    refine codeAny_builtin PySem.F.entry_extend_loop ?_
    rw [Around.under_plainId PySem.F.plain_extend_loop _]
    show wpAny _ A1.in1 (pyNext (.ref it) >>= _) _ _ s
    have ht' : SqT X.K (upd H S (.lst (xs.take xs.length))) t xs := Evl.ex_t (Ex.new hS) ht
    obtain ⟨its, rv, p, _⟩ := I.tuple ht'
    have hl := rv.length
    refine wpAny_bind (wpAny_pyNext_tuple_end hd st (show s.heap.IsTuple t its.toArray from p) (by simp; omega) fun h' eb => ?_)
    rw [List.take_length] at I
    exact wpAny_pure (hdone _ (I.turned (t' := s.toks) (fun b o hb e => eb b o hb e) hit f1 f3 f4 f5))
  | succ m ih =>
    intro i s hm hi I st
    refine codeAny_builtin PySem.F.entry_extend_loop ?_
    rw [Around.under_plainId PySem.F.plain_extend_loop _]
    show wpAny _ A1.in1 (pyNext (.ref it) >>= _) _ _ s
    have ht' : SqT X.K (upd H S (.lst (xs.take i))) t xs := Evl.ex_t (Ex.new hS) ht
    obtain ⟨its, rv, p, _⟩ := I.tuple ht'
    have hil : i < xs.length := by omega
    obtain ⟨u, hu, ru⟩ := rv.get (List.getElem?_eq_getElem hil)
    have hit2 : upd H S (.lst (xs.take i)) it = none := by rw [upd_ne fS]; exact f0
    refine wpAny_bind (wpAny_pyNext_tuple_item st (show s.heap.IsTuple t its.toArray from p) (x := u) (by simpa using hu) fun h' st' sb => ?_)
    have I1 : Inv X pins σ (upd H S (.lst (xs.take i))) { s with heap := h' } := I.turned (t' := s.toks) (fun b o hb e => (sb.2 b hb).trans e) hit2 f1 f3 f4 f5
    show wpAny _ A1.in1 (updateSeq S (·.push u) >>= _) _ _ _
    obtain ⟨z, its2, k, r2, hl, e⟩ := I1.lstM upd_same
    have hzi : (xs.take i).length = i := by rw [List.length_take]; omega
    have hs2 := sizeLine_eq
    refine wpAny_bind (wpAny_updateSeq e rfl (wpAny_pure ⟨plainId_quiet PySem.F.plain_extend_loop _, ?_⟩) (by rw [List.size_toArray]; omega) (by show (its2.toArray.push u).size ≤ sizeLine + 1; rw [Array.size_push, List.size_toArray]; omega))
    have I2 := I1.lset (f := (·.push u)) (its' := its2 ++ [u]) (t' := s.toks) upd_same e (by simp) (r2.append (.cons ru .nil)) (by rw [List.length_append, List.length_singleton]; omega)
    have et : xs.take i ++ [xs[i]] = xs.take (i + 1) := by rw [List.take_add_one, List.getElem?_eq_getElem hil]; rfl
    rw [upd_upd, et] at I2
    refine ih (i + 1) _ (by omega) hil I2 ?_
    obtain ⟨o, ho, c, d⟩ := st'
    exact ⟨o, (Heap.get?_update_other _ _ (Ne.symm fS)).trans ho, c, d⟩
def rListO (K : PySem.W.Frag) (C : Addr) (fld : Str) (spL : Sp) : List V → Hp → VK → Prop := fun xs H Q => ∃ a dx fs t ys, xs = [.ref a] ∧ H a = some (.ins C dx fs) ∧ fs.lookup fld = some (.ref t) ∧ SqT K H t ys ∧ ys.length ≤ 50000 ∧
  (∀ H1, Ex H H1 → spL [.ref a] H1 (fun v H2 => v = .int (ys.length : Int) ∧ Ex H1 H2) E0) ∧ ∀ S H', H S = none → Ex H H' → H' S = some (.lst ys) → Q (.ref S) H'
theorem call_listO {n : Nat} {spL : Sp} {fl : Addr} {fdl : FuncData} {psl : List Str} (G : IterG X.prog X.w X.K X.mg X.base k C f fld) (m : SpM X.K C f "__iter__") (FL : FnOk X.prog X.w X.K X.mg X.base CX0 n fl fdl psl spL) (bL : Binds X.K fdl psl []) (mL : SpM X.K C fl "__len__") (hn : n ≤ k) (hr : Room (k + 3) X.A) (hc : X.calm = true) : CallR X (.type "list") (rListO X.K C fld spL) := by
  intro pins s σ H xs us Q I rv h
  obtain ⟨a, dx, fs, t, ys, rfl, ha, hf, ht, hz, hsp, hq⟩ := h
  obtain ⟨u, rfl, ru⟩ := rv.one
  cases ru
  have sb1 : Sub X (k + 1) X.A.in1.in1 := Sub.in1 (Sub.in1 (⟨hr, rfl⟩ : Sub X (k + 3) X.A))
  have sb2 : Sub X n X.A.in1.in1.in1 := (Sub.in1 sb1).mono hn
  refine callType_codes (Q₁ := fun obj s₁ => obj = .ref s.heap.objs.size ∧ s₁ = { s with heap := s.heap.push { cls := .type "list", data := .seq #[] } }) PySem.F.called_list (PySem.F.typeCall_list_1 _) PySem.F.entry_list_init
    (code_list_new _ ⟨rfl, rfl⟩) fun obj s₁ h₁ => ?_
  obtain ⟨rfl, rfl⟩ := h₁
  have hS : (s.heap.push { cls := .type "list", data := .seq #[] }).get? s.heap.objs.size = some { cls := .type "list", data := .seq #[] } := Heap.get?_push_size _ rfl
  refine ⟨⟨_, hS, rfl⟩, PySem.F.args_list_init_2 _ _, ?_⟩
  have fr : H s.heap.objs.size = none := I.hok.fresh (Nat.le_refl _)
  have I1 : Inv X pins σ (upd H s.heap.objs.size (.lst [])) { s with heap := s.heap.push { cls := .type "list", data := .seq #[] } } := I.lnew (its := []) (t' := s.toks) .nil (Nat.zero_le _)
  show wpAny _ _ (do let old ← Builtin.List.listItems (.ref s.heap.objs.size); Builtin.List.listUpdate (.ref s.heap.objs.size) (fun _ => #[]); letGo old.toList.reverse; Builtin.List.listExtendWith (.ref s.heap.objs.size) (.ref a) .none) _ _ _
  refine wpAny_bind ?_
  unfold Builtin.List.listItems
  refine wpAny_bind (wpAny_seqItems hS rfl (wpAny_pure ?_))
  show wpAny _ _ (updateSeq s.heap.objs.size (fun _ => #[]) >>= fun _ => letGo (#[] : Array Value).toList.reverse >>= fun _ => Builtin.List.listExtendWith (.ref s.heap.objs.size) (.ref a) .none) _ _ _
  refine wpAny_bind (wpAny_updateSeq hS rfl ?_)
  have I2 := I1.lset (f := fun _ => #[]) (its := []) (its' := []) (ys := []) (t' := s.toks) upd_same hS rfl .nil (Nat.zero_le _)
  rw [upd_upd] at I2
  refine wpAny_bind (wpAny_letGo ?_)
  generalize s.heap.objs.size = S at *
  have haS : a ≠ S := ne_of_none ha fr
  have eS : Ex H (upd H S (.lst [])) := Ex.new fr
  have ha2 := eS _ _ ha
  have ht2 := Evl.ex_t eS ht
  generalize hH2 : upd H S (.lst []) = H2 at I2 ha2 ht2 eS
  have hS2 : H2 S = some (.lst []) := by rw [← hH2]; exact upd_same
  obtain ⟨mA, J, _⟩ := ins_get I2.hok ha2
  obtain ⟨od, J, _⟩ := J.look
  obtain ⟨m0, hF⟩ := I2.fr
  unfold Builtin.List.listExtendWith
  refine wpAny_bind (J.type.here ?_)
  have h1 : Builtin.List.listSameRef (.ref S) (.ref a) = false := by simp [Builtin.List.listSameRef, Ne.symm haS]
  have h2 : (Value.ref C == Value.type "list") = false := rfl
  have h3 : (Value.ref C == Value.type "tuple") = false := rfl
  simp only [h1, h2, h3, Bool.or_false, Bool.false_eq_true, if_false]
  refine wpAny_bind (PySem.W.owit_iter hF I2.ok.mod.kin J m.fi m.fn ?_)
  refine wpAny_mono (iter_run (Q := fun v H' => ∃ it, v = .ref it ∧ H2 it = none ∧ X.s_0.heap.objs.size ≤ it ∧ H' = upd H2 it (TiO t it)) G sb1 I2 ha2 hf ht2 fun it h1 h2 => ⟨it, rfl, h1, Nat.le_trans I2.sz h2, rfl⟩) (fun u s3 z => ?_) fun _ _ y => y
  obtain ⟨v, H3, I3, rv3, it, rfl, hi, hzz, rfl⟩ := z
  cases rv3
  have eo : s3.heap.get? it = some (tiObj t) := (I3.hok it _ upd_same).1
  refine it_of eo ?_
  have e3 : Ex H2 (upd H2 it (TiO t it)) := Ex.new hi
  have ha3 := e3 _ _ ha2
  obtain ⟨mA3, J3, _⟩ := ins_get I3.hok ha3
  obtain ⟨od3, J3, _⟩ := J3.look
  refine wpAny_bind (wpAny_holding ?_)
  unfold Builtin.List.listLengthHint
  refine wpAny_bind (wpAny_bind (J3.type.here ((PySem.W.looks_findIn I3.kIn mL.fi).here ?_)))
  refine PySem.W.KFB.if_not rfl ?_
  refine wpAny_ite_split (fun _ => ?_) (fun h => absurd rfl h)
  refine wpAny_bind (wpAny_rule ?_)
  have hlen := hsp _ (eS.trans e3)
  refine wpAny_bind (wpAny_attempt (wpAny_mono (len_sub (Q := fun v H4 => v = .int (ys.length : Int) ∧ Ex (upd H2 it (TiO t it)) H4) (E := fun _ _ => False) FL sb2 mL bL I3 ha3 (lenQ hlen hz)) (fun v s4 z => ?_) fun _ _ z => z.elim))
  obtain ⟨v, H4, I4, rv4, rfl, e4⟩ := z
  obtain ⟨tk, rfl⟩ := rv4
  have hS4 : H4 S = some (.lst []) := e4 _ _ (e3 _ _ hS2)
  have hi4 : H4 it = some (TiO t it) := e4 _ _ upd_same
  have itS : it ≠ S := fun z => by rw [z, hS2] at hi; cases hi
  have I5 := inv_drop I4 (show H4 it = some (.ext _) from hi4)
  have fp := inv_fp I4 hi4 hzz
  obtain ⟨g0, g1, g2, g3, g4, g5⟩ := fp
  let H5 : Hp := dropH (dropH H4 it) S
  have h5S : H5 S = none := ItX.dropH_same
  have h5 : upd H5 S (.lst []) = dropH H4 it := by
    funext b
    by_cases hb : b = S
    · rw [hb, upd_same, ItX.dropH_ne (Ne.symm itS), hS4]
    · rw [upd_ne hb]
      exact ItX.dropH_ne hb
  have ex5 : Ex H H5 := fun b o hb => by
    have hbS : b ≠ S := ne_of_none hb fr
    have hb2 := eS _ _ hb
    have hbi : b ≠ it := ne_of_none hb2 hi
    show dropH (dropH H4 it) S b = some o
    rw [ItX.dropH_ne hbS, ItX.dropH_ne hbi]
    exact e4 _ _ (e3 _ _ hb2)
  have h5it : H5 it = none := by
    show dropH (dropH H4 it) S it = none
    rw [ItX.dropH_ne itS, ItX.dropH_same]
  have eo4 : s4.heap.get? it = some (tiObj t) := (I4.hok it _ hi4).1
  have hd : X.A.in1.in1.handled = none := I4.ok.hd hc
  have loop : ∀ s5, Inv X pins σ (upd H5 S (.lst [])) s5 → s5.heap.IsTupleIter it t 0 → codeAny (model X.prog X.w) X.A.in1 (.builtin "list.extend.loop" ⟨[.ref S, .ref it, .none], []⟩) (wants (fun r s₂ => r = .none ∧ EP X pins σ Q (.ref S) s₂) X.xe) s5 := fun s5 I6 st => list_loop (A1 := X.A.in1) (H := H5) hd hz h5S (Evl.ex_t ex5 ht) h5it itS g1 g3 g4 g5 (fun s6 I7 => ⟨rfl, .ref S, _, I7, rfl, hq S _ fr (ex5.trans (Ex.new h5S)) upd_same⟩) ys.length 0 s5 rfl (Nat.zero_le _) I6 st
  rw [← h5] at I5
  refine wpAny_bind (m := asInt? (.int _ tk)) (wpAny_pure ?_)
  refine wpAny_ite_split (fun h => ?_) (fun _ => ?_)
  · have h : Builtin.List.listTooLong ((ys.length : Int)).toNat = true := h
    have : ((ys.length : Int)).toNat = ys.length := by omega
    rw [this] at h
    have h := of_decide_eq_true h
    rw [sizeLine_eq] at h
    omega
  refine wpAny_pure ?_
  refine wpAny_ite_split (fun _ => ?_) (fun _ => wpAny_pure ⟨plainId_quiet PySem.F.plain_extend_loop _, loop s4 I5 (ti_at eo4)⟩)
  refine wpAny_bind (wpAny_rule ?_)
  refine wpAny_bind ?_
  obtain ⟨z, its, k0, r3, hl3, e3'⟩ := I5.lstM upd_same
  cases r3
  show wpAny _ _ (updateSeq S (·.push .none) >>= fun _ => updateSeq S (·.pop)) _ _ _
  refine wpAny_bind (wpAny_updateSeq e3' rfl ?_)
  have I6 := I5.lset (f := (·.push Value.none)) (its' := [Value.none]) (ys := [.non]) (t' := s4.toks) upd_same e3' (by simp) (.cons rfl .nil) (by rw [List.length_singleton, sizeLine_eq]; decide)
  obtain ⟨z4, its4, k4, r4, hl4, e4'⟩ := I6.lstM upd_same
  obtain ⟨u4, rfl, ru4⟩ := r4.one
  refine wpAny_updateSeq e4' rfl ?_ (by show 1 ≤ sizeLine; rw [sizeLine_eq]; decide) (by show 0 ≤ sizeLine + 1; exact Nat.zero_le _)
  refine wpAny_pure ⟨plainId_quiet PySem.F.plain_extend_loop _, loop _ ?_ ?_⟩
  · have I7 := I6.lset (f := (·.pop)) (its := [u4]) (its' := []) (ys := []) (t' := s4.toks) upd_same e4' (by rfl) .nil (Nat.zero_le _)
    rw [upd_upd, upd_upd] at I7
    exact I7
  · exact ti_at ((Heap.get?_update_other _ _ (Ne.symm itS)).trans ((Heap.get?_update_other _ _ (Ne.symm itS)).trans eo4))
end
end U

set_option Elab.async false
set_option linter.all false
set_option maxRecDepth 100000
set_option maxHeartbeats 4000000
namespace U
open PySem L2
open Evl (Ex)
def top (i : Nat) : Stmt := PySem.Challenge.pw_toldenough_k03_samples_refused.main.body.getD i (.Pass ⟨0, 0, 0, 0⟩)
abbrev s_source : Stmt := top 22
abbrev sc_source_N : List Str := ["_law_script", "_law_at", "_law_cell"]
theorem sc_source : FnScope sc_source_N ["_law_script", "_law_at"] (defScope s_source) := ⟨rfl, rfl, rfl, by decide +kernel, rfl, by decide +kernel, by decide +kernel⟩
abbrev s_draw : Stmt := top 23
abbrev sc_draw_N : List Str := ["_law_draws", "_law_many", "_law_digit", "_law_seed"]
theorem sc_draw : FnScope sc_draw_N ["_law_draws", "_law_many"] (defScope s_draw) := ⟨rfl, rfl, rfl, by decide +kernel, rfl, by decide +kernel, by decide +kernel⟩
abbrev s_pick : Stmt := top 24
abbrev sc_pick_N : List Str := ["_law_draws", "_law_things"]
theorem sc_pick : FnScope sc_pick_N ["_law_draws", "_law_things"] (defScope s_pick) := ⟨rfl, rfl, rfl, by decide +kernel, rfl, by decide +kernel, by decide +kernel⟩
abbrev s_same : Stmt := top 25
abbrev sc_same_N : List Str := ["_law_found", "_law_due", "_law_left", "_law_right"]
theorem sc_same : FnScope sc_same_N ["_law_found", "_law_due"] (defScope s_same) := ⟨rfl, rfl, rfl, by decide +kernel, rfl, by decide +kernel, by decide +kernel⟩
structure TxB (mg : Str → Option Value) : Prop where
  m_len : mg "len" = none
  m_int : mg "int" = none
  m_isinstance : mg "isinstance" = none
  m_list : mg "list" = none
  m_tuple : mg "tuple" = none
  m_bool : mg "bool" = none
  m_all : mg "all" = none
  m_zip : mg "zip" = none
section
variable {P : Program} {w : World} {K : PySem.W.Frag} {mg : Str → Option Value} {base : Heap}
theorem ok_source {f : Addr} {fd : FuncData} (F : Fun K "_law_source" "_law_source" s_source f fd) (T : TxB mg) : FnOk P w K mg base CX0 1 f fd ["_law_script", "_law_at"] (spSource K) := by
  refine F.ok sc_source (fun vs H Q E h => ?_) (fun cdv A outer s H vs Q E hr h => ?_)
  · obtain ⟨_, _, _, rfl, _⟩ := h
    rfl
  · obtain ⟨sa, ns, i, rfl, hS, hl, hi, k⟩ := h
    refine ⟨_, (pss_cons (ps_set (i := 2) sc_source.nd rfl (by first | exact Or.inl rfl | exact Or.inr rfl) (pe_ifExp (pt_cmpR op_lt (pv 1) (pe_callB call_len_seq (by rfl) T.m_len (by decide +kernel) (pa_cons (pv 0) pa_nil)) (nomark _)) (pe_ix ix_list (pv 0) (pv 1) (fun _ _ => rfl)) (pe_op op_add (pe_op op_mul pe_int (pv 1)) pe_int)))
    (pss_one (ps_ret (pe_lst (pa_cons (pe_ifExp (pt_cmpR op_ge (pv 2) (pe_op op_pow pe_int pe_int) (nomark _)) (pv 2) pe_int) (pa_cons (pe_op op_add (pe_op op_mod (pe_callTy call_int1 (by rfl) T.m_int (by decide +kernel) (pa_cons (pv 2) pa_nil)) pe_int) (pe_op op_mul pe_int (pv 1))) (pa_cons pe_int pa_nil))))))), ?_⟩
    have hlen : (ns.map V.int).length = ns.length := List.length_map ..
    have fin : ∀ (c : Int), ∀ l : Addr, H l = none → Q (.ref l) (upd H l (.lst [.int (if c ≥ 10 ^ 18 then c else 0), .int (c % 2147483647 + 131 * (i : Int)), .int 0])) := fun c l hn => by
      refine k l _ hn ⟨_, _, _, upd_same, ?_, ?_, ?_, by decide, by decide⟩
      · by_cases hc : c ≥ 10 ^ 18
        · rw [if_pos hc]
          omega
        · rw [if_neg hc]
          decide
      · omega
      · omega
    refine ⟨_, rfl, _, rfl, sa, _, rfl, .inl hS, _, _, rfl, rfl, _, rfl, ?_⟩
    refine ite2 (fun hc => ?_) (fun hc => ?_)
    · have hc' : i < ns.length := by
        have q := of_decide_eq_true hc
        rw [hlen] at q
        omega
      refine ⟨_, rfl, _, rfl, sa, _, _, .int ns[i], rfl, rfl, hS, atI_nat (by rw [List.getElem?_map, List.getElem?_eq_getElem hc']; rfl), ?_⟩
      have g := fin (ns[i])
      generalize ns[i] = c at g ⊢
      refine ⟨_, rfl, _, _, rfl, rfl, ⟨by decide, by decide, by decide⟩, _, _, rfl, rfl, _, rfl, ?_⟩
      refine ite2 (fun hc => ?_) (fun hc => ?_)
      · have hc' : c ≥ 10 ^ 18 := of_decide_eq_true hc
        rw [if_pos hc'] at g
        refine ⟨_, rfl, _, rfl, .inl ⟨_, rfl, _, _, rfl, rfl, (by show (0 : Int) < _; decide), _, rfl, _, _, rfl, rfl, .inl ⟨by decide, by decide⟩, _, _, rfl, rfl, by show 3 ≤ sizeLine; decide, fun l hn => ?_⟩⟩
        exact g l hn
      · have hc' : ¬ c ≥ 10 ^ 18 := fun q => hc (decide_eq_true q)
        rw [if_neg hc'] at g
        refine ⟨_, rfl, .inl ⟨_, rfl, _, _, rfl, rfl, (by show (0 : Int) < _; decide), _, rfl, _, _, rfl, rfl, .inl ⟨by decide, by decide⟩, _, _, rfl, rfl, by show 3 ≤ sizeLine; decide, fun l hn => ?_⟩⟩
        exact g l hn
    · have g := fin (11 * (i : Int) + 3)
      refine ⟨_, rfl, _, _, rfl, rfl, .inl ⟨by decide, by decide⟩, _, _, rfl, rfl, ?_⟩
      refine ⟨_, rfl, _, _, rfl, rfl, ⟨by decide, by decide, by decide⟩, _, _, rfl, rfl, _, rfl, ?_⟩
      refine ite2 (fun hc => ?_) (fun hc => ?_)
      · have hc' : 11 * (i : Int) + 3 ≥ 10 ^ 18 := of_decide_eq_true hc
        rw [if_pos hc'] at g
        refine ⟨_, rfl, _, rfl, .inl ⟨_, rfl, _, _, rfl, rfl, (by show (0 : Int) < _; decide), _, rfl, _, _, rfl, rfl, .inl ⟨by decide, by decide⟩, _, _, rfl, rfl, by show 3 ≤ sizeLine; decide, fun l hn => ?_⟩⟩
        exact g l hn
      · have hc' : ¬ 11 * (i : Int) + 3 ≥ 10 ^ 18 := fun q => hc (decide_eq_true q)
        rw [if_neg hc'] at g
        refine ⟨_, rfl, .inl ⟨_, rfl, _, _, rfl, rfl, (by show (0 : Int) < _; decide), _, rfl, _, _, rfl, rfl, .inl ⟨by decide, by decide⟩, _, _, rfl, rfl, by show 3 ≤ sizeLine; decide, fun l hn => ?_⟩⟩
        exact g l hn
theorem ok_draw {f : Addr} {fd : FuncData} (F : Fun K "_law_draw" "_law_draw" s_draw f fd) (T : TxB mg) : FnOk P w K mg base CX0 1 f fd ["_law_draws", "_law_many"] spDraw := by
  refine F.ok sc_draw (fun vs H Q E h => ?_) (fun cdv A outer s H vs Q E hr h => ?_)
  · obtain ⟨_, _, _, rfl, _⟩ := h
    rfl
  · obtain ⟨l, many, n, rfl, ⟨x, y, z, hl, x0, y0, y1, z0, z1⟩, hn, m0, m1, k⟩ := h
    refine ⟨_, (pss_cons (ps_if (pt_cmpR op_gt (pe_ix ix_list (pv 0) pe_int (fun _ _ => rfl)) pe_int (nomark _)) (pss_cons (ps_set (i := 2) sc_draw.nd rfl (by first | exact Or.inl rfl | exact Or.inr rfl) (pe_op op_mod (pe_callTy call_int1 (by rfl) T.m_int (by decide +kernel) (pa_cons (pe_ix ix_list (pv 0) pe_int (fun _ _ => rfl)) pa_nil)) (pv 1)))
      (pss_cons (ps_asg (pe_op op_fdivN (pe_ix ix_list (pv 0) pe_int (fun _ _ => rfl)) (pv 1)) (pg_sub (pv 0) pe_int set_list))
      (pss_one (ps_ret (pv 2))))) pss_nil)
    (pss_cons (ps_asg (pe_op op_add (pe_ix ix_list (pv 0) pe_int (fun _ _ => rfl)) pe_int) (pg_sub (pv 0) pe_int set_list))
    (pss_cons (ps_set (i := 3) sc_draw.nd rfl (by first | exact Or.inl rfl | exact Or.inr rfl) (pe_op op_mod (pe_op op_pow (pe_callTy call_int1 (by rfl) T.m_int (by decide +kernel) (pa_cons (pe_op op_add (pe_op op_add (pe_ix ix_list (pv 0) pe_int (fun _ _ => rfl)) (pe_op op_mul pe_int (pe_ix ix_list (pv 0) pe_int (fun _ _ => rfl)))) pe_int) pa_nil)) pe_int) pe_int))
    (pss_one (ps_ret (pe_op op_mod (pe_op op_mod (pe_op op_pow (pe_callTy call_int1 (by rfl) T.m_int (by decide +kernel) (pa_cons (pe_op op_add (pe_op op_mul (pv 3) pe_int) (pe_op op_mul pe_int (pe_ix ix_list (pv 0) pe_int (fun _ _ => rfl)))) pa_nil)) pe_int) pe_int) (pv 1))))))), ?_⟩
    have i0 : atI [V.int x, V.int y, V.int z] 0 = some (.int x) := rfl
    have i1 : atI [V.int x, V.int y, V.int z] 1 = some (.int y) := rfl
    have i2 : atI [V.int x, V.int y, V.int z] 2 = some (.int z) := rfl
    refine ⟨_, rfl, l, _, _, _, rfl, rfl, SqL.of hl, i0, _, _, rfl, rfl, _, rfl, ?_⟩
    refine ite2 (fun hc => ?_) (fun hc => ?_)
    · refine ⟨_, rfl, l, _, _, _, rfl, rfl, SqL.of hl, i0, .inl ⟨_, rfl, _, rfl, _, _, rfl, rfl, m0, ?_⟩⟩
      refine ⟨_, rfl, l, _, _, _, rfl, rfl, SqL.of hl, i0, _, rfl, _, _, rfl, rfl, ⟨by omega, by omega⟩, _, rfl, l, _, _, 0, rfl, rfl, hl, rfl, ?_⟩
      refine ⟨_, rfl, ?_⟩
      exact k (x % many) _ (Int.emod_nonneg _ (by omega)) (Int.emod_lt_of_pos _ m0) ⟨_, _, _, upd_same, Int.fdiv_nonneg x0 (by omega), y0, y1, z0, by omega⟩
    · have hl2 : (upd H l (.lst [V.int x, V.int y, V.int (z + 1)])) l = some (.lst [V.int x, V.int y, V.int (z + 1)]) := upd_same
      have j1 : atI [V.int x, V.int y, V.int (z + 1)] 1 = some (.int y) := rfl
      have j2 : atI [V.int x, V.int y, V.int (z + 1)] 2 = some (.int (z + 1)) := rfl
      refine ⟨_, rfl, l, _, _, _, rfl, rfl, SqL.of hl, i2, _, _, rfl, rfl, _, rfl, l, _, _, 2, rfl, rfl, hl, rfl, ?_⟩
      refine ⟨_, rfl, l, _, _, _, rfl, rfl, SqL.of hl2, j1, _, rfl, l, _, _, _, rfl, rfl, SqL.of hl2, j2, _, _, rfl, rfl, .inl ⟨by decide, by decide⟩, _, _, rfl, rfl, _, _, rfl, rfl, .inl ⟨_, rfl, _, _, rfl, rfl, ⟨by decide, by decide, ?_⟩, _, _, rfl, rfl, (by show (0 : Int) < _; decide), ?_⟩⟩
      · show (y + 7919 * (z + 1) + 104729).natAbs < 18446744073709551616
        omega
      have e1 : 0 ≤ (y + 7919 * (z + 1) + 104729) ^ (5 : Int).toNat % 2147483629 := Int.emod_nonneg _ (by decide)
      have e2 : (y + 7919 * (z + 1) + 104729) ^ (5 : Int).toNat % 2147483629 < 2147483629 := Int.emod_lt_of_pos _ (by decide)
      have hb : ∀ c : Int, 0 ≤ c → c < 2147483629 → (c * 48271 + 40503 * (z + 1)).natAbs < 18446744073709551616 := fun c _ _ => by omega
      refine ⟨_, rfl, _, _, rfl, rfl, .inr ⟨by decide, by decide⟩, _, rfl, l, _, _, _, rfl, rfl, SqL.of hl2, j2, _, _, rfl, rfl, .inl ⟨by decide, by decide⟩, _, _, rfl, rfl, .inl ⟨_, rfl, _, _, rfl, rfl, ⟨by decide, by decide, ?_⟩, _, _, rfl, rfl, (by show (0 : Int) < _; decide), _, rfl, _, _, rfl, rfl, m0, ?_⟩⟩
      · exact hb _ e1 e2
      exact k _ _ (Int.emod_nonneg _ (by omega)) (Int.emod_lt_of_pos _ m0) ⟨_, _, _, upd_same, x0, y0, y1, by omega, by omega⟩
theorem ok_pick {f : Addr} {fd : FuncData} (F : Fun K "_law_pick" "_law_pick" s_pick f fd) (T : TxB mg) (D_draw : DefAt P w K mg base "_law_draw" 1 ["_law_draws", "_law_many"] spDraw) : FnOk P w K mg base CX0 2 f fd ["_law_draws", "_law_things"] (spPick K) := by
  refine F.ok sc_pick (fun vs H Q E h => ?_) (fun cdv A outer s H vs Q E hr h => ?_)
  · obtain ⟨_, _, _, _, _, rfl, _⟩ := h
    rfl
  · obtain ⟨l, t, ds, n, L, rfl, hd, hn, hL, hp, h0, h1, k⟩ := h
    refine ⟨_, (pss_one (ps_ret (pe_ix ix_list (pv 1) (pe_callD D_draw (by first | exact hr | exact hr.mono (by decide) | exact hr.mono (by omega)) (by rfl) (pa_cons (pv 0) (pa_cons (pe_callB call_len_seq (by rfl) T.m_len (by decide +kernel) (pa_cons (pv 1) pa_nil)) pa_nil))) (fun _ _ => rfl)))), ?_⟩
    cases hp with
    | @lst _ xs _ hs ha =>
      have hlen := dpa_len ha
      refine ⟨_, rfl, _, rfl, _, rfl, t, xs, rfl, .inl (Evl.ex_l w_sub hs), ?_⟩
      refine ⟨l, _, n, rfl, hd, hn, by omega, by omega, fun r o r0 r1 hd' => ?_⟩
      have hr' : r.toNat < xs.length := by omega
      obtain ⟨d, hd1, hd2⟩ := dpa_get ha (List.getElem?_eq_getElem hr')
      have er : ((r.toNat : Nat) : Int) = r := by omega
      refine ⟨t, xs, r, xs[r.toNat], rfl, rfl, Evl.ex_l (w_sub (L := L)) (by rw [w_upd_in hL]; exact hs), ?_, ?_⟩
      · have q := atI_nat (List.getElem?_eq_getElem hr')
        rw [er] at q
        exact q
      · exact k _ d o (List.mem_of_getElem? hd1) (by rw [w_upd_in hL]; exact hd2) hd'
end
end U

set_option Elab.async false
set_option linter.all false
set_option maxRecDepth 100000
set_option maxHeartbeats 4000000
namespace U
open PySem L2
open Evl (Ex)
abbrev s_is_integer : Stmt := top 10
abbrev sc_is_integer_N : List Str := ["thing"]
theorem sc_is_integer : FnScope sc_is_integer_N ["thing"] (defScope s_is_integer) := ⟨rfl, rfl, rfl, by decide +kernel, rfl, by decide +kernel, by decide +kernel⟩
abbrev s_is_label : Stmt := top 11
abbrev sc_is_label_N : List Str := ["thing"]
theorem sc_is_label : FnScope sc_is_label_N ["thing"] (defScope s_is_label) := ⟨rfl, rfl, rfl, by decide +kernel, rfl, by decide +kernel, by decide +kernel⟩
abbrev s_is_row : Stmt := top 12
abbrev sc_is_row_N : List Str := ["thing"]
theorem sc_is_row : FnScope sc_is_row_N ["thing"] (defScope s_is_row) := ⟨rfl, rfl, rfl, by decide +kernel, rfl, by decide +kernel, by decide +kernel⟩
abbrev s_is_row_of : Stmt := top 13
abbrev sc_is_row_of_N : List Str := ["thing", "many"]
theorem sc_is_row_of : FnScope sc_is_row_of_N ["thing", "many"] (defScope s_is_row_of) := ⟨rfl, rfl, rfl, by decide +kernel, rfl, by decide +kernel, by decide +kernel⟩
abbrev s_is_number_of_places : Stmt := top 15
abbrev sc_is_number_of_places_N : List Str := ["thing"]
theorem sc_is_number_of_places : FnScope sc_is_number_of_places_N ["thing"] (defScope s_is_number_of_places) := ⟨rfl, rfl, rfl, by decide +kernel, rfl, by decide +kernel, by decide +kernel⟩
abbrev s_is_point : Stmt := top 16
abbrev sc_is_point_N : List Str := ["thing", "places", "entry"]
theorem sc_is_point : FnScope sc_is_point_N ["thing", "places"] (defScope s_is_point) := ⟨rfl, rfl, rfl, by decide +kernel, rfl, by decide +kernel, by decide +kernel⟩
abbrev s_is_example : Stmt := top 17
abbrev sc_is_example_N : List Str := ["thing", "places"]
theorem sc_is_example : FnScope sc_is_example_N ["thing", "places"] (defScope s_is_example) := ⟨rfl, rfl, rfl, by decide +kernel, rfl, by decide +kernel, by decide +kernel⟩
abbrev s_copied_example : Stmt := top 18
abbrev sc_copied_example_N : List Str := ["example", "point", "label"]
theorem sc_copied_example : FnScope sc_copied_example_N ["example"] (defScope s_copied_example) := ⟨rfl, rfl, rfl, by decide +kernel, rfl, by decide +kernel, by decide +kernel⟩
def isIx (p : Int) : PyData → Bool
  | .int i => decide (0 ≤ i) && decide (i < p)
  | _ => false
def isI : PyData → Bool
  | .int _ => true
  | _ => false
def isL : PyData → Bool
  | .bool _ => true
  | _ => false
def isR : PyData → Bool
  | .list _ => true
  | .tuple _ => true
  | _ => false
def isN : PyData → Bool
  | .int i => decide (1 ≤ i) && decide (i ≤ 3)
  | _ => false
def isP (p : Int) : PyData → Bool
  | .list ds => decide ((ds.length : Int) = p) && ds.all isI
  | .tuple ds => decide ((ds.length : Int) = p) && ds.all isI
  | _ => false
def isO (p : Int) : PyData → Bool
  | .list ds => decide ((ds.length : Int) = p)
  | .tuple ds => decide ((ds.length : Int) = p)
  | _ => false
def isX (p : Int) : PyData → Bool
  | .list [a, b] => isP p a && isL b
  | .tuple [a, b] => isP p a && isL b
  | _ => false
def tupOf : PyData → PyData
  | .list ds => .tuple ds
  | d => d
def cpy : PyData → PyData
  | .list [a, b] => .tuple [tupOf a, b]
  | .tuple [a, b] => .tuple [tupOf a, b]
  | d => d
/-- True or False of data, by f | of data and a number of places -/
def spB (K : PySem.W.Frag) (f : PyData → Bool) : Sp := fun vs H Q _ => ∃ v d, vs = [v] ∧ Dq K H v d ∧ ∀ H', Ex H H' → Q (.bl (f d)) H'
def spBp (K : PySem.W.Frag) (f : Int → PyData → Bool) : Sp := fun vs H Q _ => ∃ v d p, vs = [v, .int p] ∧ Dq K H v d ∧ (∃ n, fits n d) ∧ ∀ H', Ex H H' → Q (.bl (f p d)) H'
structure TxF (mg : Str → Option Value) : Prop extends TxB mg where
  m_range : mg "range" = none
  m_enumerate : mg "enumerate" = none
  c_LEAST_PLACES : ∃ t, mg "LEAST_PLACES" = some (.int 1 t)
  c_MOST_PLACES : ∃ t, mg "MOST_PLACES" = some (.int 3 t)
section
variable {P : Program} {w : World} {K : PySem.W.Frag} {mg : Str → Option Value} {base : Heap}
theorem isP_two {p : Int} {d : PyData} : (isO p d && isP p d) = isP p d := by
  have q : ∀ a b : Bool, (a && (a && b)) = (a && b) := by decide
  cases d with
  | list ds => exact q _ _
  | tuple ds => exact q _ _
  | _ => rfl
theorem isX_two {p : Int} {d : PyData} {ds : List PyData} (h : d = .list ds ∨ d = .tuple ds) : (isO 2 d && isX p d) = isX p d := by
  rcases h with rfl | rfl <;> (match ds with
    | [] => rfl
    | [_] => rfl
    | [_, _] => rfl
    | _ :: _ :: _ :: r =>
      show (_ && false) = false
      rw [Bool.and_false])
theorem ev_spB {σ : L2.St} {H : Hp} {te : TE} {v : V} {d : PyData} {f : PyData → Bool} (h : Evl.Ev te σ H v) (hd : Dp K H v d) : Evl.Ev (tCallD (spB K f) (tCons te tNil)) σ H (.bl (f d)) :=
  ev_callD (Evl.ea_cons h Evl.ea_nil) fun H1 e1 Q q => ⟨v, d, rfl, (hd.up e1).q, q⟩
theorem ev_spBp {σ : L2.St} {H : Hp} {te tp : TE} {v : V} {d : PyData} {f : Int → PyData → Bool} {p : Int} (h : Evl.Ev te σ H v) (hp : Evl.Ev tp σ H (.int p)) (hd : Dp K H v d) (hw : ∃ n, fits n d) : Evl.Ev (tCallD (spBp K f) (tCons te (tCons tp tNil))) σ H (.bl (f p d)) :=
  ev_callD (Evl.ea_cons h (Evl.ea_cons hp Evl.ea_nil)) fun H1 e1 Q q => ⟨v, d, p, rfl, (hd.up e1).q, hw, q⟩
theorem ev_spBq {σ : L2.St} {H : Hp} {te : TE} {v : V} {d : PyData} {f : PyData → Bool} (h : Evl.Ev te σ H v) (hd : Dq K H v d) : Evl.Ev (tCallD (spB K f) (tCons te tNil)) σ H (.bl (f d)) :=
  ev_callD (Evl.ea_cons h Evl.ea_nil) fun H1 e1 Q q => ⟨v, d, rfl, hd.up e1, q⟩
theorem ev_spBpq {σ : L2.St} {H : Hp} {te tp : TE} {v : V} {d : PyData} {f : Int → PyData → Bool} {p : Int} (h : Evl.Ev te σ H v) (hp : Evl.Ev tp σ H (.int p)) (hd : Dq K H v d) (hw : ∃ n, fits n d) : Evl.Ev (tCallD (spBp K f) (tCons te (tCons tp tNil))) σ H (.bl (f p d)) :=
  ev_callD (Evl.ea_cons h (Evl.ea_cons hp Evl.ea_nil)) fun H1 e1 Q q => ⟨v, d, p, rfl, hd.up e1, hw, q⟩
theorem ok_is_integer {f : Addr} {fd : FuncData} (F : Fun K "is_integer" "is_integer" s_is_integer f fd) (T : TxF mg) : FnOk P w K mg base CX0 1 f fd ["thing"] (spB K isI) := by
  refine F.ok sc_is_integer (fun vs H Q E h => ?_) (fun cdv A outer s H vs Q E hr h => ?_)
  · obtain ⟨_, _, rfl, _⟩ := h
    rfl
  · obtain ⟨v, d, rfl, hd, k⟩ := h
    refine ⟨_, (pss_one (ps_ret (pe_and (pe_callB call_isi (by rfl) T.m_isinstance (by decide +kernel) (pa_cons (pv 0) (pa_cons (pe_bltn (v := .ty "int") (by rfl) T.m_int (by decide +kernel) rfl) pa_nil))) (pe_one (pe_not (pe_callB call_isi (by rfl) T.m_isinstance (by decide +kernel) (pa_cons (pv 0) (pa_cons (pe_bltn (v := .ty "bool") (by rfl) T.m_bool (by decide +kernel) rfl) pa_nil)))))))), ?_⟩
    have v0 : Evl.Ev (tVar 0) (start sc_is_integer_N [v]) H v := Evl.ev_var rfl
    cases d with
    | none => exact Evl.s_ret (v := .bl false) (Evl.ev_andV (a := false) (b := false) (evq_isi v0 hd isi_NoneType_int) fun z => nomatch z) k
    | bool z => exact Evl.s_ret (v := .bl false) (Evl.ev_andV (a := true) (b := false) (evq_isi v0 hd isi_bool_int) fun _ => Evl.ev_notV (a := true) (evq_isi v0 hd isi_bool_bool)) k
    | int z => exact Evl.s_ret (v := .bl true) (Evl.ev_andV (a := true) (b := true) (evq_isi v0 hd isi_int_int) fun _ => Evl.ev_notV (a := false) (evq_isi v0 hd isi_int_bool)) k
    | str z' => exact Evl.s_ret (v := .bl false) (Evl.ev_andV (a := false) (b := false) (evq_isi v0 hd isi_str_int) fun z => nomatch z) k
    | list ds => exact Evl.s_ret (v := .bl false) (Evl.ev_andV (a := false) (b := false) (evq_isi v0 hd isi_list_int) fun z => nomatch z) k
    | tuple ds => exact Evl.s_ret (v := .bl false) (Evl.ev_andV (a := false) (b := false) (evq_isi v0 hd isi_tuple_int) fun z => nomatch z) k
    | dict z' => exact Evl.s_ret (v := .bl false) (Evl.ev_andV (a := false) (b := false) (evq_isi v0 hd isi_dict_int) fun z => nomatch z) k
theorem ok_is_label {f : Addr} {fd : FuncData} (F : Fun K "is_label" "is_label" s_is_label f fd) (T : TxF mg) : FnOk P w K mg base CX0 1 f fd ["thing"] (spB K isL) := by
  refine F.ok sc_is_label (fun vs H Q E h => ?_) (fun cdv A outer s H vs Q E hr h => ?_)
  · obtain ⟨_, _, rfl, _⟩ := h
    rfl
  · obtain ⟨v, d, rfl, hd, k⟩ := h
    refine ⟨_, (pss_one (ps_ret (pe_callB call_isi (by rfl) T.m_isinstance (by decide +kernel) (pa_cons (pv 0) (pa_cons (pe_bltn (v := .ty "bool") (by rfl) T.m_bool (by decide +kernel) rfl) pa_nil))))), ?_⟩
    have v0 : Evl.Ev (tVar 0) (start sc_is_label_N [v]) H v := Evl.ev_var rfl
    cases d with
    | none => exact Evl.s_ret (evq_isi v0 hd isi_NoneType_bool) k
    | bool z => exact Evl.s_ret (evq_isi v0 hd isi_bool_bool) k
    | int z => exact Evl.s_ret (evq_isi v0 hd isi_int_bool) k
    | str z => exact Evl.s_ret (evq_isi v0 hd isi_str_bool) k
    | list ds => exact Evl.s_ret (evq_isi v0 hd isi_list_bool) k
    | tuple ds => exact Evl.s_ret (evq_isi v0 hd isi_tuple_bool) k
    | dict z => exact Evl.s_ret (evq_isi v0 hd isi_dict_bool) k
theorem ok_is_row {f : Addr} {fd : FuncData} (F : Fun K "is_row" "is_row" s_is_row f fd) (T : TxF mg) : FnOk P w K mg base CX0 1 f fd ["thing"] (spB K isR) := by
  refine F.ok sc_is_row (fun vs H Q E h => ?_) (fun cdv A outer s H vs Q E hr h => ?_)
  · obtain ⟨_, _, rfl, _⟩ := h
    rfl
  · obtain ⟨v, d, rfl, hd, k⟩ := h
    refine ⟨_, (pss_one (ps_ret (pe_callB call_isiT (by rfl) T.m_isinstance (by decide +kernel) (pa_cons (pv 0) (pa_cons (pe_tup (pa_cons (pe_bltn (v := .ty "list") (by rfl) T.m_list (by decide +kernel) rfl) (pa_cons (pe_bltn (v := .ty "tuple") (by rfl) T.m_tuple (by decide +kernel) rfl) pa_nil))) pa_nil))))), ?_⟩
    have v0 : Evl.Ev (tVar 0) (start sc_is_row_N [v]) H v := Evl.ev_var rfl
    cases d with
    | none => exact Evl.s_ret (evq_isi2 v0 hd isi_NoneType_list_tuple) k
    | bool z => exact Evl.s_ret (evq_isi2 v0 hd isi_bool_list_tuple) k
    | int z => exact Evl.s_ret (evq_isi2 v0 hd isi_int_list_tuple) k
    | str z => exact Evl.s_ret (evq_isi2 v0 hd isi_str_list_tuple) k
    | list ds => exact Evl.s_ret (evq_isi2 v0 hd isi_list_list_tuple) k
    | tuple ds => exact Evl.s_ret (evq_isi2 v0 hd isi_tuple_list_tuple) k
    | dict z => exact Evl.s_ret (evq_isi2 v0 hd isi_dict_list_tuple) k
theorem ok_is_number_of_places {f : Addr} {fd : FuncData} (F : Fun K "is_number_of_places" "is_number_of_places" s_is_number_of_places f fd) (T : TxF mg) (D_is_integer : DefAt P w K mg base "is_integer" 1 ["thing"] (spB K isI)) : FnOk P w K mg base CX0 2 f fd ["thing"] (spB K isN) := by
  refine F.ok sc_is_number_of_places (fun vs H Q E h => ?_) (fun cdv A outer s H vs Q E hr h => ?_)
  · obtain ⟨_, _, rfl, _⟩ := h
    rfl
  · obtain ⟨v, d, rfl, hd, k⟩ := h
    refine ⟨_, (pss_one (ps_ret (pe_and (pe_callD D_is_integer (by first | exact hr | exact hr.mono (by decide) | exact hr.mono (by omega)) (by rfl) (pa_cons (pv 0) pa_nil)) (pe_one (pe_chain op_le op_le (pe_glob (v := .int 1) (by rfl) T.c_LEAST_PLACES.choose_spec (by exact ⟨_, rfl⟩)) (pv 0) (pe_glob (v := .int 3) (by rfl) T.c_MOST_PLACES.choose_spec (by exact ⟨_, rfl⟩))))))), ?_⟩
    have v0 : Evl.Ev (tVar 0) (start sc_is_number_of_places_N [v]) H v := Evl.ev_var rfl
    have e : isI d = true → ∃ i, d = .int i := fun z => by
      cases d <;> first | exact ⟨_, rfl⟩ | cases z
    have q : (isI d && isN d) = isN d := by
      cases d <;> rfl
    refine Evl.s_ret (v := .bl (isN d)) (Evl.ev_is (Evl.ev_andV (a := isI d) (b := isN d) (ev_spBq v0 hd) fun z => ?_) (congrArg V.bl q)) k
    obtain ⟨i, rfl⟩ := e z
    cases hd
    refine ev_chain (k := decide (1 ≤ i)) Evl.ev_c v0 (Evl.rv_I0 (g := fun a b => .bl (decide (a ≤ b)))) (fun _ => Evl.ev_c) (fun _ => ?_) (fun z => ?_)
    · have e : (isN (.int i)) = decide (i ≤ 3) := by
        show (decide (1 ≤ i) && decide (i ≤ 3)) = _
        rw [‹decide (1 ≤ i) = true›]
        rfl
      rw [e]
      exact Evl.rv_I0 (g := fun a b => .bl (decide (a ≤ b)))
    · show (decide (1 ≤ i) && decide (i ≤ 3)) = false
      rw [z]
      rfl
theorem ok_is_row_of {f : Addr} {fd : FuncData} (F : Fun K "is_row_of" "is_row_of" s_is_row_of f fd) (T : TxF mg) (D_is_row : DefAt P w K mg base "is_row" 1 ["thing"] (spB K isR)) : FnOk P w K mg base CX0 2 f fd ["thing", "many"] (spBp K isO) := by
  refine F.ok sc_is_row_of (fun vs H Q E h => ?_) (fun cdv A outer s H vs Q E hr h => ?_)
  · obtain ⟨_, _, _, rfl, _⟩ := h
    rfl
  · obtain ⟨v, d, p, rfl, hd, hw, k⟩ := h
    refine ⟨_, (pss_one (ps_ret (pe_and (pe_callD D_is_row (by first | exact hr | exact hr.mono (by decide) | exact hr.mono (by omega)) (by rfl) (pa_cons (pv 0) pa_nil)) (pe_one (pe_cmpR op_eq (pe_callB call_len_seq (by rfl) T.m_len (by decide +kernel) (pa_cons (pv 0) pa_nil)) (pv 1) (nomark _)))))), ?_⟩
    have v0 : Evl.Ev (tVar 0) (start sc_is_row_of_N [v, .int p]) H v := Evl.ev_var rfl
    have v1 : Evl.Ev (tVar 1) (start sc_is_row_of_N [v, .int p]) H (.int p) := Evl.ev_var rfl
    have q : (isR d && isO p d) = isO p d := by
      cases d <;> rfl
    refine Evl.s_ret (v := .bl (isO p d)) (Evl.ev_is (Evl.ev_andV (a := isR d) (b := isO p d) (ev_spBq v0 hd) fun z => ?_) (congrArg V.bl q)) k
    have main : ∀ (a : Addr) (xs : List V) (ds : List PyData), v = .ref a → (SqL K H a xs ∨ SqT K H a xs) → DqAll K H xs ds → Evl.Ev (tOp rEq (tCB (fun xs H Q => ∃ p ys, xs = [V.ref p] ∧ (SqL K H p ys ∨ SqT K H p ys) ∧ Q (.int ys.length) H) (tCons (tVar 0) tNil)) (tVar 1)) (start sc_is_row_of_N [v, .int p]) H (.bl (decide ((ds.length : Int) = p))) := by
      rintro a xs ds rfl hx ha
      have hlen := dqa_len ha
      refine Evl.ev_is (Evl.ev_op (ev_lenS v0 hx) v1 (Evl.rv_eq rfl)) ?_
      rw [hlen]
      exact congrArg V.bl (by simp)
    cases d with
    | list ds =>
      cases hd with
      | lst hs ha => exact main _ _ ds rfl (.inl hs) ha
    | tuple ds =>
      cases hd with
      | tup hs ha => exact main _ _ ds rfl (.inr hs) ha
    | _ => cases z
theorem ok_is_point {f : Addr} {fd : FuncData} (F : Fun K "is_point" "is_point" s_is_point f fd) (T : TxF mg) (D_is_integer : DefAt P w K mg base "is_integer" 1 ["thing"] (spB K isI)) (D_is_row_of : DefAt P w K mg base "is_row_of" 2 ["thing", "many"] (spBp K isO)) : FnOk P w K mg base CX0 3 f fd ["thing", "places"] (spBp K isP) := by
  refine F.ok sc_is_point (fun vs H Q E h => ?_) (fun cdv A outer s H vs Q E hr h => ?_)
  · obtain ⟨_, _, _, rfl, _⟩ := h
    rfl
  · obtain ⟨v, d, p, rfl, hd, hw, k⟩ := h
    refine ⟨_, (pss_one (ps_ret (pe_and (pe_callD D_is_row_of (by first | exact hr | exact hr.mono (by decide) | exact hr.mono (by omega)) (by rfl) (pa_cons (pv 0) (pa_cons (pv 1) pa_nil))) (pe_one (pe_callB (cr_all rfl) (by rfl) T.m_all (by decide +kernel) (pa_cons (pe_lc (own := [("entry", 2)]) (g := gName 2) (tt := tYes) (by rfl) sc_is_point.nd (pi_seq (pv 0)) (blkOk_by (N := sc_is_point_N) (sc := defScope s_is_point) (by decide +kernel)) (fun _ _ _ _ _ => (pg_name (i := 2) sc_is_point.nd rfl (by first | exact Or.inl rfl | exact Or.inr rfl))) (fun _ _ _ _ _ => pts_nil) (fun _ _ _ _ _ => (pe_callD D_is_integer (by first | exact hr | exact hr.mono (by decide) | exact hr.mono (by omega)) (by rfl) (pa_cons (pv 2) pa_nil)))) pa_nil)))))), ?_⟩
    have v0 : Evl.Ev (tVar 0) (start sc_is_point_N [v, .int p]) H v := Evl.ev_var rfl
    have v1 : Evl.Ev (tVar 1) (start sc_is_point_N [v, .int p]) H (.int p) := Evl.ev_var rfl
    have q : (isO p d && isP p d) = isP p d := by
      exact isP_two
    refine Evl.s_ret (v := .bl (isP p d)) (Evl.ev_is (Evl.ev_andV (a := isO p d) (b := isP p d) (ev_spBpq v0 v1 hd hw) fun z => ?_) (congrArg V.bl q)) k
    have main : ∀ (a : Addr) (xs : List V) (ds : List PyData), v = .ref a → (SqL K H a xs ∨ SqT K H a xs) → DqAll K H xs ds → ds.length ≤ 40000 → (ds.length : Int) = p → Evl.Ev (tCB (rAll K) (tCons (tLc (iSeq K (tVar 0)) (gName 2) tYes (tCallD (spB K isI) (tCons (tVar 2) tNil)) [2]) tNil)) (start sc_is_point_N [v, .int p]) H (.bl (decide ((ds.length : Int) = p) && ds.all isI)) := by
      rintro a xs ds rfl hx ha hz he
      refine Evl.ev_is (ev_all (bs := ds.map isI) ?_) (congrArg V.bl (by simp [he]))
      exact el_seqBq v0 hx ha hz (fun _ => rfl) (fun x d H1 _ e1 hd' => ev_spBq (Evl.ev_var rfl) hd')
    cases d with
    | list ds =>
      cases hd with
      | lst hs ha => exact main _ _ ds rfl (.inl hs) ha (fits_len (.inl hw)) (of_decide_eq_true z)
    | tuple ds =>
      cases hd with
      | tup hs ha => exact main _ _ ds rfl (.inr hs) ha (fits_len (.inr hw)) (of_decide_eq_true z)
    | _ => cases z
theorem ok_is_example {f : Addr} {fd : FuncData} (F : Fun K "is_example" "is_example" s_is_example f fd) (T : TxF mg) (D_is_row_of : DefAt P w K mg base "is_row_of" 2 ["thing", "many"] (spBp K isO)) (D_is_point : DefAt P w K mg base "is_point" 3 ["thing", "places"] (spBp K isP)) (D_is_label : DefAt P w K mg base "is_label" 1 ["thing"] (spB K isL)) : FnOk P w K mg base CX0 4 f fd ["thing", "places"] (spBp K isX) := by
  refine F.ok sc_is_example (fun vs H Q E h => ?_) (fun cdv A outer s H vs Q E hr h => ?_)
  · obtain ⟨_, _, _, rfl, _⟩ := h
    rfl
  · obtain ⟨v, d, p, rfl, hd, hw, k⟩ := h
    refine ⟨_, (pss_one (ps_ret (pe_and (pe_callD D_is_row_of (by first | exact hr | exact hr.mono (by decide) | exact hr.mono (by omega)) (by rfl) (pa_cons (pv 0) (pa_cons pe_int pa_nil))) (pe_and (pe_callD D_is_point (by first | exact hr | exact hr.mono (by decide) | exact hr.mono (by omega)) (by rfl) (pa_cons (pe_ix ix_seq (pv 0) pe_int (fun _ _ => rfl)) (pa_cons (pv 1) pa_nil))) (pe_one (pe_callD D_is_label (by first | exact hr | exact hr.mono (by decide) | exact hr.mono (by omega)) (by rfl) (pa_cons (pe_ix ix_seq (pv 0) pe_int (fun _ _ => rfl)) pa_nil))))))), ?_⟩
    have v0 : Evl.Ev (tVar 0) (start sc_is_example_N [v, .int p]) H v := Evl.ev_var rfl
    have v1 : Evl.Ev (tVar 1) (start sc_is_example_N [v, .int p]) H (.int p) := Evl.ev_var rfl
    have q : (isO 2 d && isX p d) = isX p d := by
      cases d with
      | list ds => exact isX_two (.inl rfl)
      | tuple ds => exact isX_two (.inr rfl)
      | _ => rfl
    refine Evl.s_ret (v := .bl (isX p d)) (Evl.ev_is (Evl.ev_andV (a := isO 2 d) (b := isX p d) (ev_spBpq v0 Evl.ev_c hd hw) fun z => ?_) (congrArg V.bl q)) k
    have main : ∀ (a : Addr) (xs : List V) (ds : List PyData), v = .ref a → (SqL K H a xs ∨ SqT K H a xs) → DqAll K H xs ds → ds.length = 2 → (∀ a b, ds = [a, b] → isX p d = (isP p a && isL b)) → (∀ a b, ds = [a, b] → ∃ n, fits n a) →
        Evl.Ev (tAndV (tCallD (spBp K isP) (tCons (tOp (rIxA K) (tVar 0) (tC (.int 0))) (tCons (tVar 1) tNil))) (tCallD (spB K isL) (tCons (tOp (rIxA K) (tVar 0) (tC (.int 1))) tNil))) (start sc_is_example_N [v, .int p]) H (.bl (isX p d)) := by
      rintro a xs ds rfl hx ha h2 q2 qw
      obtain ⟨d1, d2, e⟩ : ∃ d1 d2, ds = [d1, d2] := by
        match ds, h2 with
        | [a, b], _ => exact ⟨a, b, rfl⟩
      subst e
      cases ha with
      | @cons x1 _ _ _ g1 hr =>
        cases hr with
        | @cons x2 _ _ _ g2 hr2 =>
          cases hr2
          have i0 : atI [x1, x2] 0 = some x1 := rfl
          have i1 : atI [x1, x2] 1 = some x2 := rfl
          rw [q2 d1 d2 rfl]
          exact Evl.ev_andV (ev_spBpq (ev_ixA v0 hx i0) v1 g1 (qw d1 d2 rfl)) fun _ => ev_spBq (ev_ixA v0 hx i1) g2
    cases d with
    | list ds =>
      have h2 : ds.length = 2 := by have := of_decide_eq_true z; omega
      cases hd with
      | lst hs ha => exact main _ _ ds rfl (.inl hs) ha h2 (fun a b e => by rw [e]; rfl) (fun a b e => fits_in (.inl hw) (by rw [e]; simp))
    | tuple ds =>
      have h2 : ds.length = 2 := by have := of_decide_eq_true z; omega
      cases hd with
      | tup hs ha => exact main _ _ ds rfl (.inr hs) ha h2 (fun a b e => by rw [e]; rfl) (fun a b e => fits_in (.inr hw) (by rw [e]; simp))
    | _ => cases z
/-- a row: some whole numbers and a label -/
def rowD (ns : List Int) (b : Bool) : PyData := .tuple [.tuple (ns.map .int), .bool b]
def Sm (ns : List Int) : Prop := ∀ e ∈ ns, -999999 ≤ e ∧ e ≤ 999999
def Rw (p : Int) (d : PyData) : Prop := ∃ ns b, d = rowD ns b ∧ (ns.length : Int) = p ∧ ns.length ≤ 3 ∧ Sm ns
theorem rw_isX {p : Int} {d : PyData} (h : Rw p d) : isX p d = true := by
  obtain ⟨ns, b, rfl, h1, h2, h3⟩ := h
  show (decide (((ns.map PyData.int).length : Int) = p) && (ns.map PyData.int).all isI && true) = true
  rw [List.length_map, h1]
  simp [isI]
theorem rw_fits {p : Int} {d : PyData} (h : Rw p d) : fits 2 d := by
  obtain ⟨ns, b, rfl, h1, h2, h3⟩ := h
  refine ⟨by show 2 ≤ 40000; omega, fun e he => ?_⟩
  rcases List.mem_cons.mp he with z | z
  · subst z
    refine ⟨by rw [List.length_map]; omega, fun e he => ?_⟩
    obtain ⟨i, _, rfl⟩ := List.mem_map.mp he
    trivial
  · rcases List.mem_cons.mp z with z | z
    · subst z
      trivial
    · cases z
def rowL (ns : List Int) (b : Bool) : PyData := .tuple [.list (ns.map .int), .bool b]
/-- .. as a list or a tuple -/
def Rl2 (p : Int) (d : PyData) : Prop := ∃ ns b, (d = rowD ns b ∨ d = rowL ns b) ∧ (ns.length : Int) = p ∧ ns.length ≤ 3 ∧ Sm ns
def normR : PyData → PyData
  | .tuple [.list xs, b] => .tuple [.tuple xs, b]
  | d => d
theorem rl2_isX {p : Int} {d : PyData} (h : Rl2 p d) : isX p d = true := by
  obtain ⟨ns, b, rfl | rfl, h1, h2, h3⟩ := h
  · show (decide (((ns.map PyData.int).length : Int) = p) && (ns.map PyData.int).all isI && true) = true
    rw [List.length_map, h1]
    simp [isI]
  · show (decide (((ns.map PyData.int).length : Int) = p) && (ns.map PyData.int).all isI && true) = true
    rw [List.length_map, h1]
    simp [isI]
theorem rl2_fits {p : Int} {d : PyData} (h : Rl2 p d) : fits 2 d := by
  obtain ⟨ns, b, rfl | rfl, h1, h2, h3⟩ := h
  · exact rw_fits (p := p) ⟨ns, b, rfl, h1, h2, h3⟩
  · refine ⟨by show 2 ≤ 40000; omega, fun e he => ?_⟩
    rcases List.mem_cons.mp he with z | z
    · subst z
      refine ⟨by rw [List.length_map]; omega, fun e he => ?_⟩
      obtain ⟨i, _, rfl⟩ := List.mem_map.mp he
      trivial
    · rcases List.mem_cons.mp z with z | z
      · subst z
        trivial
      · cases z

def gSq (K : PySem.W.Frag) (n : Nat) (t : TGs) : TG := fun v σ H Q => gTup K n t v σ H Q ∨ gLst K n t v σ H Q
theorem pg_sq {X : Cx} {pos : Pos} {es : List Expr} {k : Nat} {t : TGs} {n : Nat} (hc : X.calm = true) (h : PGs X es t)
    (hn : (assignEach es X.env).length = n := by rfl) (hst : (assignEach es X.env).findIdx? (·.1) = none := by rfl) : PG X (.Tuple es k pos) (gSq X.K n t) :=
  ⟨fun pins s σ H v u Q I r hw => hw.elim (fun z => (pg_tup hc h hn hst).run pins s σ H v u Q I r z) fun z => (pg_lst hc h hn hst).run pins s σ H v u Q I r z⟩
/-- each of L a list -/
def Lsts (L : List Addr) (H : Hp) : Prop := ∀ a ∈ L, ∃ xs, H a = some (.lst xs)
section
variable {L : List Addr} {H H' : Hp} {a : Addr} {xs : List V}
theorem Lsts.ex (h : Lsts L H) (e : Ex H H') : Lsts L H' := fun a m => by
  obtain ⟨xs, q⟩ := h a m
  exact ⟨xs, e _ _ q⟩
theorem Lsts.hid (h : Lsts L H) : Hid L H := fun a m z => by
  obtain ⟨xs, q⟩ := h a m
  rw [z] at q
  cases q
theorem Lsts.tup (h : Lsts L H) (t : SqT K H a xs) : SqT K (W L H) a xs := by
  rcases t with (t | ⟨o, t⟩) | t
  · refine .inl (.inl (w_of (fun m => ?_) t))
    obtain ⟨ys, q⟩ := h a m
    rw [t] at q
    cases q
  · refine .inl (.inr ⟨o, w_of (fun m => ?_) t⟩)
    obtain ⟨ys, q⟩ := h a m
    rw [t] at q
    cases q
  · exact .inr t
theorem lsts_nil : Lsts [] H := fun _ m => nomatch m
theorem lsts_cons (h : H a = some (.lst xs)) (h2 : Lsts L H) : Lsts (a :: L) H := fun b m => by
  rcases List.mem_cons.mp m with z | z
  · rw [z]; exact ⟨xs, h⟩
  · exact h2 b z
end
/-- what may stand at an address for an example, made of lists or tuples -/
def rowM (o i : Bool) (ns : List Int) (b : Bool) : PyData := if o then .tuple [if i then .tuple (ns.map .int) else .list (ns.map .int), .bool b] else .list [if i then .tuple (ns.map .int) else .list (ns.map .int), .bool b]
def RlM (p : Int) (d : PyData) : Prop := ∃ o i ns b, d = rowM o i ns b ∧ (ns.length : Int) = p ∧ ns.length ≤ 3 ∧ Sm ns
theorem cpy_M {o i : Bool} {ns : List Int} {b : Bool} : cpy (rowM o i ns b) = rowD ns b := by cases o <;> cases i <;> rfl
theorem rlM_isX {p : Int} {d : PyData} (h : RlM p d) : isX p d = true := by
  obtain ⟨o, i, ns, b, rfl, h1, h2, h3⟩ := h
  have q : (decide (((ns.map PyData.int).length : Int) = p) && (ns.map PyData.int).all isI && true) = true := by
    rw [List.length_map, h1]
    simp [isI]
  cases o <;> cases i <;> exact q
theorem fits_ints {n : Nat} {ns : List Int} (h : ns.length ≤ 40000) : fits (n + 1) (.list (ns.map .int)) ∧ fits (n + 1) (.tuple (ns.map .int)) := by
  have : ∀ d ∈ ns.map PyData.int, fits n d := fun d hd => by
    obtain ⟨i, _, rfl⟩ := List.mem_map.mp hd
    cases n <;> trivial
  exact ⟨⟨by rw [List.length_map]; exact h, this⟩, ⟨by rw [List.length_map]; exact h, this⟩⟩
theorem rlM_fits {p : Int} {d : PyData} (h : RlM p d) : fits 2 d := by
  obtain ⟨o, i, ns, b, rfl, h1, h2, h3⟩ := h
  have q : ∀ e ∈ [if i then PyData.tuple (ns.map .int) else .list (ns.map .int), .bool b], fits 1 e := fun e he => by
    simp only [List.mem_cons, List.not_mem_nil, or_false] at he
    rcases he with rfl | rfl
    · cases i
      · exact (fits_ints (n := 0) (by omega)).1
      · exact (fits_ints (n := 0) (by omega)).2
    · trivial
  cases o
  · exact ⟨by show 2 ≤ 40000; omega, q⟩
  · exact ⟨by show 2 ≤ 40000; omega, q⟩
theorem Rw.toM {p : Int} {d : PyData} (h : Rw p d) : RlM p d := by
  obtain ⟨ns, b, rfl, h1, h2, h3⟩ := h
  exact ⟨true, true, ns, b, rfl, h1, h2, h3⟩
theorem dpa_intsM {H : Hp} : ∀ {ns : List Int} {ys : List V}, DpAll K H ys (ns.map PyData.int) → ∀ H', DpAll K H' ys (ns.map PyData.int)
  | [], _, h, _ => by cases h; exact .nil
  | _ :: _, _, h, H' => by
    cases h with
    | cons h1 h2 =>
      cases h1
      exact .cons (.int _) (dpa_intsM h2 H')
/-- tuple(x) of a list or a tuple of data, told without the lists of L -/
theorem evd_tupM {L : List Addr} {σ : L2.St} {H : Hp} {te : TE} {x : V} {ns : List Int} (h : Evl.Ev te σ H x) (hd : Dp K H x (.list (ns.map .int)) ∨ Dp K H x (.tuple (ns.map .int))) (hL : Lsts L H) : EvD K L (tCB (fun xs H Q => ∃ p ys, xs = [.ref p] ∧ ((SqL K H p ys ∧ ∀ l, H l = none → Q (.ref l) (upd H l (.tup ys))) ∨ (SqT K H p ys ∧ Q (.ref p) H))) (tCons te tNil)) σ H (.tuple (ns.map .int)) := fun H1 e Q q =>
  h H1 e _ fun H2 e2 => by
    rcases hd with hd | hd
    · cases hd with
      | @lst p ys _ hs ha =>
        refine ⟨p, ys, rfl, .inl ⟨Evl.ex_l (e.trans e2) hs, fun r hr => ?_⟩⟩
        exact q (.ref r) _ (e2.trans (Ex.new hr)) (.tup (SqT.of (w_new (hid_ex (e.trans e2) hL.hid) hr)) (dpa_intsM ha _))
    · cases hd with
      | @tup p ys _ hs ha =>
        refine ⟨p, ys, rfl, .inr ⟨Evl.ex_t (e.trans e2) hs, ?_⟩⟩
        exact q (.ref p) _ e2 (.tup ((hL.ex (e.trans e2)).tup (Evl.ex_t (e.trans e2) hs)) (dpa_intsM ha _))
def spCopyM (K : PySem.W.Frag) : Sp := fun vs H Q _ => ∃ v p d L, vs = [v] ∧ Lsts L H ∧ Dp K H v d ∧ RlM p d ∧ ∀ v' H', Ex H H' → Dp K (W L H') v' (cpy d) → Q v' H'
theorem ok_copiedM {f : Addr} {fd : FuncData} (F : Fun K "copied_example" "copied_example" s_copied_example f fd) (T : TxF mg) : FnOk P w K mg base CX0 1 f fd ["example"] (spCopyM K) := by
  refine F.ok sc_copied_example (fun vs H Q E h => ?_) (fun cdv A outer s H vs Q E hr h => ?_)
  · obtain ⟨_, _, _, _, rfl, _⟩ := h
    rfl
  · obtain ⟨v, p, d, L, rfl, hL, hd, hrw, k⟩ := h
    refine ⟨_, (pss_cons (ps_asg (pv 0) (pg_sq (by rfl) (pgs_cons (pg_name (i := 1) sc_copied_example.nd rfl (by first | exact Or.inl rfl | exact Or.inr rfl)) (pgs_cons (pg_name (i := 2) sc_copied_example.nd rfl (by first | exact Or.inl rfl | exact Or.inr rfl)) pgs_nil))))
    (pss_one (ps_ret (pe_tup (pa_cons (pe_callTy call_tuple_of (by rfl) T.m_tuple (by decide +kernel) (pa_cons (pv 1) pa_nil)) (pa_cons (pv 2) pa_nil)))))), ?_⟩
    obtain ⟨o, i, ns, b, rfl, h1, h2, h3⟩ := hrw
    have fin : ∀ (a : Addr) (x1 x2 : V), v = .ref a → (SqL K H a [x1, x2] ∨ SqT K H a [x1, x2]) → (Dp K H x1 (.list (ns.map .int)) ∨ Dp K H x1 (.tuple (ns.map .int))) → x2 = .bl b → tSeq (tAsg (tVar 0) (gSq K 2 (gCons (gName 1) (gCons (gName 2) gNil)))) (tRet (tTup (tCons (tCB (fun xs H Q => ∃ p ys, xs = [.ref p] ∧ ((SqL K H p ys ∧ ∀ l, H l = none → Q (.ref l) (upd H l (.tup ys))) ∨ (SqT K H p ys ∧ Q (.ref p) H))) (tCons (tVar 1) tNil)) (tCons (tVar 2) tNil)))) { nx := fun _ H' => Q .non H', rt := Q } (start sc_copied_example_N [v]) H := by
      rintro a x1 x2 rfl hs r1 rfl
      have go : tRet (tTup (tCons (tCB (fun xs H Q => ∃ p ys, xs = [.ref p] ∧ ((SqL K H p ys ∧ ∀ l, H l = none → Q (.ref l) (upd H l (.tup ys))) ∨ (SqT K H p ys ∧ Q (.ref p) H))) (tCons (tVar 1) tNil)) (tCons (tVar 2) tNil))) { nx := fun _ H' => Q .non H', rt := Q } [some (.ref a), some x1, some (.bl b)] H :=
        d_ret (K := K) (L := L) (d := rowD ns b) (evd_tup hL.hid (evds_cons (evd_tupM (Evl.ev_var rfl) r1 hL) (evds_cons (evd_of (Evl.ev_var rfl) (.bl b)) evds_nil)) (by show 2 ≤ 100000; omega)) (fun v' H' e hv => k v' H' e (by rw [cpy_M]; exact hv))
      refine ⟨_, rfl, ?_⟩
      rcases hs with hs | hs
      · exact .inr ⟨a, [x1, .bl b], rfl, hs, rfl, x1, [.bl b], rfl, .bl b, [], rfl, rfl, go⟩
      · exact .inl ⟨a, [x1, .bl b], rfl, hs, rfl, x1, [.bl b], rfl, .bl b, [], rfl, rfl, go⟩
    have pt : ∀ {x1 : V} {i : Bool}, Dp K H x1 (if i = true then .tuple (ns.map .int) else .list (ns.map .int)) → (Dp K H x1 (.list (ns.map .int)) ∨ Dp K H x1 (.tuple (ns.map .int))) := fun {x1 i} h => by
      cases i
      · exact .inl h
      · exact .inr h
    cases o with
    | true =>
      cases hd with
      | @tup a ys _ hs ha =>
        cases ha with
        | @cons x1 us1 _ _ r1 rr =>
          cases rr with
          | @cons x2 us2 _ _ r2 rr2 =>
            cases rr2
            cases r2
            exact fin a x1 _ rfl (.inr hs) (pt r1) rfl
    | false =>
      cases hd with
      | @lst a ys _ hs ha =>
        cases ha with
        | @cons x1 us1 _ _ r1 rr =>
          cases rr with
          | @cons x2 us2 _ _ r2 rr2 =>
            cases rr2
            cases r2
            exact fin a x1 _ rfl (.inl hs) (pt r1) rfl
end
end U

set_option Elab.async false
set_option linter.all false
set_option maxRecDepth 100000
set_option maxHeartbeats 4000000
namespace U
open PySem PySem.Spec PyProof.Rows L2
open Evl (Ex)
open C8 (Met Mak pe_mt pe_mt0 pe_mk)
abbrev s_Sample_init : Stmt := inClass (top 20) 0
abbrev sc_Sample_init_N : List Str := ["self", "places", "examples", "index", "thing", "example"]
theorem sc_Sample_init : FnScope sc_Sample_init_N ["self", "places", "examples"] (defScope s_Sample_init) := ⟨rfl, rfl, rfl, by decide +kernel, rfl, by decide +kernel, by decide +kernel⟩
abbrev s_Sample_examples : Stmt := inClass (top 20) 1
abbrev sc_Sample_examples_N : List Str := ["self"]
theorem sc_Sample_examples : FnScope sc_Sample_examples_N ["self"] (defScope s_Sample_examples) := ⟨rfl, rfl, rfl, by decide +kernel, rfl, by decide +kernel, by decide +kernel⟩
abbrev s_Sample_len : Stmt := inClass (top 20) 7
abbrev sc_Sample_len_N : List Str := ["self"]
theorem sc_Sample_len : FnScope sc_Sample_len_N ["self"] (defScope s_Sample_len) := ⟨rfl, rfl, rfl, by decide +kernel, rfl, by decide +kernel, by decide +kernel⟩
abbrev s_Sample_iter : Stmt := inClass (top 20) 8
abbrev sc_Sample_iter_N : List Str := ["self"]
theorem sc_Sample_iter : FnScope sc_Sample_iter_N ["self"] (defScope s_Sample_iter) := ⟨rfl, rfl, rfl, by decide +kernel, rfl, by decide +kernel, by decide +kernel⟩
abbrev s_Sample_contains : Stmt := inClass (top 20) 9
abbrev sc_Sample_contains_N : List Str := ["self", "thing"]
theorem sc_Sample_contains : FnScope sc_Sample_contains_N ["self", "thing"] (defScope s_Sample_contains) := ⟨rfl, rfl, rfl, by decide +kernel, rfl, by decide +kernel, by decide +kernel⟩
abbrev s_Sample_eq : Stmt := inClass (top 20) 11
abbrev sc_Sample_eq_N : List Str := ["self", "other"]
theorem sc_Sample_eq : FnScope sc_Sample_eq_N ["self", "other"] (defScope s_Sample_eq) := ⟨rfl, rfl, rfl, by decide +kernel, rfl, by decide +kernel, by decide +kernel⟩
section
def Smp (K : PySem.W.Frag) (L : List Addr) (H : Hp) (x C : Addr) (p : Int) (ds : List PyData) : Prop := ∃ dx v, H x = some (.ins C dx [("places", .int p), ("_pairs", v)]) ∧ Dp K (W L H) v (.tuple ds)
end
section
structure SmpC (K : PySem.W.Frag) (C : Addr) : Prop where
  cl : Cls K C
  nP : NoAttr K C "places"
  nQ : NoAttr K C "_pairs"
  kS : PySem.W.kitOne K (.ref C) (.ref C) = some true
  ha : PySem.W.findIn K (.ref C) "__class__" = some (some (.builtin "object.__class__"))
  hn : PySem.W.specialIn K (.builtin "object.__class__") "__get__" = some (some (.builtin "getset_descriptor.__get__"))
  htk : PySem.W.takesIn K (.builtin "object.__class__") = some true
  hm : PySem.W.mroIn K C (.type "object") = some true
end
section
def Rws (p : Int) (ds : List PyData) : Prop := ds.length ≤ 20000 ∧ ∀ d ∈ ds, Rw p d
end
section
theorem Rws.fit {p : Int} {ds : List PyData} (h : Rws p ds) : fits 3 (.list ds) ∧ fits 3 (.tuple ds) := ⟨⟨by have := h.1; omega, fun d hd => rw_fits (h.2 d hd)⟩, ⟨by have := h.1; omega, fun d hd => rw_fits (h.2 d hd)⟩⟩
end
section
def spExamples (K : PySem.W.Frag) (C : Addr) : Sp := fun vs H Q _ => ∃ x p ds L, vs = [.ref x] ∧ Hid L H ∧ Smp K L H x C p ds ∧ ∀ t H', H t = none → Ex H H' → Gr K L H' t ds → Q (.ref t) H'
end
section
variable {P : Program} {w : World} {K : PySem.W.Frag} {mg : Str → Option Value} {base : Heap} {C : Addr}
theorem funD_ok0 {x qual : Str} {params : Arguments} {body : List Stmt} {scope : Scope} {dvs : List V} {kws : List (Str × V)} {f : Addr} {fd : FuncData} {N ps : List Str} {k : Nat} {sp : Sp} (F : FunD K x qual params body scope dvs kws f fd) (S : FnScope N ps scope) (len : ∀ vs H Q E, sp vs H Q E → vs.length = ps.length)
    (hbody : ∀ (cdv : Value) (A : Around) (outer : List Env) (s : Shared) (H : Hp) (vs : List V) (Q : VK) (E : XK), Room k (A.deeper (envOfC qual scope s.heap.objs.size f cdv)) → sp vs H Q E →
      ∃ t, PSs (cxOf CX0 P w K mg base N qual scope f cdv A outer s H E).nox body t ∧ t { nx := fun _ H' => Q .non H', rt := Q } (start N vs) H) : FnOk P w K mg base CX0 (k + 1) f fd ps sp :=
  F.ok S len fun cdv A outer s H vs Q E hr h => by
    obtain ⟨t, h1, h2⟩ := hbody cdv A outer s H vs Q E hr h
    exact ⟨t, h1.nox, h2⟩
end
section
variable {P : Program} {w : World} {K : PySem.W.Frag} {mg : Str → Option Value} {base : Heap} {C : Addr}
theorem Smp.up {L : List Addr} {H H' : Hp} {x : Addr} {p : Int} {ds : List PyData} (h : Smp K L H x C p ds) (e : Ex H H') : Smp K L H' x C p ds := by
  obtain ⟨dx, v, h1, h2⟩ := h
  exact ⟨dx, v, e _ _ h1, h2.up (w_ex e)⟩
end
section
variable {P : Program} {w : World} {K : PySem.W.Frag} {mg : Str → Option Value} {base : Heap} {C : Addr}
theorem Smp.low {L L2 : List Addr} {H : Hp} {x : Addr} {p : Int} {ds : List PyData} (h : Smp K L2 H x C p ds) (s : ∀ a ∈ L, a ∈ L2) : Smp K L H x C p ds := by
  obtain ⟨dx, v, h1, h2⟩ := h
  exact ⟨dx, v, h1, h2.up (w_sub2 s)⟩
end
section
variable {P : Program} {w : World} {K : PySem.W.Frag} {mg : Str → Option Value} {base : Heap} {C : Addr}
theorem sfld_run {ta tv : TE} {f : Str} {D : Ends} {σ : L2.St} {H : Hp} (h : tv σ H fun y H1 => ta σ H1 fun x H2 => ∃ a C dx fs, x = .ref a ∧ H2 a = some (.ins C dx fs) ∧ Cls K C ∧ NoAttr K C f ∧ fs.length < 1000 ∧ D.nx σ (upd H2 a (.ins C dx (putF f y fs)))) : sFld K ta tv f D σ H := h
end
section
variable {P : Program} {w : World} {K : PySem.W.Frag} {mg : Str → Option Value} {base : Heap} {C : Addr}
theorem ok_Sexamples {f : Addr} {fd : FuncData} (F : Fun K "examples" "Sample.examples" s_Sample_examples f fd) (T : TxF mg) (S : SmpC K C) : FnOk P w K mg base CX0 1 f fd ["self"] (spExamples K C) := by
  refine F.ok sc_Sample_examples (fun vs H Q E h => ?_) (fun cdv A outer s H vs Q E hr h => ?_)
  · obtain ⟨_, _, _, _, rfl, _⟩ := h
    rfl
  · obtain ⟨x, p, ds, L, rfl, hL, hS, k⟩ := h
    refine ⟨_, (pss_one (ps_ret (pe_callTy call_list_of (by rfl) T.m_list (by decide +kernel) (pa_cons (pe_fld (pv 0) rfl) pa_nil)))), ?_⟩
    obtain ⟨dx, v, h1, h2⟩ := hS
    exact eg_list (ev_fld (v := v) (Evl.ev_var (v := .ref x) rfl) h1 S.cl S.nQ rfl) (.inr h2) hL _ (Ex.refl _) _ k
end

def RwsM (p : Int) (ds : List PyData) : Prop := ds.length ≤ 20000 ∧ ∀ d ∈ ds, RlM p d
section
variable {P : Program} {w : World} {K : PySem.W.Frag} {mg : Str → Option Value} {base : Heap} {C : Addr}

mutual
theorem dp_offI {H : Hp} {x dx : Addr} {fs : List (Str × V)} {L : List Addr} (hx : H x = some (.ins C dx fs)) : ∀ (d : PyData) (v : V), Dp K (W L H) v d → Dp K (W (x :: L) H) v d
  | .none, _, h => by cases h; exact .non
  | .bool _, _, h => by cases h; exact .bl _
  | .int _, _, h => by cases h; exact .int _
  | .str _, _, h => by cases h; exact .str _
  | .list ds, _, h => by
    cases h with
    | lst hs ha =>
      refine .lst ?_ (dpa_offI hx ds _ ha)
      rcases hs with (hs | ⟨o, hs⟩) | hs
      · obtain ⟨h1, n⟩ := w_in hs
        exact .inl (.inl (w_of (fun m => (List.mem_cons.mp m).elim (fun z => by rw [z, hx] at h1; cases h1) n) h1))
      · obtain ⟨h1, n⟩ := w_in hs
        exact .inl (.inr ⟨o, w_of (fun m => (List.mem_cons.mp m).elim (fun z => by rw [z, hx] at h1; cases h1) n) h1⟩)
      · exact .inr hs
  | .tuple ds, _, h => by
    cases h with
    | tup hs ha =>
      refine .tup ?_ (dpa_offI hx ds _ ha)
      rcases hs with (hs | ⟨o, hs⟩) | hs
      · obtain ⟨h1, n⟩ := w_in hs
        exact .inl (.inl (w_of (fun m => (List.mem_cons.mp m).elim (fun z => by rw [z, hx] at h1; cases h1) n) h1))
      · obtain ⟨h1, n⟩ := w_in hs
        exact .inl (.inr ⟨o, w_of (fun m => (List.mem_cons.mp m).elim (fun z => by rw [z, hx] at h1; cases h1) n) h1⟩)
      · exact .inr hs
  | .dict _, _, h => by cases h
theorem dpa_offI {H : Hp} {x dx : Addr} {fs : List (Str × V)} {L : List Addr} (hx : H x = some (.ins C dx fs)) : ∀ (ds : List PyData) (vs : List V), DpAll K (W L H) vs ds → DpAll K (W (x :: L) H) vs ds
  | [], _, h => by cases h; exact .nil
  | d :: ds, _, h => by
    cases h with
    | cons h1 h2 => exact .cons (dp_offI hx d _ h1) (dpa_offI hx ds _ h2)
end
/-- [.. for x in a list or a tuple of data], what is made told without the lists of L -/
theorem eg_seqM {L : List Addr} {σ : L2.St} {H : Hp} {te tl : TE} {a : Addr} {xs : List V} {ds : List PyData} {j : Nat} {vs : List Nat} {g : PyData → PyData} (h : Evl.Ev tl σ H (.ref a)) (hx : SqL K H a xs ∨ SqT K H a xs) (hd : DpAll K H xs ds) (hL : Lsts L H) (hz : ds.length ≤ 50000) (hw : ∀ x, wipe ((wipe σ vs).set j (some x)) vs = wipe σ vs)
    (he : ∀ L' (x : V) d H1, d ∈ ds → Lsts L' H1 → Ex H H1 → Dp K H1 x d → EvD K L' te ((wipe σ vs).set j (some x)) H1 (g d)) : EvG K L (tLc (iSeq K tl) (gName j) tYes te vs) σ H (ds.map g) := fun H0 e0 Q q => h H0 e0 _ fun H1 e1 => by
  have hlen := dpa_len hd
  have turn : ∀ (Dl : Addr) (i : Nat) (x : V) (H2 H3 : Hp), i < xs.length → Cmd K L H1 (fun i => (ds.take i).map g) Dl i H2 → YAt xs i H2 x H3 → gName j x (wipe σ vs) H3 fun σ2 H2 => wipe σ2 vs = wipe σ vs ∧ tYes σ2 H2 fun b H3 =>
      if b = true then te σ2 H3 fun y H4 => ∃ acc, H4 Dl = some (.lst acc) ∧ acc.length < sizeLine ∧ Cmd K L H1 (fun i => (ds.take i).map g) Dl (i + 1) (upd H4 Dl (.lst (acc ++ [y]))) else Cmd K L H1 (fun i => (ds.take i).map g) Dl (i + 1) H3 := by
    intro Dl i x H2 H3 hi p yp
    obtain ⟨rfl, hu⟩ := yp
    obtain ⟨d, hd1, hd2⟩ := dpa_get hd hu
    obtain ⟨p1, p2, p3⟩ := id p
    refine ⟨hw x, ?_⟩
    refine yes_lc (A := fun H3 => te ((wipe σ vs).set j (some x)) H3 fun y H4 => ∃ acc, H4 Dl = some (.lst acc) ∧ acc.length < sizeLine ∧ Cmd K L H1 (fun i => (ds.take i).map g) Dl (i + 1) (upd H4 Dl (.lst (acc ++ [y])))) (B := fun H3 => Cmd K L H1 (fun i => (ds.take i).map g) Dl (i + 1) H3) ?_
    obtain ⟨_, acc, p4, _⟩ := id p3
    refine cmd_yes p (by simp; omega) (Ex.refl _) (he _ x d _ (List.mem_of_getElem? hd1) (lsts_cons p4 (hL.ex ((e0.trans e1).trans p2))) ((e0.trans e1).trans p2) (hd2.up ((e0.trans e1).trans p2))) ?_
    have hi' : i < ds.length := by omega
    rw [List.take_add_one, hd1]
    simp
  have fin : ∀ Dl H2, Cmd K L H1 (fun i => (ds.take i).map g) Dl xs.length H2 → Q (.ref Dl) H2 := fun Dl H2 p => by
    obtain ⟨p1, p2, p3⟩ := p
    refine q Dl H2 (Evl.fresh_back e1 p1) (e1.trans p2) ?_
    have e : (ds.take xs.length).map g = ds.map g := by rw [hlen, List.take_length]
    rw [← e]
    exact p3
  have hL1 : Hid L H1 := hid_ex (e0.trans e1) hL.hid
  refine ⟨a, rfl, ?_⟩
  rcases hx with x1 | x1
  · refine .inl ⟨⟨xs, Evl.ex_l (e0.trans e1) x1⟩, fun Dl hD => ?_⟩
    exact lc_it (walk_list (xs := xs)) (Cmd K L H1 (fun i => (ds.take i).map g) Dl) (cmd_0 hL1 hD rfl) (fun i H2 _ p => Evl.ex_l ((e0.trans e1).trans p.2.1) x1) (fun i x H2 H3 hi p y => turn Dl i x H2 H3 hi p y) (fun H2 p => fin Dl H2 p)
  · refine .inr ⟨⟨xs, Evl.ex_t (e0.trans e1) x1⟩, fun Dl hD => ?_⟩
    exact lc_it (walk_tup (xs := xs)) (Cmd K L H1 (fun i => (ds.take i).map g) Dl) (cmd_0 hL1 hD rfl) (fun i H2 _ p => Evl.ex_t ((e0.trans e1).trans p.2.1) x1) (fun i x H2 H3 hi p y => turn Dl i x H2 H3 hi p y) (fun H2 p => fin Dl H2 p)
theorem ev_spCopyM {L : List Addr} {σ : L2.St} {H : Hp} {te : TE} {v : V} {d : PyData} {p : Int} (h : Evl.Ev te σ H v) (hL : Lsts L H) (hd : Dp K H v d) (hr : RlM p d) : EvD K L (tCallD (spCopyM K) (tCons te tNil)) σ H (cpy d) := fun H1 e Q q =>
  h H1 e _ fun H2 e2 => ⟨v, p, d, L, rfl, hL.ex (e.trans e2), hd.up (e.trans e2), hr, fun v' H' e' hv => q v' H' (e2.trans e') hv⟩
def spInitM (K : PySem.W.Frag) (C : Addr) : Sp := fun vs H Q _ => ∃ x dx v p ds L, vs = [.ref x, .int p, v] ∧ H x = some (.ins C dx []) ∧ 1 ≤ p ∧ p ≤ 3 ∧ Lsts L H ∧ (Dp K H v (.list ds) ∨ Dp K H v (.tuple ds)) ∧ RwsM p ds ∧
  ∀ H', (∀ a o, a ≠ x → H a = some o → H' a = some o) → Smp K L H' x C p (ds.map cpy) → Q .non H'
theorem ok_SinitM {f : Addr} {fd : FuncData} {T0 : Addr} (F : FunD K "__init__" "Sample.__init__" (defArgs s_Sample_init) (defBody s_Sample_init) (defScope s_Sample_init) [.ref T0] [] f fd) (T : TxF mg) (S : SmpC K C)
    (D_is_number_of_places : DefAt P w K mg base "is_number_of_places" 2 ["thing"] (spB K isN)) (D_is_row : DefAt P w K mg base "is_row" 1 ["thing"] (spB K isR)) (D_is_example : DefAt P w K mg base "is_example" 4 ["thing", "places"] (spBp K isX))
    (D_copied_example : DefAt P w K mg base "copied_example" 1 ["example"] (spCopyM K)) : FnOk P w K mg base CX0 5 f fd ["self", "places", "examples"] (spInitM K C) := by
  refine funD_ok0 F sc_Sample_init (fun vs H Q E h => ?_) (fun cdv A outer s H vs Q E hr h => ?_)
  · obtain ⟨_, _, _, _, _, _, rfl, _⟩ := h
    rfl
  · obtain ⟨x, dx, v, p, ds, L, rfl, hx, p1, p3, hL, hd, hR, k⟩ := h
    refine ⟨_, (pss_cons (ps_if (pt_not (pt_val (pe_callD D_is_number_of_places (by first | exact hr | exact hr.mono (by decide) | exact hr.mono (by omega)) (by rfl) (pa_cons (pv 1) pa_nil)))) (pss_one ps_never) pss_nil)
    (pss_cons (ps_if (pt_not (pt_val (pe_callD D_is_row (by first | exact hr | exact hr.mono (by decide) | exact hr.mono (by omega)) (by rfl) (pa_cons (pv 2) pa_nil)))) (pss_one ps_never) pss_nil)
    (pss_cons (ps_for PassesOwn.never rfl (pi_enumA (by rfl) T.m_enumerate (pa_cons (pv 2) pa_nil)) (pg_tup (by rfl) (pgs_cons (pg_name (i := 3) sc_Sample_init.nd rfl (by first | exact Or.inl rfl | exact Or.inr rfl)) (pgs_cons (pg_name (i := 4) sc_Sample_init.nd rfl (by first | exact Or.inl rfl | exact Or.inr rfl)) pgs_nil)))
      (pss_one (ps_if (pt_not (pt_val (pe_callD D_is_example (by first | exact hr | exact hr.mono (by decide) | exact hr.mono (by omega)) (by rfl) (pa_cons (pv 4) (pa_cons (pv 1) pa_nil))))) (pss_one ps_never) pss_nil)))
    (pss_cons (ps_fld (pv 0) (pv 1) rfl)
    (pss_one (ps_fld (pv 0) (pe_callTy call_tuple_of (by rfl) T.m_tuple (by decide +kernel) (pa_cons (pe_lc (own := [("example", 5)]) (g := gName 5) (tt := tYes) (by rfl) sc_Sample_init.nd (pi_seq (pv 2)) (blkOk_by (N := sc_Sample_init_N) (sc := defScope s_Sample_init) (by decide +kernel)) (fun _ _ _ _ _ => (pg_name (i := 5) sc_Sample_init.nd rfl (by first | exact Or.inl rfl | exact Or.inr rfl))) (fun _ _ _ _ _ => pts_nil) (fun _ _ _ _ _ => (pe_callD D_copied_example (by first | exact hr | exact hr.mono (by decide) | exact hr.mono (by omega)) (by rfl) (pa_cons (pv 5) pa_nil)))) pa_nil)) rfl)))))), ?_⟩
    have v1 : Evl.Ev (tVar 1) (start sc_Sample_init_N [.ref x, .int p, v]) H (.int p) := Evl.ev_var rfl
    have v2 : Evl.Ev (tVar 2) (start sc_Sample_init_N [.ref x, .int p, v]) H v := Evl.ev_var rfl
    have hN : isN (.int p) = true := by
      show (decide (1 ≤ p) && decide (p ≤ 3)) = true
      simp [p1, p3]
    obtain ⟨d0, hd0, hR0⟩ : ∃ d0, Dp K H v d0 ∧ isR d0 = true := hd.elim (fun z => ⟨_, z, rfl⟩) fun z => ⟨_, z, rfl⟩
    refine Evl.q_when (b := false) (Evl.et_is (Evl.et_not (Evl.et_B (ev_spB v1 (.int p)))) (by rw [hN]; rfl)) (fun z => by cases z) (fun _ H1 e1 => ?_)
    refine Evl.q_when (b := false) (Evl.et_is (Evl.et_not (Evl.et_B (ev_spB (v2.mono e1) (hd0.up e1)))) (by rw [hR0]; rfl)) (fun z => by cases z) (fun _ H2 e2 => ?_)
    have e12 := e1.trans e2
    obtain ⟨a, xs, rfl, hs, ha⟩ : ∃ a xs, v = .ref a ∧ (SqL K H a xs ∨ SqT K H a xs) ∧ DpAll K H xs ds := by
      rcases hd with hd | hd
      · cases hd with
        | lst hs ha => exact ⟨_, _, rfl, .inl hs, ha⟩
      · cases hd with
        | tup hs ha => exact ⟨_, _, rfl, .inr hs, ha⟩
    have hlen := dpa_len ha
    let Pv : Nat → L2.St → Hp → Prop := fun _ σ' H' => Ex H H' ∧ ∃ s3 s4, σ' = [some (.ref x), some (.int p), some (.ref a), s3, s4, none]
    have turn : ∀ (i : Nat) (y : V) (σ' : L2.St) (H3 H4 : Hp) (D : Ends) (u : TS), i < xs.length → Pv i σ' H3 → YPair (fun i => some (.int (i : Nat))) (fun i => xs[i]?) i H3 y H4 → gTup K 2 (gCons (gName 3) (gCons (gName 4) gNil)) y σ' H4 fun σ2 H5 =>
        tIfS (tNot (tB (tCallD (spBp K isX) (tCons (tVar 4) (tCons (tVar 1) tNil))))) tNever tNext { D with nx := Pv (i + 1), ct := Pv (i + 1), bk := D.nx } σ2 H5 := by
      intro i y σ' H3 H4 D u hi pv yp
      obtain ⟨e3, s3, s4, rfl⟩ := pv
      obtain ⟨Tt, u1, u2, rfl, hT, rfl, hu1, hu2⟩ := yp
      have hu2' : xs[i]? = some u2 := hu2
      obtain ⟨d, hd1, hd2⟩ := dpa_get ha hu2'
      have hrw := hR.2 d (List.mem_of_getElem? hd1)
      refine ⟨Tt, [u1, u2], rfl, SqT.of upd_same, rfl, u1, [u2], rfl, u2, [], rfl, rfl, ?_⟩
      have e4 := e3.trans (Ex.new (o := .tup [u1, u2]) hT)
      refine Evl.s_when (b := false) (Evl.et_is (Evl.et_not (Evl.et_B (ev_spBp (d := d) (p := p) (Evl.ev_var rfl) (Evl.ev_var rfl) (hd2.up e4) ⟨2, rlM_fits hrw⟩))) (by rw [rlM_isX hrw]; rfl)) (fun z => by cases z) (fun _ H6 e6 => ?_)
      exact ⟨e4.trans e6, _, _, rfl⟩
    have fin : ∀ σ' H3, Pv xs.length σ' H3 → tSeq (sFld K (tVar 0) (tVar 1) "places") (sFld K (tVar 0) (tCB (fun xs H Q => ∃ p ys, xs = [.ref p] ∧ ((SqL K H p ys ∧ ∀ l, H l = none → Q (.ref l) (upd H l (.tup ys))) ∨ (SqT K H p ys ∧ Q (.ref p) H)))
        (tCons (tLc (iSeq K (tVar 2)) (gName 5) tYes (tCallD (spCopyM K) (tCons (tVar 5) tNil)) [5]) tNil)) "_pairs") { nx := fun _ H' => Q .non H', rt := Q } σ' H3 := by
      rintro σ' H3 ⟨e3, s3, s4, rfl⟩
      refine ⟨_, rfl, _, rfl, x, C, dx, [], rfl, e3 x _ hx, S.cl, S.nP, by decide, ?_⟩
      have hx3 := e3 x _ hx
      have hxL : x ∉ L := fun m => by
        obtain ⟨ys, q⟩ := hL x m
        rw [hx] at q
        cases q
      have off : ∀ {H4 : Hp}, Ex H H4 → ∀ {o}, Ex (W [x] H4) (upd H4 x o) := fun {H4} e {o} b u hb => by
        obtain ⟨h1, n⟩ := w_in hb
        rw [upd_ne (fun z => n (by rw [z]; exact List.mem_singleton.mpr rfl))]
        exact h1
      have ha3 : DpAll K (W [x] H3) xs ds := dpa_offI (L := []) hx3 ds xs (by rw [w_nil]; exact ha.up e3)
      have ha2 : DpAll K (upd H3 x (.ins C dx (putF "places" (.int p) []))) xs ds := ha3.up (off e3)
      have hL2 : Lsts L (upd H3 x (.ins C dx (putF "places" (.int p) []))) := fun b m => by
        obtain ⟨ys, q⟩ := hL b m
        exact ⟨ys, by rw [upd_ne (fun z => hxL (by rw [← z]; exact m))]; exact e3 _ _ q⟩
      have hs2 : SqL K (upd H3 x (.ins C dx (putF "places" (.int p) []))) a xs ∨ SqT K (upd H3 x (.ins C dx (putF "places" (.int p) []))) a xs := by
        have one : Dp K (upd H3 x (.ins C dx (putF "places" (.int p) []))) (.ref a) (.list ds) ∨ Dp K (upd H3 x (.ins C dx (putF "places" (.int p) []))) (.ref a) (.tuple ds) := by
          rcases hd with hd | hd
          · exact .inl ((dp_offI (L := []) hx3 _ _ (by rw [w_nil]; exact hd.up e3)).up (off e3))
          · exact .inr ((dp_offI (L := []) hx3 _ _ (by rw [w_nil]; exact hd.up e3)).up (off e3))
        rcases hs with hs | hs
        · refine .inl ?_
          rcases hs with (hs | ⟨o, hs⟩) | hs
          · exact .inl (.inl (by rw [upd_ne (fun z => by rw [z, hx] at hs; cases hs)]; exact e3 _ _ hs))
          · exact .inl (.inr ⟨o, by rw [upd_ne (fun z => by rw [z, hx] at hs; cases hs)]; exact e3 _ _ hs⟩)
          · exact .inr hs
        · refine .inr ?_
          rcases hs with (hs | ⟨o, hs⟩) | hs
          · exact .inl (.inl (by rw [upd_ne (fun z => by rw [z, hx] at hs; cases hs)]; exact e3 _ _ hs))
          · exact .inl (.inr ⟨o, by rw [upd_ne (fun z => by rw [z, hx] at hs; cases hs)]; exact e3 _ _ hs⟩)
          · exact .inr hs
      have eg := eg_seqM (K := K) (L := L) (te := tCallD (spCopyM K) (tCons (tVar 5) tNil)) (tl := tVar 2) (j := 5) (vs := [5]) (g := cpy) (σ := [some (.ref x), some (.int p), some (.ref a), s3, s4, none]) (Evl.ev_var rfl) hs2 ha2 hL2 (by have := hR.1; omega) (fun _ => rfl)
        (fun L' y d H1 hd1 hL' e' hd' => ev_spCopyM (Evl.ev_var rfl) hL' hd' (hR.2 d hd1))
      refine sfld_run (evd_tupG eg hL2.hid _ (Ex.refl _) _ fun y H4 e4 hy => ?_)
      have hx4 := e4 x _ upd_same
      refine ⟨_, rfl, x, C, dx, _, rfl, hx4, S.cl, S.nQ, by show 1 < 1000; omega, ?_⟩
      refine k _ (fun b o nb hb => ?_) ⟨dx, y, upd_same, ?_⟩
      · rw [upd_ne nb]
        refine e4 b o ?_
        rw [upd_ne nb]
        exact e3 b o hb
      · refine (dp_offI hx4 _ _ hy).up fun b o hb => ?_
        obtain ⟨h1, n⟩ := w_in hb
        have nb : b ≠ x := fun z => n (by rw [z]; exact List.mem_cons_self ..)
        exact w_of (fun m => n (List.mem_cons_of_mem _ m)) (by rw [upd_ne nb]; exact h1)
    refine ⟨_, rfl, a, xs, rfl, ?_⟩
    rcases hs with x1 | x1
    · exact .inl ⟨Evl.ex_l e12 x1, for_it (walk_enum (xs := xs)) Pv ⟨e12, none, none, rfl⟩ (fun i σ' H3 _ pv => Evl.ex_l pv.1 x1) (fun i y σ' H3 H4 hi pv yp => turn i y σ' H3 H4 _ tNext hi pv yp) fin⟩
    · exact .inr ⟨Evl.ex_t e12 x1, for_it (walk_enumT (xs := xs)) Pv ⟨e12, none, none, rfl⟩ (fun i σ' H3 _ pv => Evl.ex_t pv.1 x1) (fun i y σ' H3 H4 hi pv yp => turn i y σ' H3 H4 _ tNext hi pv yp) fin⟩
end
end U

set_option Elab.async false
set_option linter.all false
set_option maxRecDepth 100000
set_option maxHeartbeats 4000000
/-! samples made and their rows drawn; the sample's methods -/
namespace U
open PySem PySem.Spec PyProof.Rows L2
open Evl (Ex)
open C8 (Met Mak pe_mt pe_mt0 pe_mk)
abbrev s_point : Stmt := top 26
abbrev sc_point_N : List Str := ["_law_draws", "_law_places", "_law_wide", "_law_k"]
theorem sc_point : FnScope sc_point_N ["_law_draws", "_law_places", "_law_wide"] (defScope s_point) := ⟨rfl, rfl, rfl, by decide +kernel, rfl, by decide +kernel, by decide +kernel⟩
abbrev s_rows : Stmt := top 27
abbrev sc_rows_N : List Str := ["_law_draws", "_law_places", "_law_most", "_law_wide", "_law_rows_here", "_law_k", "_law_point_here"]
theorem sc_rows : FnScope sc_rows_N ["_law_draws", "_law_places", "_law_most", "_law_wide"] (defScope s_rows) := ⟨rfl, rfl, rfl, by decide +kernel, rfl, by decide +kernel, by decide +kernel⟩
section
def EvS (K : PySem.W.Frag) (L : List Addr) (C : Addr) (p : Int) (ds : List PyData) (te : TE) (σ : L2.St) (H : Hp) : Prop := ∀ H1, Ex H H1 → ∀ Q : VK, (∀ y H2, Ex H1 H2 → Smp K L H2 y C p ds → Q (.ref y) H2) → te σ H1 Q
end
section
variable {P : Program} {w : World} {K : PySem.W.Frag} {mg : Str → Option Value} {base : Heap} {C : Addr} {L : List Addr} {σ : L2.St} {H H1 H' : Hp} {p : Int} {ds es : List PyData} {tp tl te : TE} {x y : Addr}
theorem s_retS {D : Ends} (h : EvS K L C p ds te σ H) (k : ∀ y H1, Ex H H1 → Smp K L H1 y C p ds → D.rt (.ref y) H1) : tRet te D σ H := h H (Ex.refl H) _ k
end
section
variable {P : Program} {w : World} {K : PySem.W.Frag} {mg : Str → Option Value} {base : Heap} {C : Addr} {L : List Addr} {σ : L2.St} {H H1 H' : Hp} {p : Int} {ds es : List PyData} {tp tl te : TE} {x y : Addr}
theorem Smp.inv (h : Smp K L H x C p ds) : ∃ dx t xs, H x = some (.ins C dx [("places", .int p), ("_pairs", .ref t)]) ∧ SqT K H t xs ∧ DpAll K (W L H) xs ds ∧ Dp K (W L H) (.ref t) (.tuple ds) := by
  obtain ⟨dx, v, h1, h2⟩ := h
  have h2' := h2
  cases h2 with
  | @tup t xs _ hs ha => exact ⟨dx, t, xs, h1, Evl.ex_t w_sub hs, ha, h2'⟩
end
section
theorem lay_all : ∀ {ds : List PyData}, (∀ d ∈ ds, d.canLay0 = true ∧ d.depth ≤ 2) → PyData.canLayAll0 ds = true ∧ PyData.depthAll ds ≤ 2
  | [], _ => ⟨rfl, Nat.zero_le _⟩
  | d :: ds, h => by
    obtain ⟨h1, h2⟩ := h d (List.mem_cons_self ..)
    obtain ⟨h3, h4⟩ := lay_all (ds := ds) fun e he => h e (List.mem_cons_of_mem _ he)
    exact ⟨by show (d.canLay0 && PyData.canLayAll0 ds) = true; rw [h1, h3]; rfl, by show max d.depth (PyData.depthAll ds) ≤ 2; omega⟩
end
section
theorem lay_ints : ∀ ns : List Int, PyData.canLayAll0 (ns.map .int) = true ∧ PyData.depthAll (ns.map .int) = 0
  | [] => ⟨rfl, rfl⟩
  | n :: ns => by
    obtain ⟨h1, h2⟩ := lay_ints ns
    exact ⟨by show (true && PyData.canLayAll0 (ns.map .int)) = true; rw [h1]; rfl, by show max 0 (PyData.depthAll (ns.map .int)) = 0; rw [h2]; rfl⟩
end
section
theorem Rws.shaped {p : Int} {ds : List PyData} (h : Rws p ds) : SeqAt.shaped (.tuple ds) = true ∧ SeqAt.shaped (.list ds) = true := by
  have q : ∀ d ∈ ds, d.canLay0 = true ∧ d.depth ≤ 2 := fun d hd => by
    obtain ⟨ns, b, rfl, _⟩ := h.2 d hd
    obtain ⟨h1, h2⟩ := lay_ints ns
    refine ⟨?_, ?_⟩
    · show (PyData.canLayAll0 (ns.map .int) && true) = true
      rw [h1]
      rfl
    · show max (PyData.depthAll (ns.map .int) + 1) 0 + 1 ≤ 2
      rw [h2]
      decide
  obtain ⟨h1, h2⟩ := lay_all q
  have e1 : PyData.canLay0 (.tuple ds) = true := h1
  have e2 : PyData.depth (.tuple ds) ≤ 64 := by show PyData.depthAll ds + 1 ≤ 64; omega
  have e3 : PyData.canLay0 (.list ds) = true := h1
  have e4 : PyData.depth (.list ds) ≤ 64 := by show PyData.depthAll ds + 1 ≤ 64; omega
  exact ⟨Bool.and_eq_true_iff.mpr ⟨e1, decide_eq_true e2⟩, Bool.and_eq_true_iff.mpr ⟨e3, decide_eq_true e4⟩⟩
end
section
variable {P : Program} {w : World} {K : PySem.W.Frag} {mg : Str → Option Value} {base : Heap} {C U : Addr}
theorem ev_isS {σ : L2.St} {H : Hp} {te : TE} {y dx : Addr} {fs : List (Str × V)} (S : SmpC K C) (h : Evl.Ev te σ H (.ref y)) (hy : H y = some (.ins C dx fs)) : Evl.Ev (tCB (rIsi K) (tCons te (tCons (tC (.ref C)) tNil))) σ H (.bl true) := fun H1 e1 Q q =>
  h H1 e1 _ fun H2 e2 => ⟨.ref y, .ref C, .ref C, .ref C, true, rfl, .own C, .base (.ins ((e1.trans e2) y _ hy) S.cl S.ha S.hn S.htk S.hm), S.kS, q H2 e2⟩
end
section
def spPoint (K : PySem.W.Frag) : Sp := fun vs H Q _ => ∃ (l : Addr) (p w : Int) (n : Nat) (L : List Addr), vs = [.ref l, .int p, .int w] ∧ Dr n H l ∧ n < 900000 ∧ l ∈ L ∧ Hid L H ∧ 1 ≤ p ∧ p ≤ 3 ∧ 0 ≤ w ∧ w ≤ 1000 ∧
  ∀ v ns H', ExB l H H' → Dr (n + 3) H' l → ((ns : List Int).length : Int) = p → (∀ e ∈ ns, -w ≤ e ∧ e ≤ w) → Dp K (W L H') v (.tuple (ns.map .int)) → Q v H'
end
section
def spRows (K : PySem.W.Frag) : Sp := fun vs H Q _ => ∃ (l : Addr) (p m w : Int) (n : Nat) (L : List Addr), vs = [.ref l, .int p, .int m, .int w] ∧ Dr n H l ∧ n < 800000 ∧ l ∈ L ∧ Hid L H ∧ 1 ≤ p ∧ p ≤ 3 ∧ 0 ≤ m ∧ m ≤ 100 ∧ 0 ≤ w ∧ w ≤ 99 ∧
  ∀ t ds H', H t = none → ExB l H H' → Dr (n + 701) H' l → Gr K L H' t ds → (ds.length : Int) ≤ m → (∀ d ∈ ds, Rw p d) → Q (.ref t) H'
end
section
theorem dpa_ints {K : PySem.W.Frag} {H : Hp} : ∀ ns : List Int, DpAll K H (ns.map V.int) (ns.map PyData.int)
  | [] => .nil
  | n :: ns => .cons (.int n) (dpa_ints ns)
end
section
variable {P : Program} {w : World} {K : PySem.W.Frag} {mg : Str → Option Value} {base : Heap}
theorem draw_run {σ : L2.St} {H : Hp} {tm : TE} {l : Addr} {n : Nat} {many : Int} {Q : VK} (h0 : σ[0]? = some (some (.ref l))) (hd : Dr n H l) (hn : n < 1000000) (hm : Evl.Ev tm σ H (.int many)) (m0 : 0 < many) (m1 : many < 1073741824)
    (k : ∀ r H', 0 ≤ r → r < many → Dr (n + 1) H' l → ExB l H H' → Q (.int r) H') : tCallD spDraw (tCons (tVar 0) (tCons tm tNil)) σ H Q :=
  ⟨_, h0, hm H (Ex.refl H) _ fun H1 e1 => ⟨l, many, n, rfl, hd.ex e1, hn, m0, m1, fun r o r0 r1 hd' => k r _ r0 r1 hd' ((ExB.of e1).trans ExB.upd)⟩⟩
end
section
variable {P : Program} {w : World} {K : PySem.W.Frag} {mg : Str → Option Value} {base : Heap}
theorem ok_point {f : Addr} {fd : FuncData} (F : Fun K "_law_point" "_law_point" s_point f fd) (T : TxF mg) (D_draw : DefAt P w K mg base "_law_draw" 1 ["_law_draws", "_law_many"] spDraw) : FnOk P w K mg base CX0 2 f fd ["_law_draws", "_law_places", "_law_wide"] (spPoint K) := by
  refine F.ok sc_point (fun vs H Q E h => ?_) (fun cdv A outer s H vs Q E hr h => ?_)
  · obtain ⟨_, _, _, _, _, rfl, _⟩ := h
    rfl
  · obtain ⟨l, p, w, n, L, rfl, hd, hn, hl, hL, p1, p3, w0, w1, k⟩ := h
    refine ⟨_, (pss_one (ps_ret (pe_callTy call_tuple_of (by rfl) T.m_tuple (by decide +kernel) (pa_cons (pe_lc (own := [("_law_k", 3)]) (g := gName 3) (tt := tYes) (by rfl) sc_point.nd (pi_range1 (by rfl) T.m_range (pa_cons (pv 1) pa_nil)) (blkOk_by (N := sc_point_N) (sc := defScope s_point) (by decide +kernel)) (fun _ _ _ _ _ => (pg_name (i := 3) sc_point.nd rfl (by first | exact Or.inl rfl | exact Or.inr rfl))) (fun _ _ _ _ _ => pts_nil) (fun _ _ _ _ _ => (pe_op op_sub (pe_callD D_draw (by first | exact hr | exact hr.mono (by decide) | exact hr.mono (by omega)) (by rfl) (pa_cons (pv 0) (pa_cons (pe_op op_add (pe_op op_mul pe_int (pv 2)) pe_int) pa_nil))) (pv 2)))) pa_nil)))), ?_⟩
    refine ⟨_, rfl, p, rfl, by omega, by omega, fun Dl hD => ?_⟩
    have hDl : Dl ≠ l := fun e => hd.ne (by rw [← e]; exact hD)
    let Pv : Nat → Hp → Prop := fun i H' => ExB l H H' ∧ Dr (n + i) H' l ∧ ∃ ns : List Int, ns.length = i ∧ (∀ e ∈ ns, -w ≤ e ∧ e ≤ w) ∧ H' Dl = some (.lst (ns.map V.int))
    refine lc_range (lo := 0) (n := p.toNat) Pv ⟨ExB.of (Ex.new hD), hd.ex (Ex.new hD), [], rfl, (fun _ z => nomatch z), upd_same⟩ (fun i H2 hi pv => ?_) (fun H2 pv => ?_)
    · obtain ⟨e2, hd2, ns, hns, hb, hl2⟩ := pv
      refine ⟨rfl, ?_⟩
      refine yes_lc (B := fun H3 => Pv (i + 1) H3) ?_
      refine draw_run (n := n + i) (many := 2 * w + 1) (by rfl) hd2 (by omega) (Evl.ev_op (Evl.ev_op Evl.ev_c (Evl.ev_var rfl) (Evl.rv_I (C := CMul) (g := fun i j => .int (i * j)) (i := 2) (j := w) (.inl ⟨by decide, by decide⟩))) Evl.ev_c (Evl.rv_I0 (g := fun i j => .int (i + j)))) (by omega) (by omega) fun r H3 r0 r1 hd3 e3 => ?_
      have h3 : H3 Dl = some (.lst (ns.map V.int)) := e3 Dl _ hDl hl2
      refine ⟨_, rfl, _, _, rfl, rfl, ns.map V.int, h3, Evl.sz_lt (by rw [List.length_map]; omega), ?_, ?_, ns ++ [r - w], ?_, (fun e he => (List.mem_append.mp he).elim (hb e) fun q => by
        rw [List.mem_singleton.mp q]
        omega), ?_⟩
      · intro b o hb hbo
        have nb : b ≠ Dl := ne_of_none hbo hD
        rw [upd_ne nb]
        exact e3 b o hb (e2 b o hb hbo)
      · obtain ⟨x, y, z, q1, q2⟩ := hd3
        exact ⟨x, y, z, by rw [upd_ne (Ne.symm hDl)]; exact q1, q2⟩
      · rw [List.length_append, hns]
        rfl
      · rw [upd_same, List.map_append]
        rfl
    · obtain ⟨e2, hd2, ns, hns, hb, hl2⟩ := pv
      have hDL : Dl ∉ L := hid_not hL hD
      refine ⟨Dl, ns.map V.int, rfl, .inl ⟨SqL.of hl2, fun r hr => ?_⟩⟩
      have hLr : r ∉ L := fun m => (e2.hid hd2.ne hL) r m hr
      refine k _ ns _ (e2.trans (ExB.of (Ex.new hr))) ((hd2.ex (Ex.new hr)).up (by omega)) (by omega) hb (.tup (SqT.of (w_of hLr upd_same)) (dpa_ints ns))
end
section
variable {P : Program} {w : World} {K : PySem.W.Frag} {mg : Str → Option Value} {base : Heap}
theorem Dr.upd_ne {n : Nat} {H : Hp} {l t : Addr} {o : HO} (h : Dr n H l) (ne : t ≠ l) : Dr n (upd H t o) l := by
  obtain ⟨x, y, z, q1, q2⟩ := h
  exact ⟨x, y, z, by rw [L2.upd_ne (Ne.symm ne)]; exact q1, q2⟩
end
section
variable {P : Program} {w : World} {K : PySem.W.Frag} {mg : Str → Option Value} {base : Heap}
theorem Gr.exB {L : List Addr} {H H' : Hp} {l t : Addr} {ds : List PyData} (h : Gr K L H t ds) (e : ExB l H H') (m : l ∈ L) : Gr K L H' t ds := by
  obtain ⟨n, xs, h1, h2⟩ := h
  exact ⟨n, xs, e t _ (fun z => n (by rw [z]; exact m)) h1, h2.up (e.w (List.mem_cons_of_mem _ m))⟩
end
section
variable {P : Program} {w : World} {K : PySem.W.Frag} {mg : Str → Option Value} {base : Heap}
def spPickV (K : PySem.W.Frag) : Sp := fun vs H Q _ => ∃ (l t : Addr) (xs : List V) (n : Nat) (L : List Addr), vs = [.ref l, .ref t] ∧ Dr n H l ∧ n < 1000000 ∧ l ∈ L ∧ SqL K (W L H) t xs ∧ 0 < xs.length ∧ xs.length < 1073741824 ∧
  ∀ v o, v ∈ xs → Dr (n + 1) (upd H l o) l → Q v (upd H l o)
end
section
variable {P : Program} {w : World} {K : PySem.W.Frag} {mg : Str → Option Value} {base : Heap}
theorem ok_pickV {f : Addr} {fd : FuncData} (F : Fun K "_law_pick" "_law_pick" s_pick f fd) (T : TxB mg) (D_draw : DefAt P w K mg base "_law_draw" 1 ["_law_draws", "_law_many"] spDraw) : FnOk P w K mg base CX0 2 f fd ["_law_draws", "_law_things"] (spPickV K) := by
  refine F.ok sc_pick (fun vs H Q E h => ?_) (fun cdv A outer s H vs Q E hr h => ?_)
  · obtain ⟨_, _, _, _, _, rfl, _⟩ := h
    rfl
  · obtain ⟨l, t, xs, n, L, rfl, hd, hn, hL, hs, h0, h1, k⟩ := h
    refine ⟨_, (pss_one (ps_ret (pe_ix ix_list (pv 1) (pe_callD D_draw (by first | exact hr | exact hr.mono (by decide) | exact hr.mono (by omega)) (by rfl) (pa_cons (pv 0) (pa_cons (pe_callB call_len_seq (by rfl) T.m_len (by decide +kernel) (pa_cons (pv 1) pa_nil)) pa_nil))) (fun _ _ => rfl)))), ?_⟩
    refine ⟨_, rfl, _, rfl, _, rfl, t, xs, rfl, .inl (Evl.ex_l w_sub hs), ?_⟩
    refine ⟨l, _, n, rfl, hd, hn, by omega, by omega, fun r o r0 r1 hd' => ?_⟩
    have hr' : r.toNat < xs.length := by omega
    have er : ((r.toNat : Nat) : Int) = r := by omega
    refine ⟨t, xs, r, xs[r.toNat], rfl, rfl, Evl.ex_l (w_sub (L := L)) (by rw [w_upd_in hL]; exact hs), ?_, ?_⟩
    · have q := atI_nat (List.getElem?_eq_getElem hr')
      rw [er] at q
      exact q
    · exact k _ o (List.getElem_mem hr') hd'
end
section
variable {P : Program} {w : World} {K : PySem.W.Frag} {mg : Str → Option Value} {base : Heap}
theorem ok_rows {f : Addr} {fd : FuncData} (F : Fun K "_law_rows" "_law_rows" s_rows f fd) (T : TxF mg) (D_draw : DefAt P w K mg base "_law_draw" 1 ["_law_draws", "_law_many"] spDraw) (D_pick : DefAt P w K mg base "_law_pick" 2 ["_law_draws", "_law_things"] (spPickV K))
    (D_point : DefAt P w K mg base "_law_point" 2 ["_law_draws", "_law_places", "_law_wide"] (spPoint K)) : FnOk P w K mg base CX0 3 f fd ["_law_draws", "_law_places", "_law_most", "_law_wide"] (spRows K) := by
  refine F.ok sc_rows (fun vs H Q E h => ?_) (fun cdv A outer s H vs Q E hr h => ?_)
  · obtain ⟨_, _, _, _, _, _, rfl, _⟩ := h
    rfl
  · obtain ⟨l, p, m, wd, n, L, rfl, hd, hn, hl, hL, p1, p3, m0, m1, w0, w1, k⟩ := h
    refine ⟨_, (pss_cons (ps_set (i := 4) sc_rows.nd rfl (by first | exact Or.inl rfl | exact Or.inr rfl) (pe_lst pa_nil))
    (pss_cons (ps_for PassesOwn.never rfl (pi_range1 (by rfl) T.m_range (pa_cons (pe_callD D_draw (by first | exact hr | exact hr.mono (by decide) | exact hr.mono (by omega)) (by rfl) (pa_cons (pv 0) (pa_cons (pe_op op_add (pv 2) pe_int) pa_nil))) pa_nil)) (pg_name (i := 5) sc_rows.nd rfl (by first | exact Or.inl rfl | exact Or.inr rfl))
      (pss_cons (ps_set (i := 6) sc_rows.nd rfl (by first | exact Or.inl rfl | exact Or.inr rfl) (pe_callD D_point (by first | exact hr | exact hr.mono (by decide) | exact hr.mono (by omega)) (by rfl) (pa_cons (pv 0) (pa_cons (pv 1) (pa_cons (pv 3) pa_nil)))))
      (pss_cons (ps_if (PW.pt (pw_and (pt_cmpR (op_neD hr.units) (pv 4) (pe_lst pa_nil) (nomark _)) (pw_and1 (pt_cmpR op_eq (pe_callD D_draw (by first | exact hr | exact hr.mono (by decide) | exact hr.mono (by omega)) (by rfl) (pa_cons (pv 0) (pa_cons pe_int pa_nil))) pe_int (nomark _))))) (pss_one (ps_set (i := 6) sc_rows.nd rfl (by first | exact Or.inl rfl | exact Or.inr rfl) (pe_ix ix_tup (pe_callD D_pick (by first | exact hr | exact hr.mono (by decide) | exact hr.mono (by omega)) (by rfl) (pa_cons (pv 0) (pa_cons (pv 4) pa_nil))) pe_int (fun _ _ => rfl)))) pss_nil)
      (pss_one (ps_expr (pe_bm PySem.F.plainAttrs_list PySem.F.slot_list_append PySem.F.type_list_append mt_append (pv 4) (pa_cons (pe_tup (pa_cons (pv 6) (pa_cons (pe_cmpR op_eq (pe_callD D_draw (by first | exact hr | exact hr.mono (by decide) | exact hr.mono (by omega)) (by rfl) (pa_cons (pv 0) (pa_cons pe_int pa_nil))) pe_int (nomark _)) pa_nil))) pa_nil)))))))
    (pss_one (ps_ret (pv 4))))), ?_⟩
    refine Evl.q_asgL (xs := []) (Evl.el_lst Evl.ea_nil (by decide)) fun t H1 ht e1 ht1 => ?_
    have htl : t ≠ l := fun e => hd.ne (by rw [← e]; exact ht)
    have htL : t ∉ L := hid_not hL ht
    have lt : l ∈ t :: L := List.mem_cons_of_mem _ hl
    let Pv : Nat → L2.St → Hp → Prop := fun i σ' H' => ExB l H H' ∧ Dr (n + 1 + 7 * i) H' l ∧ (∃ ds : List PyData, ds.length = i ∧ Gr K L H' t ds ∧ ∀ d ∈ ds, Rw p d) ∧ ∃ s5 s6, σ' = [some (.ref l), some (.int p), some (.int m), some (.int wd), some (.ref t), s5, s6]
    refine draw_run (n := n) (many := m + 1) (by rfl) (hd.ex e1) (by omega) (Evl.ev_op (Evl.ev_var rfl) Evl.ev_c (Evl.rv_I0 (g := fun i j => .int (i + j)))) (by omega) (by omega) fun r H2 r0 r1 hd2 e2 => ⟨r, rfl, by omega, by omega, for_range (lo := 0) (n := r.toNat) Pv ?_ (fun i σ' H3 hi pv => ?_) (fun σ' H3 pv => ?_)⟩
    · refine ⟨(ExB.of e1).trans e2, hd2, ⟨[], rfl, ?_, fun _ z => nomatch z⟩, none, none, rfl⟩
      exact ⟨htL, [], e2 t _ htl ht1, .nil⟩
    · obtain ⟨e3, hd3, ⟨ds, hds, hg, hrw⟩, s5, s6, rfl⟩ := pv
      have hi100 : i < 101 := by omega
      -- the row is made and kept
      have app : ∀ (s5 : Option V) (v6 : V) (ns : List Int) (N : Nat) (H5 : Hp) (D : Ends), D.nx = Pv (i + 1) → ExB l H3 H5 → Dr N H5 l → N ≤ n + 1 + 7 * i + 6 → Gr K L H5 t ds → Dp K (W (t :: L) H5) v6 (.tuple (ns.map .int)) → (ns.length : Int) = p → Sm ns →
          tDrop (tBM K "list" rAppend (tVar 4) (tCons (tTup (tCons (tVar 6) (tCons (tOp rEq (tCallD spDraw (tCons (tVar 0) (tCons (tC (.int 2)) tNil))) (tC (.int 0))) tNil))) tNil)) D [some (.ref l), some (.int p), some (.int m), some (.int wd), some (.ref t), s5, some v6] H5 := by
        intro s5 v6 ns N H5 D hD e5 hd5 hN hg5 hv hns hsm
        obtain ⟨_, xs, hx, hxs⟩ := id hg5
        have hlen := dpa_len hxs
        refine ⟨_, rfl, Or.inl ⟨rfl, xs, SqL.of hx⟩, _, rfl, ?_⟩
        refine draw_run (n := N) (many := 2) (by rfl) hd5 (by omega) Evl.ev_c (by omega) (by omega) fun q H6 q0 q1 hd6 e6 => ?_
        refine ⟨rfl, by show 2 ≤ sizeLine; decide, fun a ha => ?_⟩
        have g6 : Gr K L H6 t ds := hg5.exB e6 hl
        obtain ⟨_, xs6, hx6, hxs6⟩ := id g6
        have hlen6 := dpa_len hxs6
        have eN : Ex H6 (upd H6 a (.tup [v6, .bl (decide (V.int q = V.int 0))])) := Ex.new ha
        have hid6 : Hid (t :: L) H6 := fun b hb => by
          rcases List.mem_cons.mp hb with z | z
          · rw [z]
            exact g6.ne
          · exact (((e3.trans e5).trans e6).hid hd6.ne hL) b z
        refine ⟨t, xs6, .ref a, rfl, rfl, eN t _ hx6, Evl.sz_lt (by omega), ?_⟩
        show D.nx _ _
        rw [hD]
        refine ⟨?_, ?_, ⟨ds ++ [rowD ns (decide (V.int q = V.int 0))], by rw [List.length_append, hds]; rfl, ?_, ?_⟩, s5, some v6, rfl⟩
        · intro b o hb hbo
          have nb : b ≠ t := ne_of_none hbo ht
          rw [L2.upd_ne nb]
          exact eN b o (((e3.trans e5).trans e6) b o hb hbo)
        · exact ((hd6.ex eN).upd_ne htl).up (by omega)
        · refine gr_app htL (eN t _ hx6) (hxs6.up (w_ex eN)) (.tup (SqT.of (w_new hid6 ha)) (.cons ?_ (.cons (.bl _) .nil)))
          exact (hv.up (e6.w lt)).up (w_ex eN)
        · intro d hd
          rcases List.mem_append.mp hd with z | z
          · exact hrw d z
          · have : d = rowD ns (decide (V.int q = V.int 0)) := by simpa using z
            exact ⟨ns, _, this, hns, by omega, hsm⟩
      have hidt : ∀ {H5 : Hp}, ExB l H3 H5 → Dr 1000000 H5 l → Gr K L H5 t ds → Hid (t :: L) H5 := fun e5 hd5 g5 b hb => by
        rcases List.mem_cons.mp hb with z | z
        · rw [z]
          exact g5.ne
        · exact ((e3.trans e5).hid hd5.ne hL) b z
      refine ⟨_, rfl, _, rfl, _, rfl, l, p, wd, n + 1 + 7 * i, t :: L, rfl, hd3, by omega, lt, hidt (ExB.refl _ _) (hd3.up (by omega)) hg, p1, p3, w0, by omega, fun v ns H4 e4 hd4 hns hbd hv => ?_⟩
      have hsm : Sm ns := fun e he => by
        have := hbd e he
        omega
      have g4 : Gr K L H4 t ds := hg.exB e4 hl
      refine ⟨_, rfl, by show 0 ≤ sizeLine; exact Nat.zero_le _, fun q hq => ?_⟩
      have eq : Ex H4 (upd H4 q (.lst [])) := Ex.new hq
      have hRws : Rws p ds := ⟨by omega, hrw⟩
      refine ⟨.list ds, .list [], (g4.dp.up w_sub).up eq, .lst (SqL.of upd_same) .nil, hRws.shaped.2, by decide, _, rfl, ?_⟩
      have hdq : Dr (n + 1 + 7 * i + 3) (upd H4 q (.lst [])) l := hd4.ex eq
      refine ite2 (fun hb => ?_) (fun hb => ite2 (fun z => by cases z) fun _ => ?_)
      · have hne : 0 < ds.length := by
          rcases Nat.eq_zero_or_pos ds.length with z | z
          · have : ds = [] := List.eq_nil_of_length_eq_zero z
            subst this
            rw [PySem.SeqAt.eqv_refl _ (SeqAt.canLay_of_shaped hRws.shaped.2)] at hb
            cases hb
          · exact z
        refine draw_run (n := n + 1 + 7 * i + 3) (many := 6) (by rfl) hdq (by omega) Evl.ev_c (by omega) (by omega) fun c H5 c0 c1 hd5 e5 => ⟨rfl, _, rfl, ?_⟩
        have e45 : ExB l H3 H5 := (e4.trans (ExB.of eq)).trans e5
        have g5 : Gr K L H5 t ds := (g4.up eq).exB e5 hl
        refine ite2 (fun hc => ?_) (fun hc => ?_)
        · obtain ⟨_, ys, hy, hys⟩ := id g5
          have ylen := dpa_len hys
          refine ⟨_, rfl, _, rfl, l, t, ys, n + 1 + 7 * i + 3 + 1, L, rfl, hd5, by omega, hl, SqL.of (w_of htL hy), by omega, by omega, fun u o hum hd6 => ?_⟩
          obtain ⟨j, hj, rfl⟩ := List.getElem_of_mem hum
          obtain ⟨d, hd1, hd2⟩ := dpa_get hys (List.getElem?_eq_getElem hj)
          obtain ⟨ns2, b2, rfl, hns2, _, hsm2⟩ := hrw d (List.mem_of_getElem? hd1)
          have e6 : ExB l H5 (upd H5 l o) := ExB.upd
          have hd3 := hd2.up (e6.w lt)
          generalize ys[j] = u at hd3 ⊢
          cases hd3 with
          | @tup a6 zs _ hs6 ha6 =>
            cases ha6 with
            | @cons v6 _ _ _ r6 rr6 =>
              cases rr6 with
              | @cons v7 _ _ _ r7 rr7 =>
                cases rr7
                refine ⟨a6, [v6, v7], 0, v6, rfl, rfl, Evl.ex_t w_sub hs6, rfl, ?_⟩
                exact app _ v6 ns2 (n + 1 + 7 * i + 3 + 1 + 1) _ _ rfl (e45.trans e6) hd6 (by omega) (g5.exB e6 hl) r6 hns2 hsm2
        · exact app _ v ns (n + 1 + 7 * i + 3 + 1) H5 _ rfl e45 hd5 (by omega) g5 ((hv.up (w_ex eq)).up (e5.w lt)) hns hsm
      · exact app _ v ns (n + 1 + 7 * i + 3) (upd H4 q (.lst [])) _ rfl (e4.trans (ExB.of eq)) hdq (by omega) (g4.up eq) (hv.up (w_ex eq)) hns hsm
    · obtain ⟨e3, hd3, ⟨ds, hds, hg, hrw⟩, s5, s6, rfl⟩ := pv
      exact Evl.s_ret (Evl.ev_var rfl) fun H4 e4 => k t ds H4 ht (e3.trans (ExB.of e4)) ((hd3.ex e4).up (by omega)) (hg.up e4) (by omega) hrw
end

section
variable {P : Program} {w : World} {K : PySem.W.Frag} {mg : Str → Option Value} {base : Heap} {C : Addr} {L : List Addr} {σ : L2.St} {H H1 H' : Hp} {p : Int} {ds es : List PyData} {tp tl te : TE} {x T0 : Addr}
/-- what stands behind the making of a sample -/
theorem mk_atM {v : V} {H3 : Hp} {Q : VK} (hv : Dp K H3 v (.list ds) ∨ Dp K H3 v (.tuple ds)) (hL : Lsts L H3) (p1 : 1 ≤ p) (p3 : p ≤ 3) (hR : RwsM p ds) (q : ∀ y H', Ex H3 H' → Smp K L H' y C p (ds.map cpy) → Q (.ref y) H') :
    ∀ x dx, H3 x = none → H3 dx = none → dx ≠ x → spInitM K C [.ref x, .int p, v] (upd (upd H3 dx (.own x)) x (.ins C dx [])) (fun v H2 => v = .non ∧ Q (.ref x) H2) E0 := by
  intro x dx hx hdx ne
  have ex2 : (upd H3 dx (.own x)) x = none := by rw [upd_ne (Ne.symm ne)]; exact hx
  have eN : Ex H3 (upd (upd H3 dx (.own x)) x (.ins C dx [])) := (Ex.new hdx).trans (Ex.new ex2)
  exact ⟨x, dx, v, p, ds, L, rfl, upd_same, p1, p3, hL.ex eN, hv.imp (fun z => z.up eN) (fun z => z.up eN), hR, fun H' hk hS => ⟨rfl, q x H' (fun b o hb => hk b o (ne_of_none hb hx) (eN b o hb)) hS⟩⟩
theorem mk_runM (hp : Evl.Ev tp σ H (.int p)) (hd : EvD K [] tl σ H (.list ds) ∨ EvD K [] tl σ H (.tuple ds)) (hL : Lsts L H) (p1 : 1 ≤ p) (p3 : p ≤ 3) (hR : RwsM p ds) : EvS K L C p (ds.map cpy) (tMake C (spInitM K C) [] E0 (tCons tp (tCons tl tNil))) σ H := fun H1 e Q q => by
  refine hp H1 e _ fun H2 e2 => ?_
  rcases hd with hd | hd
  · exact hd H2 (e.trans e2) _ fun v H3 e3 hv => mk_atM (L := L) (.inl (by rw [w_nil] at hv; exact hv)) (hL.ex ((e.trans e2).trans e3)) p1 p3 hR fun y H' e' hS => q y H' ((e2.trans e3).trans e') hS
  · exact hd H2 (e.trans e2) _ fun v H3 e3 hv => mk_atM (L := L) (.inr (by rw [w_nil] at hv; exact hv)) (hL.ex ((e.trans e2).trans e3)) p1 p3 hR fun y H' e' hS => q y H' ((e2.trans e3).trans e') hS
/-- a sample without examples -/
theorem mk_run0 (hT : ∀ H, Dp K H (.ref T0) (.tuple [])) (hp : Evl.Ev tp σ H (.int p)) (hL : Lsts L H) (p1 : 1 ≤ p) (p3 : p ≤ 3) : EvS K L C p [] (tMake C (spInitM K C) [.ref T0] E0 (tCons tp tNil)) σ H := fun H1 e Q q => by
  refine hp H1 e _ fun H2 e2 => ?_
  exact mk_atM (ds := []) (L := L) (.inr (hT H2)) (hL.ex (e.trans e2)) p1 p3 ⟨Nat.zero_le _, fun _ h => nomatch h⟩ fun y H' e' hS => q y H' (e2.trans e') hS
theorem Rws.toM (h : Rws p ds) : RwsM p ds ∧ ds.map cpy = ds := ⟨⟨h.1, fun d hd => (h.2 d hd).toM⟩, by
  have e : ∀ d ∈ ds, cpy d = id d := fun d hd => by
    obtain ⟨ns, b, e, h1, h2⟩ := h.2 d hd
    rw [e]
    rfl
  rw [List.map_congr_left e, List.map_id]⟩
theorem RwsM.cpy (h : RwsM p ds) : Rws p (ds.map cpy) := ⟨by rw [List.length_map]; exact h.1, fun d hd => by
  obtain ⟨e, he, rfl⟩ := List.mem_map.mp hd
  obtain ⟨o, i, ns, b, rfl, h1⟩ := h.2 e he
  exact ⟨ns, b, cpy_M, h1⟩⟩
/-! ### len, iter, in -/
def spLen (K : PySem.W.Frag) (C : Addr) : Sp := fun vs H Q _ => ∃ x p ds L, vs = [.ref x] ∧ Smp K L H x C p ds ∧ ∀ H', Ex H H' → Q (.int (ds.length : Int)) H'
theorem ok_Slen {f : Addr} {fd : FuncData} (F : Fun K "__len__" "Sample.__len__" s_Sample_len f fd) (T : TxF mg) (S : SmpC K C) : FnOk P w K mg base CX0 1 f fd ["self"] (spLen K C) := by
  refine F.ok sc_Sample_len (fun vs H Q E h => ?_) (fun cdv A outer s H vs Q E hr h => ?_)
  · obtain ⟨_, _, _, _, rfl, _⟩ := h
    rfl
  · obtain ⟨x, p, ds, L, rfl, hS, k⟩ := h
    refine ⟨_, (pss_one (ps_ret (pe_callB call_len_seq (by rfl) T.m_len (by decide +kernel) (pa_cons (pe_fld (pv 0) rfl) pa_nil)))), ?_⟩
    obtain ⟨dx, t, xs, hx, hs, ha, _⟩ := hS.inv
    exact Evl.s_ret (Evl.ev_is (ev_lenS (xs := xs) (ev_fld (v := .ref t) (Evl.ev_var (v := .ref x) rfl) hx S.cl S.nQ rfl) (.inr hs)) (congrArg V.int (by rw [dpa_len ha]))) k
theorem ok_Siter {f : Addr} {fd : FuncData} (F : Fun K "__iter__" "Sample.__iter__" s_Sample_iter f fd) (m_iter : mg "iter" = none) (S : SmpC K C) (hb : Binds K fd ["self"] []) : IterG P w K mg base 0 C f "_pairs" := by
  intro A outer s H a t dx fs xs Q hr e0 ha hf ht q
  obtain ⟨oc, od, kV, doc, pm, an, cdv, ct, osl, rfl, lk, hcd⟩ := F.ex
  have KX : K.In s.heap := e0.mod.kin.keeps fun b o e => (e0.bs b o e).1
  refine LamX.run_ofS (CX := CX0) (E := E0) (N := sc_Sample_iter_N) (ps := ["self"]) (us := [Value.ref a]) (vs := [V.ref a]) lk hcd sc_Sample_iter hr e0 (by have := hb s [.ref a] KX rfl; simpa using this) (show Vals [V.ref a] [Value.ref a] from .cons rfl .nil) rfl fun r => ?_
  have body : ∃ t, PSs (cxOf CX0 P w K mg base sc_Sample_iter_N "Sample.__iter__" (defScope s_Sample_iter) f cdv A outer s H E0).nox (defBody s_Sample_iter) t ∧ t { nx := fun _ H' => Q .non H', rt := Q } (L2.start sc_Sample_iter_N [V.ref a]) H := by
    refine ⟨_, (pss_one (ps_ret (pe_callB call_iterT (by rfl) m_iter (by decide +kernel) (pa_cons (pe_fld (pv 0) rfl) pa_nil)))), ?_⟩
    exact ⟨_, rfl, a, C, dx, fs, .ref t, rfl, ha, S.cl, S.nQ, hf, t, xs, rfl, ht, fun it h1 h2 => q it h1 h2⟩
  obtain ⟨t, h1, h2⟩ := body
  exact ⟨t, h1.nox, h2⟩
theorem rowD_shaped (ns : List Int) (b : Bool) : SeqAt.shaped (rowD ns b) = true := by
  have h := lay_ints ns
  refine Bool.and_eq_true_iff.mpr ⟨?_, decide_eq_true ?_⟩
  · show ((PyData.canLayAll0 (ns.map .int)) && (true && true)) = true
    rw [h.1]
    rfl
  · show (max (PyData.depthAll (ns.map .int) + 1) (max 0 0)) + 1 ≤ 64
    rw [h.2]
    decide
def spHasM (K : PySem.W.Frag) (C : Addr) : Sp := fun vs H Q _ => ∃ x v p ds d L, vs = [.ref x, v] ∧ Smp K L H x C p ds ∧ Rws p ds ∧ Dq K H v d ∧ (∃ n, fits n d) ∧ (isX p d = true → Dp K H v d ∧ RlM p d) ∧ ∀ H', Ex H H' → Q (.bl (isX p d && ds.any fun z => PyData.eqv z (cpy d))) H'
theorem ok_ShasM {f : Addr} {fd : FuncData} (F : Fun K "__contains__" "Sample.__contains__" s_Sample_contains f fd) (T : TxF mg) (S : SmpC K C) (D_is_example : DefAt P w K mg base "is_example" 4 ["thing", "places"] (spBp K isX))
    (D_copied_example : DefAt P w K mg base "copied_example" 1 ["example"] (spCopyM K)) : FnOk P w K mg base CX0 5 f fd ["self", "thing"] (spHasM K C) := by
  refine F.ok sc_Sample_contains (fun vs H Q E h => ?_) (fun cdv A outer s H vs Q E hr h => ?_)
  · obtain ⟨_, _, _, _, _, _, rfl, _⟩ := h
    rfl
  · obtain ⟨x, v, p, ds, d, L, rfl, hS, hR, hd, hw, hX, k⟩ := h
    refine ⟨_, (pss_one (ps_ret (pe_and (pe_callD D_is_example (by first | exact hr | exact hr.mono (by decide) | exact hr.mono (by omega)) (by rfl) (pa_cons (pv 1) (pa_cons (pe_fld (pv 0) rfl) pa_nil))) (pe_one (pe_cmpR (op_inDT (show (A.deeper _).units + 65 < cLine by have := hr.un; omega)) (pe_callD D_copied_example (by first | exact hr | exact hr.mono (by decide) | exact hr.mono (by omega)) (by rfl) (pa_cons (pv 1) pa_nil)) (pe_fld (pv 0) rfl) (by rfl)))))), ?_⟩
    obtain ⟨dx, t, xs, hx, hs, ha, hD⟩ := hS.inv
    have v0 : Evl.Ev (tVar 0) (start sc_Sample_contains_N [.ref x, v]) H (.ref x) := Evl.ev_var rfl
    have v1 : Evl.Ev (tVar 1) (start sc_Sample_contains_N [.ref x, v]) H v := Evl.ev_var rfl
    refine Evl.s_ret (v := .bl (isX p d && ds.any fun z => PyData.eqv z (cpy d))) (Evl.ev_andV (a := isX p d) (b := ds.any fun z => PyData.eqv z (cpy d)) (ev_spBpq v1 (ev_fld (v := .int p) v0 hx S.cl S.nP rfl) hd hw) fun hz => ?_) k
    obtain ⟨hd2, hr2⟩ := hX hz
    obtain ⟨o, i, ns, b, rfl, _⟩ := id hr2
    exact fun H1 e1 Q q => ev_spCopyM (L := []) v1 lsts_nil hd2 hr2 H1 e1 _ fun v' H2 e2 hv => ⟨.ref x, rfl, x, C, dx, _, .ref t, rfl, (e1.trans e2) _ _ hx, S.cl, S.nQ, rfl, cpy (rowM o i ns b), ds, by rw [w_nil] at hv; exact hv, (hD.up (w_ex (e1.trans e2))).up w_sub, by rw [cpy_M]; exact rowD_shaped ns b, hR.shaped.1, q H2 e2⟩
end
end U

set_option Elab.async false
set_option linter.all false
set_option maxRecDepth 100000
set_option maxHeartbeats 4000000
namespace U
open PySem PySem.Spec PyProof.Rows L2
open Evl (Ex)
/-- all but the cells of L stay -/
def ChL (L : List Addr) (H H' : Hp) : Prop := ∀ a o, a ∉ L → H a = some o → H' a = some o
section
variable {K : PySem.W.Frag} {L : List Addr} {H H' H2 : Hp} {C x l : Addr} {p : Int} {ds : List PyData}
theorem ChL.refl : ChL L H H := fun _ _ _ h => h
theorem ChL.of (e : Ex H H') : ChL L H H' := fun a o _ h => e a o h
theorem ChL.trans (a : ChL L H H') (b : ChL L H' H2) : ChL L H H2 := fun c o n h => b c o n (a c o n h)
theorem ChL.w (e : ChL L H H') : Ex (W L H) (W L H') := fun a o h => by
  obtain ⟨h1, n⟩ := w_in h
  exact w_of n (e a o n h1)
theorem ChL.upd {o : HO} (m : x ∈ L) : ChL L H (upd H x o) := fun a u n h => by
  rw [upd_ne (fun z => n (by rw [z]; exact m))]
  exact h
theorem ChL.ofB (e : ExB l H H') (m : l ∈ L) : ChL L H H' := fun a o n h => e a o (fun z => n (by rw [z]; exact m)) h
theorem ChL.more {L2 : List Addr} (e : ChL L H H') (s : ∀ a ∈ L, a ∈ L2) : ChL L2 H H' := fun a o n h => e a o (fun m => n (s a m)) h
theorem Smp.ch (h : Smp K L H x C p ds) (e : ChL L H H') (n : x ∉ L) : Smp K L H' x C p ds := by
  obtain ⟨dx, v, h1, h2⟩ := h
  exact ⟨dx, v, e _ _ n h1, h2.up e.w⟩
end
end U

set_option Elab.async false
set_option linter.all false
set_option maxRecDepth 100000
set_option maxHeartbeats 2000000
/-! defs that may raise an own error with one field -/
namespace U
open PySem PySem.Spec PyProof.Rows L2
open Evl (Ex)
/-- a def that may raise, with its promise -/
structure DefX (P : Program) (w : World) (K : PySem.W.Frag) (mg : Str → Option Value) (base : Heap) (x : Str) (k : Nat) (ps : List Str) (sp : Sp) : Prop where
  ex : ∃ (f : Addr) (fd : FuncData), FnOk P w K mg base (CX P w) k f fd ps sp ∧ mg x = some (.ref f) ∧ PySem.W.keepIn K (.ref f) = true ∧ Binds K fd ps []
/-- f(e, ..): what it raises is E -/
def tCallX (sp : Sp) (E : XK) (t : TA) : TE := fun σ H Q => t σ H fun vs H1 => sp vs H1 Q E
theorem pe_callX {X : Cx} {x : Str} {k : Nat} {ps : List Str} {sp : Sp} {p pos : Pos} {e : Expr} {es : List Expr} {t : TA} {E : XK} (D : DefX X.prog X.w X.K X.mg X.base x k ps sp) (hr : Room k X.A) (hx : Passes (CX X.prog X.w) X E) (hg : Gl X x) (ha : PA X (e :: es) t)
    (hdb : (x == ("__debug__" : Str)) = false := by decide) (he : starEach (e :: es) X.env = (false, eval e X.env) :: starEach es X.env := by rfl) (hpl : (backTo pos (starEach es X.env)).any (·.1) = false := by rfl) :
    PE X (.Call (.Name x p) (e :: es) [] pos) (tCallX sp E t) := by
  obtain ⟨f, fd, F, hm, hk, hb⟩ := D.ex
  refine ⟨fun pins s σ H Q I h => (pe_call (E := E) F hr hg hm hk hb .nil hx ha hdb he hpl).run pins s σ H Q I ?_⟩
  have e1 : (fun (vs : List V) (H1 : Hp) => sp (vs ++ []) H1 Q E) = fun vs H1 => sp vs H1 Q E := by
    funext vs H1
    rw [List.append_nil]
  show t σ H fun vs H1 => sp (vs ++ []) H1 Q E
  rw [e1]
  exact h
/-- nothing leaves -/
theorem passX0 {X : Cx} : Passes (CX X.prog X.w) X E0 := fun _ _ _ _ _ _ _ c => by
  obtain ⟨_, _, _, _, _, _, _, _, _, _, _, _, z⟩ := c
  exact z.elim
theorem Passes.of {X : Cx} {E : XK} (tk : Takes X (fun cls d _ H => E cls d H)) : Passes (CX X.prog X.w) X E := passes_call tk fun _ _ _ _ h => h
/-- what an own __init__(self, f) promises -/
def spErrI (C : Addr) (f : Str) : Sp := fun vs H Q _ => ∃ (a : Addr) (v : V), vs = [.ref a, v] ∧ H a = some (exo a C none) ∧ ∀ dx, H dx = none → dx ≠ a → Q .non (upd (upd H dx (exd dx [(f, v)])) a (exo a C (some dx)))
theorem pmk_err {X : Cx} {x f : Str} {C : Addr} {e : Expr} {te : TE} {p pos : Pos} (R : ErrC X.prog X.w X.K X.mg X.base x C f) (hr : Room 2 X.A) (hg : Gl X x) (he : PE X e te) (hdb : (x == ("__debug__" : Str)) = false := by decide)
    (hs : starEach [e] X.env = (false, eval e X.env) :: starEach [] X.env := by rfl) : PMk X (.Call (.Name x p) [e] [] pos) (tMkO C (spErrI C f) [] (tCons te tNil)) := by
  obtain ⟨fI, fd, iC, tI, F1, hb, _⟩ := R.init
  exact pmk_oex R.T iC tI F1 hr hb .nil pass0 hg R.gC (pa_cons he pa_nil hs) hdb hs (by rfl)
theorem mk_err_run {C : Addr} {f : Str} {te : TE} {σ : L2.St} {H : Hp} {v : V} {Q : XK} (h : Evl.Ev te σ H v) (k : ∀ d H2, H d = none → Ex H H2 → H2 d = some (.xd [(f, v)]) → Q (.ref C) (some d) H2) : tMkO C (spErrI C f) [] (tCons te tNil) σ H Q :=
  h H (Ex.refl _) _ fun H1 e1 => ⟨by simp, fun a ha => ⟨a, v, rfl, upd_same, fun dx hdx nx => by
    have hd1 : H1 dx = none := by
      rw [upd_ne nx] at hdx
      exact hdx
    refine ⟨rfl, dx, [(f, v)], upd_same, by rw [upd_ne nx, upd_same], hd1, k dx _ (Evl.fresh_back e1 hd1) (fun b o e => ?_) upd_same⟩
    have e' := e1 b o e
    have n1 : b ≠ a := ne_of_none e' ha
    have n2 : b ≠ dx := ne_of_none e' hd1
    rw [upd_ne n2]
    show del _ a b = _
    rw [del_ne n1, upd_ne n1, upd_ne n2, upd_ne n1]
    exact e'⟩⟩
/-- an error whose field is v was made and raised -/
def ErrE (C : Addr) (f : Str) (v : V) (H : Hp) (E : XK) : Prop := ∀ d H2, H d = none → Ex H H2 → H2 d = some (.xd [(f, v)]) → E (.ref C) (some d) H2
theorem ErrE.ex {C : Addr} {f : Str} {v : V} {H H1 : Hp} {E : XK} (h : ErrE C f v H E) (e : Ex H H1) : ErrE C f v H1 E := fun d H2 hd e2 hx => h d H2 (Evl.fresh_back e hd) (e.trans e2) hx
end U

set_option Elab.async false
set_option linter.all false
set_option maxRecDepth 100000
/-! several except clauses, each with or without a name -/
namespace U
open PySem PySem.Spec PyProof.Rows L2
/-- a clause: its class, its name's slot, its suite -/
structure Clau where
  cls : Value
  slot : Option Nat
  ts : Addr → Value → Option Addr → TS
/-- the name goes when the suite ends -/
def endsC (D : Ends) : Option Nat → Ends
  | none => D
  | some i => { nx := fun σ' H' => D.nx (σ'.set i none) H', rt := D.rt, bk := fun σ' H' => D.bk (σ'.set i none) H', ct := fun σ' H' => D.ct (σ'.set i none) H' }
def inC (σ : L2.St) (a : Addr) : Option Nat → L2.St
  | none => σ
  | some i => σ.set i (some (.ref a))
def wCl (K : PySem.W.Frag) (Wout : WX) (D : Ends) : List Clau → WX
  | [] => Wout
  | c :: r => fun cls d σ H => ∃ b, PySem.W.exmOne K cls c.cls = some b ∧ (b = true → ∀ a, H a = none → c.ts a cls d (endsC D c.slot) (inC σ a c.slot) H) ∧ (b = false → wCl K Wout D r cls d σ H)
def NameC (X : Cx) (nm : Option Str) (slot : Option Nat) : Prop := (nm = none ∧ slot = none) ∨ ∃ n i, nm = some n ∧ slot = some i ∧ X.N.Nodup ∧ X.N[i]? = some n ∧ X.env.kindOf n = some .local
inductive ClOk (X : Cx) : List ExceptHandler → List Clau → Prop
  | nil : ClOk X [] []
  | cons {x : Str} {c : Clau} {nm : Option Str} {b₀ : Stmt} {suite : List Stmt} {np pos' : Pos} {hds : List ExceptHandler} {l : List Clau} (hc : Names X x c.cls) (hn : NameC X nm c.slot)
      (hsu : ∀ (a : Addr) (oe : Obj) (cls : Value) (d : Option Addr) (pn : List (Addr × Obj)), Zc cls d oe → (∃ vs, oe.data = .fields vs) → PSs (X.suite a ((a, oe) :: pn)) (b₀ :: suite) (c.ts a cls d)) (r : ClOk X hds l) :
      ClOk X (.ExceptHandler (some (.Name x np)) nm (b₀ :: suite) pos' :: hds) (c :: l)
section
variable {X : Cx} {body : List Stmt} {h₀ : ExceptHandler} {hds : List ExceptHandler} {l : List Clau} {pos : Pos} {tb : WX → TS} {Wout : WX}
/-- a suite run where the exception stands -/
theorem suite_ends {pins : List (Addr × Obj)} {D : Ends} {f : Flow} {s6 : Shared} {a : Addr} {oe : Obj} (ok : X.Ok) (h : SP (X.suite a ((a, oe) :: (X.pn ++ pins))) [] D f s6) : SP X pins D f s6 := by
  cases f with
  | next => obtain ⟨σ6, H6, S6, q6⟩ := h; exact ⟨_, _, S6.unsuite ok, q6⟩
  | brk => obtain ⟨σ6, H6, S6, q6⟩ := h; exact ⟨_, _, S6.unsuite ok, q6⟩
  | cont => obtain ⟨σ6, H6, S6, q6⟩ := h; exact ⟨_, _, S6.unsuite ok, q6⟩
  | ret u => obtain ⟨v6, σ6, H6, S6, r6, q6⟩ := h; exact ⟨_, _, _, S6.unsuite ok, r6, q6⟩
theorem ps_try_cl (hs : X.stack = X.env :: X.outer) (hf : X.env.frame = some X.env.locals) (tk : Takes X Wout)
    (hb : ∀ (W : WX) (pn : List (Addr × Obj)) (xe : Value → Shared → Prop), Takes (X.tr pn xe) W → PassesOwn (model X.prog X.w) X.A X.env xe → PSs (X.tr pn xe) body (tb W))
    (hh : ClOk X (h₀ :: hds) l) : PS X (.Try body (h₀ :: hds) [] [] pos) (fun D σ H => tb (wCl X.K Wout D l) D σ H) := by
  refine ⟨fun pins s σ H D I h => ?_⟩
  have ok := I.ok
  have hfr : X.A.frames = some (X.env :: X.outer) := by rw [ok.frames, hs]
  -- the clauses, one after the other, for the exception at a
  let after : Value → Shared → Prop := fun e s₁ => wpAny (model X.prog X.w) X.A (noteFrame e X.env) (fun _ s₂ => wpAny (model X.prog X.w) X.A (setFlight e none) (fun _ s₃ =>
    wpAny (model X.prog X.w) X.A (handleBy e X.env (h₀ :: hds)) (SP X pins D) X.xe s₃) X.xe s₂) X.xe s₁
  have caught : ∀ u s', XE (X.tr (X.pn ++ pins) after) (wCl X.K Wout D l) u s' → after u s' := by
    rintro u s' ⟨a, B, sI, pins', σ', H', cls, d, rfl, J', nb, up, sky, na, os, ag, w⟩
    have J : Inv X pins σ' H' sI := J'.ofTry ok
    have sky' : Sky B (X.env :: X.outer) a (Zc cls d) X.env.locals s'.heap := by rw [← hs]; exact sky
    show wpAny (model X.prog X.w) X.A (noteFrame (.ref a) X.env) _ _ _
    refine Sky.land Zc.steady hfr hf sky' fun h3 fl3 up3 => ?_
    have J3 : Inv X pins σ' H' { s' with heap := h3 } := J.landed nb fl3.1 (up.trans up3) os ag
    obtain ⟨oe3, vs3, he3, hz3, hd3⟩ := fl3.there
    have nfr : a ∉ frs (X.env :: X.outer) := fun hm => by
      obtain ⟨_, o', e', hnf⟩ := fl3.2.2.1.mem hm
      rw [he3] at e'
      cases e'
      exact hnf _ hd3
    have nL : a ≠ X.env.locals := fun z => nfr (List.mem_filterMap.mpr ⟨X.env, List.mem_cons_self, by rw [hf, z]⟩)
    have nF : a ∉ X.fs := fun hm => by
      obtain ⟨e, he, q⟩ := List.mem_filterMap.mp hm
      exact nfr (List.mem_filterMap.mpr ⟨e, List.mem_cons_of_mem _ he, q⟩)
    have S3 := J3.suite he3 hd3 na nL nF
    have go : ∀ {hds' : List ExceptHandler} {l' : List Clau}, ClOk X hds' l' → wCl X.K Wout D l' cls d σ' H' → wpAny (model X.prog X.w) X.A (handleBy (.ref a) X.env hds') (SP X pins D) X.xe { s' with heap := h3 } := by
      intro hds' l' hk
      induction hk with
      | nil =>
        intro w
        have fin : wpAny (model X.prog X.w) X.A (setFlight (.ref a) X.env.frame) (fun _ s4 => wpAny (model X.prog X.w) X.A (throw (.ref a) : Sem Flow) (SP X pins D) X.xe s4) X.xe { s' with heap := h3 } := by
          rw [hf]
          exact HandSPX.setFlight_upZ fl3 fun h4 hh4 up4 => wpAny_throw (tk _ _ ⟨a, B, sI, pins, σ', H', cls, d, rfl, J, nb, (up.trans up3).trans up4, .inr (.inr (by rw [hs]; exact hh4)), na, os, ag, w⟩)
        obtain ⟨_, _, _, oe, vs, T, oT, ts', he, hz, hd, h1, hr⟩ := id fl3
        refine wpAny_handleBy_nil ?_
        unfold PySem.passOn
        refine wpAny_bind (wpAny_field he hd h1 ?_)
        rw [if_neg (show ¬ ((Value.ref T == Value.none) = true) from by simp)]
        first
          | exact wpAny_bind (wpAny_pure (wpAny_bind fin))
          | exact wpAny_bind fin
      | @cons x c nm b₀ suite np pos' hds2 l2 hc hn hsu r ih =>
        rintro ⟨b, hb1, hyes, hno⟩
        have LT : PySem.W.Looks (model X.prog X.w) h3 (typeOf (.ref a)) cls := fun A Q E s k q => wpAny_typeOf_ref (k _ _ he3) (by rw [hz3.1]; exact q)
        have LM := PySem.W.exm_one (M := model X.prog X.w) (J3.kIn) LT hb1
        refine wpAny_handleBy_cons (codeAny_handlers_test ?_) (by intro q; cases q)
        have test : ∀ {Q : Value → Shared → Prop} {E : Value → Shared → Prop}, Q c.cls { s' with heap := h3 } → wpAny (model X.prog X.w) (X.A.mark (some (.ref a))) (eval (.Name x np) X.env) Q E { s' with heap := h3 } := fun {Q E} q => by
          obtain ⟨hg, hdbg, hm | ⟨hm, hv, hnn⟩⟩ := hc
          · exact ld_glob (X := X.suite a ((a, oe3) :: (X.pn ++ pins))) S3 hg hm q hdbg
          · exact ld_blt (X := X.suite a ((a, oe3) :: (X.pn ++ pins))) S3 hg hm hv q hnn hdbg
        refine test (LM.here ?_)
        cases b with
        | false => exact ih (hno rfl)
        | true =>
          replace hyes := hyes rfl a na
          rcases hn with ⟨rfl, e2⟩ | ⟨n, i, rfl, e2, hN, hi, hln⟩
          · rw [e2] at hyes
            refine codeAny_handlers_suite (HandSPX.lands_againZ fl3 fun h4 fl4 up4 => ?_)
            have J4 : Inv X pins σ' H' { s' with heap := h4 } := J.landed nb fl4.1 ((up.trans up3).trans up4) os ag
            obtain ⟨oe4, vs4, he4, hz4, hd4⟩ := fl4.there
            exact wpAny_mono ((hsu a oe4 cls d (X.pn ++ pins) hz4 ⟨_, hd4⟩).run [] _ _ H' _ (J4.suite he4 hd4 na nL nF) hyes) (fun f s6 hsp => suite_ends ok hsp) (fun _ _ z => False.elim z)
          · rw [e2] at hyes
            refine codeAny_handlers_suite_as (HandSPX.lands_againZ fl3 fun h4 fl4 up4 => ?_)
            have J4 : Inv X pins σ' H' { s' with heap := h4 } := J.landed nb fl4.1 ((up.trans up3).trans up4) os ag
            obtain ⟨oe4, vs4, he4, hz4, hd4⟩ := fl4.there
            refine store_ok (X := X.suite a ((a, oe4) :: (X.pn ++ pins))) (v := .ref a) (J4.suite he4 hd4 na nL nF) hN hi (.inl hln) rfl (fun s5 S5 => ?_) (.inr hln)
            refine wpAny_mono ((hsu a oe4 cls d (X.pn ++ pins) hz4 ⟨_, hd4⟩).run [] s5 _ H' _ S5 hyes) (fun f s6 hsp => ?_) (fun _ _ z => False.elim z)
            cases f with
            | next => obtain ⟨σ6, H6, S6, q6⟩ := hsp; exact gone_ok (S6.unsuite ok) hN hi hln fun s7 J7 => ⟨_, _, J7, q6⟩
            | brk => obtain ⟨σ6, H6, S6, q6⟩ := hsp; exact gone_ok (S6.unsuite ok) hN hi hln fun s7 J7 => ⟨_, _, J7, q6⟩
            | cont => obtain ⟨σ6, H6, S6, q6⟩ := hsp; exact gone_ok (S6.unsuite ok) hN hi hln fun s7 J7 => ⟨_, _, J7, q6⟩
            | ret u => obtain ⟨v6, σ6, H6, S6, r6, q6⟩ := hsp; exact gone_ok (S6.unsuite ok) hN hi hln fun s7 J7 => ⟨_, _, _, J7, r6, q6⟩
    exact go hh w
  refine wpAny_Try_except ?_
  refine wpAny_mono ((hb (wCl X.K Wout D l) (X.pn ++ pins) after caught PassesOwn.looking).run [] s σ H D (I.toTry _) h) (fun f s1 hsp => ?_) (fun e s1 he => he)
  cases f with
  | next => obtain ⟨σ', H', J', q⟩ := hsp; exact wpAny_execs_nil ⟨σ', H', J'.ofTry ok, q⟩
  | brk => obtain ⟨σ', H', J', q⟩ := hsp; exact ⟨σ', H', J'.ofTry ok, q⟩
  | cont => obtain ⟨σ', H', J', q⟩ := hsp; exact ⟨σ', H', J'.ofTry ok, q⟩
  | ret u => obtain ⟨v, σ', H', J', r, q⟩ := hsp; exact ⟨v, σ', H', J'.ofTry ok, r, q⟩
end
end U

set_option Elab.async false
set_option linter.all false
set_option maxRecDepth 100000
set_option maxHeartbeats 4000000
/-! how a call ends -/
namespace U
open PySem PySem.Spec PyProof.Rows L2
open Evl (Ex)
abbrev s_end : Stmt := top 30
abbrev sc_end_N : List Str := ["_law_ask", "_law_found", "e"]
theorem sc_end : FnScope sc_end_N ["_law_ask"] (defScope s_end) := ⟨rfl, rfl, rfl, by decide +kernel, rfl, by decide +kernel, by decide +kernel⟩
theorem takes_len {X : Cx} {W : WX} (tk : Takes X W) : Takes X (fun cls d σ H => σ.length = X.N.length → W cls d σ H) := fun u s' ⟨a, B, sI, pins, σ, H, cls, d, e, I, nb, up, sky, na, os, ag, w⟩ =>
  tk u s' ⟨a, B, sI, pins, σ, H, cls, d, e, I, nb, up, sky, na, os, ag, w I.len⟩
/-- an error's field told behind a word -/
def endE (K : PySem.W.Frag) (Q : VK) : List (Addr × Str × Str) → XK
  | [] => fun _ _ _ => False
  | (C, fld, word) :: r => fun cls d H => ∃ b, PySem.W.exmOne K cls (.ref C) = some b ∧ (b = true → cls = .ref C ∧ ∃ (dd : Addr) (fs : List (Str × V)) (v : V), d = some dd ∧ H dd = some (.xd fs) ∧ fs.lookup fld = some v ∧ ∀ t, H t = none → Q (.ref t) (upd H t (.tup [.str word, v]))) ∧ (b = false → endE K Q r cls d H)
/-- what the lambda gave, told; or its error -/
def TEnd (K : PySem.W.Frag) (cl : List (Addr × Str × Str)) : (XK → Hp → VK → Prop) → Hp → VK → Prop := fun tl H Q => ∀ k : VK, (∀ v H1, (∀ t, H1 t = none → Q (.ref t) (upd H1 t (.tup [.str "told", v]))) → k v H1) → tl (endE K Q cl) H k
theorem end_gives {X : Cx} {g : Addr} {cdg : Value} {q : Str} {CP CE CI : Addr} (R1 : ErrC X.prog X.w X.K X.mg X.base "BadPlaces" CP "places") (R2 : ErrC X.prog X.w X.K X.mg X.base "BadExample" CE "index") (R3 : ErrC X.prog X.w X.K X.mg X.base "BadIndex" CI "index") :
    LamX.GivesTo X sc_end_N "_law_end" (defScope s_end) g cdg (defBody s_end) "_law_ask" q (TEnd X.K [(CP, "places", "places"), (CE, "index", "example"), (CI, "index", "index")]) := by
  intro f c' s H Q tl act hc h
  refine ⟨_, pss_cons (ps_try_cl (X := (cxOf CX0 X.prog X.w X.K X.mg X.base sc_end_N "_law_end" (defScope s_end) g cdg X.A X.stack s H E0).nox)
      (l := [⟨.ref CP, some 2, fun a cls d => tAsg (tTup (tCons (tC (.str "places")) (tCons (tXf a cls d CP "places" (tVar 2)) tNil))) (gName 1)⟩, ⟨.ref CE, some 2, fun a cls d => tAsg (tTup (tCons (tC (.str "example")) (tCons (tXf a cls d CE "index" (tVar 2)) tNil))) (gName 1)⟩, ⟨.ref CI, some 2, fun a cls d => tAsg (tTup (tCons (tC (.str "index")) (tCons (tXf a cls d CI "index" (tVar 2)) tNil))) (gName 1)⟩])
      (tb := fun W D σ H => ∃ Ech : XK, (∀ cls d σ' H', Ech cls d H' → σ'.length = 3 → W cls d σ' H') ∧ tAsg (tTup (tCons (tC (.str "told")) (tCons (fun σZ HZ Q => σZ[0]? = some (some (.ref f)) ∧ HZ c' = some (LamX.CodeO c' q) ∧ tl Ech HZ Q) tNil))) (gName 1) D σ H)
      (Wout := fun _ _ _ _ => False) rfl rfl LamX.takes0 (fun W pn xe tk _ => ⟨fun pins s' σ H' D I h' => ?_⟩)
      (.cons ⟨rfl, by decide, .inl R1.gC⟩ (.inr ⟨"e", 2, rfl, rfl, sc_end.nd, rfl, rfl⟩) (fun a oe cls d pn hz hf => pss_one (ps_set (i := 1) sc_end.nd rfl (by first | exact Or.inl rfl | exact Or.inr rfl) (pe_tup (pa_cons pe_str (pa_cons (pe_xf (X := (cxOf CX0 X.prog X.w X.K X.mg X.base sc_end_N "_law_end" (defScope s_end) g cdg X.A X.stack s H E0).nox) R1.xf R1.no hz hf (pv 2)) pa_nil)))))
        (.cons ⟨rfl, by decide, .inl R2.gC⟩ (.inr ⟨"e", 2, rfl, rfl, sc_end.nd, rfl, rfl⟩) (fun a oe cls d pn hz hf => pss_one (ps_set (i := 1) sc_end.nd rfl (by first | exact Or.inl rfl | exact Or.inr rfl) (pe_tup (pa_cons pe_str (pa_cons (pe_xf (X := (cxOf CX0 X.prog X.w X.K X.mg X.base sc_end_N "_law_end" (defScope s_end) g cdg X.A X.stack s H E0).nox) R2.xf R2.no hz hf (pv 2)) pa_nil)))))
          (.cons ⟨rfl, by decide, .inl R3.gC⟩ (.inr ⟨"e", 2, rfl, rfl, sc_end.nd, rfl, rfl⟩) (fun a oe cls d pn hz hf => pss_one (ps_set (i := 1) sc_end.nd rfl (by first | exact Or.inl rfl | exact Or.inr rfl) (pe_tup (pa_cons pe_str (pa_cons (pe_xf (X := (cxOf CX0 X.prog X.w X.K X.mg X.base sc_end_N "_law_end" (defScope s_end) g cdg X.A X.stack s H E0).nox) R3.xf R3.no hz hf (pv 2)) pa_nil))))) .nil))))
    (pss_one (ps_ret (pv 1))), ?_⟩
  · obtain ⟨Ech, hW, h1⟩ := h'
    have hp := fun p1 p2 => act _ pn xe Ech p1 p2 (takes_len tk) hW
    exact (pss_one (ps_set (i := 1) sc_end.nd rfl (by first | exact Or.inl rfl | exact Or.inr rfl) (pe_tup (pa_cons pe_str (pa_cons (hp _ _) pa_nil))))).run pins s' σ H' D I h1
  · refine ⟨endE X.K Q [(CP, "places", "places"), (CE, "index", "example"), (CI, "index", "index")], fun cls d σ' H' h' hl => ?_, rfl, hc, h _ fun v H1 hv => ⟨by show 2 ≤ sizeLine; decide, fun t ht => ⟨_, rfl, hv t ht⟩⟩⟩
    have fin : ∀ (C : Addr) (fld word : Str) (a : Addr) (r : List (Addr × Str × Str)), H' a = none → (cls = .ref C ∧ ∃ (dd : Addr) (fs : List (Str × V)) (v : V), d = some dd ∧ H' dd = some (.xd fs) ∧ fs.lookup fld = some v ∧ ∀ t, H' t = none → Q (.ref t) (upd H' t (.tup [.str word, v]))) →
        tAsg (tTup (tCons (tC (.str word)) (tCons (tXf a cls d C fld (tVar 2)) tNil))) (gName 1) (endsC { nx := tRet (tVar 1) { nx := fun x H' => Q V.non H', rt := Q }, rt := Q } (some 2)) (inC σ' a (some 2)) H' := by
      rintro C fld word a r ha ⟨hc', dd, fs, v, hd, hx, hf, hq⟩
      match σ', hl with
      | [x0, x1, x2], _ => exact ⟨_, rfl, rfl, hc', dd, fs, v, hd, hx, hf, by show 2 ≤ sizeLine; decide, fun t ht => ⟨_, rfl, hq t ht⟩⟩
    obtain ⟨b1, m1, y1, n1⟩ := h'
    refine ⟨b1, m1, fun z a ha => fin CP "places" "places" a [] ha (y1 z), fun z => ?_⟩
    obtain ⟨b2, m2, y2, n2⟩ := n1 z
    refine ⟨b2, m2, fun z a ha => fin CE "index" "example" a [] ha (y2 z), fun z => ?_⟩
    obtain ⟨b3, m3, y3, n3⟩ := n2 z
    exact ⟨b3, m3, fun z a ha => fin CI "index" "index" a [] ha (y3 z), fun z => (n3 z).elim⟩
end U

set_option Elab.async false
set_option linter.all false
set_option maxRecDepth 100000
set_option maxHeartbeats 4000000
/-! a lambda handed to the def that tells how a call ends -/
namespace U
open PySem PySem.Spec PyProof.Rows L2
open Evl (Ex)
open C8 (Met Mak pe_mt pe_mt0 pe_mk)
/-- the promise of a def whose code object is known -/
theorem ok_code {P : Program} {w : World} {K : PySem.W.Frag} {mg : Str → Option Value} {base : Heap} {k : Nat} {f : Addr} {name qual : Str} {params : Arguments} {body : List Stmt} {scope : Scope} {dV kV doc pm cdv ct oc : Value} {an od : Option Addr} {osl : Array (Option Value)} {N ps : List Str} {sp : Sp}
    (lk : K.lookup f = some ⟨oc, od, .func (PySem.W.fnOf name qual params body scope dV kV doc pm an cdv ct), osl⟩) (hcd : PySem.W.codeIn K cdv qual = true) (S : FnScope N ps scope) (len : ∀ vs H Q E, sp vs H Q E → vs.length = ps.length)
    (hbody : ∀ (A : Around) (outer : List Env) (s : Shared) (H : Hp) (vs : List V) (Q : VK) (E : XK), Room k (A.deeper (envOfC qual scope s.heap.objs.size f cdv)) → sp vs H Q E →
      ∃ t, PSs (cxOf CX0 P w K mg base N qual scope f cdv A outer s H E).nox body t ∧ t { nx := fun _ H' => Q .non H', rt := Q } (L2.start N vs) H) :
    FnOk P w K mg base CX0 (k + 1) f (PySem.W.fnOf name qual params body scope dV kV doc pm an cdv ct) ps sp :=
  ⟨len, fun A outer s H args us vs Q E hr e0 hb r h => LamX.run_ofS lk hcd S hr e0 hb r (len _ _ _ _ h) fun hr' => by
    obtain ⟨t, h1, h2⟩ := hbody A outer s H vs Q E hr' h
    exact ⟨t, h1.nox, h2⟩⟩
/-- tuple(e) -/
abbrev tTupOf (K : PySem.W.Frag) (te : TE) : TE := tCB (fun xs H Q => ∃ p ys, xs = [.ref p] ∧ ((SqL K H p ys ∧ ∀ l, H l = none → Q (.ref l) (upd H l (.tup ys))) ∨ (SqT K H p ys ∧ Q (.ref p) H))) (tCons te tNil)
/-- a class whose making may raise -/
structure MakX (P : Program) (w : World) (K : PySem.W.Frag) (mg : Str → Option Value) (base : Heap) (k : Nat) (x : Str) (C : Addr) (sp : Sp) (dvs : List V) : Prop where
  ex : ∃ (f : Addr) (fd : FuncData) (ps : List Str) (ds : List Value), Mk K C f ∧ FnOk P w K mg base (L2.CX P w) k f fd ps sp ∧ mg x = some (.ref C) ∧ Binds K fd ps ds ∧ Vals dvs ds
structure MetX (P : Program) (w : World) (K : PySem.W.Frag) (mg : Str → Option Value) (base : Heap) (k : Nat) (C : Addr) (m : Str) (sp : Sp) (dvs : List V) : Prop where
  ex : ∃ (f : Addr) (fd : FuncData) (ps : List Str) (ds : List Value), Cls K C ∧ Meth K C m f ∧ FnOk P w K mg base (L2.CX P w) k f fd ps sp ∧ Binds K fd ps ds ∧ Vals dvs ds
section
variable {X : Cx} {k j : Nat} {C : Addr} {x m : Str} {sp : Sp} {dvs : List V} {p pos apos : Pos} {e o : Expr} {es : List Expr} {ta : TE} {t : TA} {E : XK}
theorem pe_mkX (c : MakX X.prog X.w X.K X.mg X.base k x C sp dvs) (hr : Room j X.A) (hk : k + 1 ≤ j) (hx : Passes (L2.CX X.prog X.w) X E) (hg : Gl X x) (ha : PA X (e :: es) t)
    (hdb : (x == ("__debug__" : Str)) = false := by decide) (he : starEach (e :: es) X.env = (false, eval e X.env) :: starEach es X.env := by rfl) (hpl : (backTo pos (starEach es X.env)).any (·.1) = false := by rfl) :
    PE X (.Call (.Name x p) (e :: es) [] pos) (tMake C sp dvs E t) := by
  obtain ⟨f, fd, ps, ds, M, F, hm, b, d⟩ := c.ex
  exact pe_make M F (hr.mono hk) hg hm b d hx ha hdb he hpl
theorem pe_mtX {pl : Sem Bool} (c : MetX X.prog X.w X.K X.mg X.base k C m sp dvs) (hr : Room j X.A) (hk : k ≤ j) (hx : Passes (L2.CX X.prog X.w) X E) (he : PE X o ta) (ha : PA X (e :: es) t)
    (hst : starEach (e :: es) X.env = (false, eval e X.env) :: starEach es X.env := by rfl) (hpl : (backTo pos (starEach es X.env)).any (·.1) = false := by rfl)
    (ht : eval (.Call (.Attribute o m apos) (e :: es) [] pos) X.env = (do
      let ov ← eval o X.env
      standAt apos.atName
      let (f, first) ← holding [ov] (getMethod ov m pl)
      callWith pos f first (backTo pos (starEach (e :: es) X.env)) (backToKw pos (keywordEach [] X.env))) := by rfl) :
    PE X (.Call (.Attribute o m apos) (e :: es) [] pos) (tMeth C m sp dvs E ta t) := by
  obtain ⟨f, fd, ps, ds, hc, hm, F, b, d⟩ := c.ex
  exact pe_meth (pl := pl) he hc hm F (hr.mono hk) b d hx ha hst hpl ht
end
/-- the def that tells how a call ends, and the table of the law's code object -/
structure EndL (P : Program) (w : World) (K : PySem.W.Frag) (mg : Str → Option Value) (base : Heap) (cA PT CP CE CI : Addr) : Prop where
  ex : ∃ (g : Addr) (oc dV kV doc pm cdv ct : Value) (an od : Option Addr) (osl : Array (Option Value)), mg "_law_end" = some (.ref g) ∧ PySem.W.keepIn K (.ref g) = true ∧
    K.lookup g = some ⟨oc, od, .func (PySem.W.fnOf "_law_end" "_law_end" (defArgs s_end) (defBody s_end) (defScope s_end) dV kV doc pm an cdv ct), osl⟩ ∧ PySem.W.codeIn K cdv "_law_end" = true ∧
    L2.Binds K (PySem.W.fnOf "_law_end" "_law_end" (defArgs s_end) (defBody s_end) (defScope s_end) dV kV doc pm an cdv ct) ["_law_ask"] []
  R1 : ErrC P w K mg base "BadPlaces" CP "places"
  R2 : ErrC P w K mg base "BadExample" CE "index"
  R3 : ErrC P w K mg base "BadIndex" CI "index"
  TB : LamX.TabB base mg cA PT
abbrev clsE (CP CE CI : Addr) : List (Addr × Str × Str) := [(CP, "places", "places"), (CE, "index", "example"), (CI, "index", "index")]
theorem pe_end {X : Cx} {cA PT CP CE CI : Addr} {k : Nat} {params : Arguments} {body : Expr} {scope : Scope} {t : XK → TE} {p lpos pos : Pos} (D : EndL X.prog X.w X.K X.mg X.base cA PT CP CE CI) (hg : Gl X "_law_end") (hcode : X.env.code = .ref cA) (hr : Room (k + 2) X.A) (L : LamX.LamS X.env.scope scope)
    (hbody : ∀ (A : Around) (outer : List Env) (s : Shared) (H : Hp) (E : XK) (f c' : Addr), Room k (A.deeper (LamX.lamEnv X scope s.heap.objs.size f c')) → PE (LamX.lamCx X A outer s H E scope f c') body (t E))
    (hdef : defaultsOf params X.env = ([], []) := by rfl)
    (hbind : ∀ (q : Str) (cl : List (Str × Addr)) (pm cv ctv : Value), bindArgs (PySem.W.kla_fn "<lambda>" q params body scope cl pm cv ctv) ⟨[], []⟩ = pure [] := by intros; rfl) :
    PE X (.Call (.Name "_law_end" p) [.Lambda params body scope lpos] [] pos) (LamX.tLam [(PT, X.env.qual ++ "<lambda>")] (TEnd X.K (clsE CP CE CI)) t) := by
  obtain ⟨g, oc, dV, kV, doc, pm, cdv, ct, an, od, osl, h1, h2, h3, h4, h5⟩ := D.ex
  exact LamX.pe_lamcall hg h1 h2 h3 h4 h5 sc_end rfl (Or.inl rfl) (end_gives D.R1 D.R2 D.R3) D.TB hcode (List.mem_singleton.mpr rfl) (fun p hp _ => by rw [List.mem_singleton.mp hp]) hr L hdef hbind hbody
end U

set_option Elab.async false
set_option linter.all false
set_option maxRecDepth 100000
set_option maxHeartbeats 4000000
/-! equal and of the same kinds, empty dicts among them -/
namespace U
open PySem L2
open Evl (Ex)
/-- ==, of scalars or of two empty dicts -/
def rEqQ : R2 := fun x y H Q => rEq x y H Q ∨ ∃ a b, x = .ref a ∧ y = .ref b ∧ H a = some (.dK []) ∧ H b = some (.dK []) ∧ Q (.bl true) H
theorem op_eqQ {X : Cx} (hu : X.A.units + 64 < cLine) : OpR X (compareOp .Eq) rEqQ := by
  intro pins s σ H x y v u Q I rx ry h
  rcases h with h | ⟨a, b, rfl, rfl, ha, hb, q⟩
  · exact op_eq pins s σ H x y v u Q I rx ry h
  · exact op_eq_dict (show X.A.units < cLine by omega) pins s σ H _ _ v u Q I rx ry ⟨a, b, [], rfl, rfl, ha, hb, List.nodup_nil, (fun _ h => nomatch h), q⟩
section
variable {K : PySem.W.Frag} {σ : L2.St} {H : Hp} {te : TE} {x y v : V} {d : PyData} {b : Bool}
theorem rv_eqQ (h : scal x y = true) : Evl.RV rEqQ x y H (.bl (decide (x = y))) := fun H1 e1 Q q => .inl (Evl.rv_eq h H1 e1 Q q)
theorem evq_isi4 {m n k l : String} (h : Evl.Ev te σ H v) (hd : Dq K H v d) (hb : kitsB (tyOf d) [m, n, k, l] = some b) :
    Evl.Ev (tCB (rIsiT K) (tCons te (tCons (tTup (tCons (tC (.ty m)) (tCons (tC (.ty n)) (tCons (tC (.ty k)) (tCons (tC (.ty l)) tNil))))) tNil))) σ H (.bl b) := fun H1 e1 Q q =>
  h H1 e1 _ fun H2 e2 => ⟨by show 4 ≤ sizeLine; decide, fun p hp => ⟨v, p, _, _, _, b, rfl, upd_same, tys_cls (ns := [m, n, k, l]), dq_ty (hd.up ((e1.trans e2).trans (Ex.new hp))), kitsB_ok hb, q _ (e2.trans (Ex.new hp))⟩⟩
end
section
variable {P : Program} {w : World} {K : PySem.W.Frag} {mg : Str → Option Value} {base : Heap}
def spSameQ (K : PySem.W.Frag) (n : Nat) : Sp := fun vs H Q _ => ∃ (x y : V) (d : PyData), vs = [x, y] ∧ Dq K H x d ∧ Dq K H y d ∧ fits n d ∧ ∀ H', Ex H H' → Q (.bl true) H'
def spPrevQ (K : PySem.W.Frag) : Nat → Sp
  | 0 => fun _ _ _ _ => False
  | n + 1 => spSameQ K n
theorem same_bodyQ {f : Addr} {fd : FuncData} (F : Fun K "_law_same" "_law_same" s_same f fd) (T : TxB mg) (n : Nat) (D_same : DefAt P w K mg base "_law_same" n ["_law_found", "_law_due"] (spPrevQ K n)) : FnOk P w K mg base CX0 (n + 1) f fd ["_law_found", "_law_due"] (spSameQ K n) := by
  refine F.ok sc_same (fun vs H Q E h => ?_) (fun cdv A outer s H vs Q E hr h => ?_)
  · obtain ⟨_, _, _, rfl, _⟩ := h
    rfl
  · obtain ⟨x, y, d, rfl, hx, hy, hf, k⟩ := h
    refine ⟨_, (pss_cons (ps_if (pt_val (pe_callB call_isiT (by rfl) T.m_isinstance (by decide +kernel) (pa_cons (pv 1) (pa_cons (pe_tup (pa_cons (pe_bltn (v := .ty "list") (by rfl) T.m_list (by decide +kernel) rfl) (pa_cons (pe_bltn (v := .ty "tuple") (by rfl) T.m_tuple (by decide +kernel) rfl) pa_nil))) pa_nil)))) (pss_cons (ps_if (PW.pt (pw_or (pt_cmpR op_ne (pe_callB call_isi (by rfl) T.m_isinstance (by decide +kernel) (pa_cons (pv 0) (pa_cons (pe_bltn (v := .ty "list") (by rfl) T.m_list (by decide +kernel) rfl) pa_nil))) (pe_callB call_isi (by rfl) T.m_isinstance (by decide +kernel) (pa_cons (pv 1) (pa_cons (pe_bltn (v := .ty "list") (by rfl) T.m_list (by decide +kernel) rfl) pa_nil))) (nomark _)) (pw_or1 (pt_cmpR op_ne (pe_callB call_isi (by rfl) T.m_isinstance (by decide +kernel) (pa_cons (pv 0) (pa_cons (pe_bltn (v := .ty "tuple") (by rfl) T.m_tuple (by decide +kernel) rfl) pa_nil))) (pe_callB call_isi (by rfl) T.m_isinstance (by decide +kernel) (pa_cons (pv 1) (pa_cons (pe_bltn (v := .ty "tuple") (by rfl) T.m_tuple (by decide +kernel) rfl) pa_nil))) (nomark _))))) (pss_one (ps_ret pe_bl)) pss_nil)
      (pss_one (ps_ret (pe_and (pe_cmpR op_eq (pe_callB call_len_seq (by rfl) T.m_len (by decide +kernel) (pa_cons (pv 0) pa_nil)) (pe_callB call_len_seq (by rfl) T.m_len (by decide +kernel) (pa_cons (pv 1) pa_nil)) (nomark _)) (pe_one (pe_callB (cr_all rfl) (by rfl) T.m_all (by decide +kernel) (pa_cons (pe_lc (own := [("_law_left", 2), ("_law_right", 3)]) (g := gTup K 2 (gCons (gName 2) (gCons (gName 3) (gNil)))) (tt := tYes) (by rfl) sc_same.nd (RZ.pi_zipA (by rfl) T.m_zip (pa_cons (pv 0) (pa_cons (pv 1) pa_nil))) (blkOk_by (N := sc_same_N) (sc := defScope s_same) (by decide +kernel)) (fun _ _ _ _ _ => (pg_tup (by rfl) (pgs_cons (pg_name (i := 2) sc_same.nd rfl (by first | exact Or.inl rfl | exact Or.inr rfl)) (pgs_cons (pg_name (i := 3) sc_same.nd rfl (by first | exact Or.inl rfl | exact Or.inr rfl)) pgs_nil)))) (fun _ _ _ _ _ => pts_nil) (fun _ _ _ _ _ => (pe_callD D_same (by first | exact hr | exact hr.mono (by decide) | exact hr.mono (by omega)) (by rfl) (pa_cons (pv 2) (pa_cons (pv 3) pa_nil))))) pa_nil))))))) pss_nil)
    (pss_cons (ps_if (pt_val (pe_callB call_isiT (by rfl) T.m_isinstance (by decide +kernel) (pa_cons (pv 1) (pa_cons (pe_tup (pa_cons (pe_bltn (v := .ty "bool") (by rfl) T.m_bool (by decide +kernel) rfl) (pa_cons (pe_bltn (v := .ty "int") (by rfl) T.m_int (by decide +kernel) rfl) pa_nil))) pa_nil)))) (pss_one (ps_ret (pe_and (pe_callB call_isi (by rfl) T.m_isinstance (by decide +kernel) (pa_cons (pv 0) (pa_cons (pe_bltn (v := .ty "int") (by rfl) T.m_int (by decide +kernel) rfl) pa_nil))) (pe_and (pe_cmpR op_eq (pe_callB call_isi (by rfl) T.m_isinstance (by decide +kernel) (pa_cons (pv 0) (pa_cons (pe_bltn (v := .ty "bool") (by rfl) T.m_bool (by decide +kernel) rfl) pa_nil))) (pe_callB call_isi (by rfl) T.m_isinstance (by decide +kernel) (pa_cons (pv 1) (pa_cons (pe_bltn (v := .ty "bool") (by rfl) T.m_bool (by decide +kernel) rfl) pa_nil))) (nomark _)) (pe_one (pe_cmpR (op_eqQ hr.units) (pv 0) (pv 1) (nomark _))))))) pss_nil)
    (pss_one (ps_ret (pe_and (pe_not (pe_callB call_isiT (by rfl) T.m_isinstance (by decide +kernel) (pa_cons (pv 0) (pa_cons (pe_tup (pa_cons (pe_bltn (v := .ty "bool") (by rfl) T.m_bool (by decide +kernel) rfl) (pa_cons (pe_bltn (v := .ty "int") (by rfl) T.m_int (by decide +kernel) rfl) (pa_cons (pe_bltn (v := .ty "list") (by rfl) T.m_list (by decide +kernel) rfl) (pa_cons (pe_bltn (v := .ty "tuple") (by rfl) T.m_tuple (by decide +kernel) rfl) pa_nil))))) pa_nil)))) (pe_one (pe_cmpR (op_eqQ hr.units) (pv 0) (pv 1) (nomark _)))))))), ?_⟩
    have v0 : Evl.Ev (tVar 0) (start sc_same_N [x, y]) H x := Evl.ev_var rfl
    have v1 : Evl.Ev (tVar 1) (start sc_same_N [x, y]) H y := Evl.ev_var rfl
    -- two lists, two tuples
    have seqs : ∀ (a b : Addr) (xs ys : List V) (ds : List PyData) (m : Nat), n = m + 1 → x = .ref a → y = .ref b → (SqL K H a xs ∧ SqL K H b ys) ∨ (SqT K H a xs ∧ SqT K H b ys) → DqAll K H xs ds → DqAll K H ys ds → (∀ d ∈ ds, fits m d) → xs.length ≤ 40000 →
        ∀ H1, Ex H H1 → Evl.Ev (tAndV (tOp rEq (tCB (fun xs H Q => ∃ p ys, xs = [V.ref p] ∧ (SqL K H p ys ∨ SqT K H p ys) ∧ Q (.int ys.length) H) (tCons (tVar 0) tNil)) (tCB (fun xs H Q => ∃ p ys, xs = [V.ref p] ∧ (SqL K H p ys ∨ SqT K H p ys) ∧ Q (.int ys.length) H) (tCons (tVar 1) tNil)))
          (tCB (rAll K) (tCons (tLc (RZ.iZipA K (tCons (tVar 0) (tCons (tVar 1) tNil))) (gTup K 2 (gCons (gName 2) (gCons (gName 3) gNil))) tYes (tCallD (spPrevQ K n) (tCons (tVar 2) (tCons (tVar 3) tNil))) [2, 3]) tNil))) (start sc_same_N [x, y]) H1 (.bl true) := by
      rintro a b xs ys ds m rfl rfl rfl hs h1 h2 hd hz H1 e1
      have hl : xs.length = ys.length := (dqa_len h1).trans (dqa_len h2).symm
      have hs1 : SqL K H1 a xs ∨ SqT K H1 a xs := hs.imp (fun q => Evl.ex_l e1 q.1) (fun q => Evl.ex_t e1 q.1)
      have hs2 : SqL K H1 b ys ∨ SqT K H1 b ys := hs.imp (fun q => Evl.ex_l e1 q.2) (fun q => Evl.ex_t e1 q.2)
      refine Evl.ev_is (Evl.ev_andV (a := true) (b := true) (Evl.ev_is (Evl.ev_op (ev_lenS (v0.mono e1) hs1) (ev_lenS (v1.mono e1) hs2) (Evl.rv_eq rfl)) ?_) fun _ => ?_) rfl
      · rw [hl]
        exact congrArg V.bl (decide_eq_true rfl)
      · have z := el_zip (K := K) (v := fun _ => V.bl true) (te := tCallD (spPrevQ K (m + 1)) (tCons (tVar 2) (tCons (tVar 3) tNil))) (i1 := 2) (i2 := 3) (vs := [2, 3]) (σ := start sc_same_N [V.ref a, V.ref b]) (H := H1) (ta := tCons (tVar 0) (tCons (tVar 1) tNil)) (a := a) (b := b) (xs := xs) (ys := ys)
          (Evl.ea_cons (v0.mono e1) (Evl.ea_cons (v1.mono e1) Evl.ea_nil)) (hs.imp (fun q => ⟨Evl.ex_l e1 q.1, Evl.ex_l e1 q.2⟩) (fun q => ⟨Evl.ex_t e1 q.1, Evl.ex_t e1 q.2⟩)) hl hz (fun _ _ => rfl) (fun i u v H2 e2 hu hv => ?_)
        · have em : (List.range xs.length).map (fun _ => V.bl true) = ((List.range xs.length).map fun _ => true).map V.bl := by
            rw [List.map_map]
            rfl
          rw [em] at z
          exact Evl.ev_is (ev_all z) (congrArg V.bl (by simp))
        · obtain ⟨d, hd1, hd2⟩ := dqa_get h1 hu
          obtain ⟨d', hd3, hd4⟩ := dqa_get h2 hv
          rw [hd1] at hd3
          cases hd3
          exact ev_callD (Evl.ea_cons (Evl.ev_var rfl) (Evl.ea_cons (Evl.ev_var rfl) Evl.ea_nil)) fun H3 e3 Q q => ⟨u, v, d, rfl, hd2.up ((e1.trans e2).trans e3), hd4.up ((e1.trans e2).trans e3), hd d (List.mem_of_getElem? hd1), q⟩
    cases d with
    | none =>
      have exy : x = y := by
        cases hx
        cases hy
        rfl
      refine Evl.q_when (b := false) (Evl.et_B (evq_isi2 v1 hy isi_NoneType_list_tuple)) (fun z => by cases z) (fun _ H1 e1 => ?_)
      refine Evl.q_when (b := false) (Evl.et_B (evq_isi2 (v1.mono e1) (hy.up e1) isi_NoneType_bool_int)) (fun z => by cases z) (fun _ H2 e2 => ?_)
      refine Evl.s_ret (v := .bl true) (Evl.ev_is (Evl.ev_andV (Evl.ev_notV (evq_isi4 (v0.mono (e1.trans e2)) (hx.up (e1.trans e2)) (b := false) isi_NoneType_bool_int_list_tuple)) (fun _ => Evl.ev_is (Evl.ev_op (v0.mono (e1.trans e2)) (v1.mono (e1.trans e2)) (rv_eqQ (by cases hx; cases hy; rfl))) (w := .bl true) (by rw [exy]; exact congrArg V.bl (decide_eq_true rfl)))) rfl) (fun H3 e3 => k H3 ((e1.trans e2).trans e3))
    | str z =>
      have exy : x = y := by
        cases hx
        cases hy
        rfl
      refine Evl.q_when (b := false) (Evl.et_B (evq_isi2 v1 hy isi_str_list_tuple)) (fun z => by cases z) (fun _ H1 e1 => ?_)
      refine Evl.q_when (b := false) (Evl.et_B (evq_isi2 (v1.mono e1) (hy.up e1) isi_str_bool_int)) (fun z => by cases z) (fun _ H2 e2 => ?_)
      refine Evl.s_ret (v := .bl true) (Evl.ev_is (Evl.ev_andV (Evl.ev_notV (evq_isi4 (v0.mono (e1.trans e2)) (hx.up (e1.trans e2)) (b := false) isi_str_bool_int_list_tuple)) (fun _ => Evl.ev_is (Evl.ev_op (v0.mono (e1.trans e2)) (v1.mono (e1.trans e2)) (rv_eqQ (by cases hx; cases hy; rfl))) (w := .bl true) (by rw [exy]; exact congrArg V.bl (decide_eq_true rfl)))) rfl) (fun H3 e3 => k H3 ((e1.trans e2).trans e3))
    | bool z =>
      have exy : x = y := by
        cases hx
        cases hy
        rfl
      refine Evl.q_when (b := false) (Evl.et_B (evq_isi2 v1 hy isi_bool_list_tuple)) (fun z => by cases z) (fun _ H1 e1 => ?_)
      refine Evl.q_when (b := true) (Evl.et_B (evq_isi2 (v1.mono e1) (hy.up e1) isi_bool_bool_int)) (fun _ H2 e2 => ?_) (fun z => by cases z)
      refine Evl.s_ret (v := .bl true) (Evl.ev_is (Evl.ev_andV (evq_isi (v0.mono (e1.trans e2)) (hx.up (e1.trans e2)) (b := true) isi_bool_int) (fun _ => Evl.ev_andV (a := true) (Evl.ev_is (ev_eqB (evq_isi (v0.mono (e1.trans e2)) (hx.up (e1.trans e2)) (b := true) isi_bool_bool) (evq_isi (v1.mono (e1.trans e2)) (hy.up (e1.trans e2)) (b := true) isi_bool_bool)) (by decide))
        fun _ => Evl.ev_is (Evl.ev_op (v0.mono (e1.trans e2)) (v1.mono (e1.trans e2)) (rv_eqQ (by cases hx; cases hy; rfl))) (w := .bl true) (by rw [exy]; exact congrArg V.bl (decide_eq_true rfl)))) rfl) (fun H3 e3 => k H3 ((e1.trans e2).trans e3))
    | int z =>
      have exy : x = y := by
        cases hx
        cases hy
        rfl
      refine Evl.q_when (b := false) (Evl.et_B (evq_isi2 v1 hy isi_int_list_tuple)) (fun z => by cases z) (fun _ H1 e1 => ?_)
      refine Evl.q_when (b := true) (Evl.et_B (evq_isi2 (v1.mono e1) (hy.up e1) isi_int_bool_int)) (fun _ H2 e2 => ?_) (fun z => by cases z)
      refine Evl.s_ret (v := .bl true) (Evl.ev_is (Evl.ev_andV (evq_isi (v0.mono (e1.trans e2)) (hx.up (e1.trans e2)) (b := true) isi_int_int) (fun _ => Evl.ev_andV (a := true) (Evl.ev_is (ev_eqB (evq_isi (v0.mono (e1.trans e2)) (hx.up (e1.trans e2)) (b := false) isi_int_bool) (evq_isi (v1.mono (e1.trans e2)) (hy.up (e1.trans e2)) (b := false) isi_int_bool)) (by decide))
        fun _ => Evl.ev_is (Evl.ev_op (v0.mono (e1.trans e2)) (v1.mono (e1.trans e2)) (rv_eqQ (by cases hx; cases hy; rfl))) (w := .bl true) (by rw [exy]; exact congrArg V.bl (decide_eq_true rfl)))) rfl) (fun H3 e3 => k H3 ((e1.trans e2).trans e3))
    | list ds =>
      cases n with
      | zero => exact hf.elim
      | succ m =>
        have hx' := hx
        have hy' := hy
        cases hx with
        | @lst a xs _ hs ha =>
          cases hy with
          | @lst b ys _ hs2 ha2 =>
            refine Evl.q_when (b := true) (Evl.et_B (evq_isi2 v1 hy' isi_list_list_tuple)) (fun _ H1 e1 => ?_) (fun z => by cases z)
            refine Evl.q_when (b := false) (Evl.et_is (Evl.et_or (Evl.et_test (ev_neB (evq_isi (v0.mono e1) (hx'.up e1) (b := true) isi_list_list) (evq_isi (v1.mono e1) (hy'.up e1) (b := true) isi_list_list))) fun _ => Evl.et_test (ev_neB (evq_isi (v0.mono e1) (hx'.up e1) (b := false) isi_list_tuple) (evq_isi (v1.mono e1) (hy'.up e1) (b := false) isi_list_tuple))) (by decide)) (fun z => by cases z) (fun _ H2 e2 => ?_)
            exact Evl.s_ret (v := .bl true) (seqs a b xs ys ds m rfl rfl rfl (.inl ⟨hs, hs2⟩) ha ha2 hf.2 (by rw [dqa_len ha]; exact hf.1) _ (e1.trans e2)) (fun H3 e3 => k H3 ((e1.trans e2).trans e3))
    | tuple ds =>
      cases n with
      | zero => exact hf.elim
      | succ m =>
        have hx' := hx
        have hy' := hy
        cases hx with
        | @tup a xs _ hs ha =>
          cases hy with
          | @tup b ys _ hs2 ha2 =>
            refine Evl.q_when (b := true) (Evl.et_B (evq_isi2 v1 hy' isi_tuple_list_tuple)) (fun _ H1 e1 => ?_) (fun z => by cases z)
            refine Evl.q_when (b := false) (Evl.et_is (Evl.et_or (Evl.et_test (ev_neB (evq_isi (v0.mono e1) (hx'.up e1) (b := false) isi_tuple_list) (evq_isi (v1.mono e1) (hy'.up e1) (b := false) isi_tuple_list))) fun _ => Evl.et_test (ev_neB (evq_isi (v0.mono e1) (hx'.up e1) (b := true) isi_tuple_tuple) (evq_isi (v1.mono e1) (hy'.up e1) (b := true) isi_tuple_tuple))) (by decide)) (fun z => by cases z) (fun _ H2 e2 => ?_)
            exact Evl.s_ret (v := .bl true) (seqs a b xs ys ds m rfl rfl rfl (.inr ⟨hs, hs2⟩) ha ha2 hf.2 (by rw [dqa_len ha]; exact hf.1) _ (e1.trans e2)) (fun H3 e3 => k H3 ((e1.trans e2).trans e3))
    | dict z =>
      cases hx with
      | @dct ax hax =>
        cases hy with
        | @dct ay hay =>
          refine Evl.q_when (b := false) (Evl.et_B (evq_isi2 v1 (.dct hay) isi_dict_list_tuple)) (fun z => by cases z) (fun _ H1 e1 => ?_)
          refine Evl.q_when (b := false) (Evl.et_B (evq_isi2 (v1.mono e1) (.dct (e1 _ _ hay)) isi_dict_bool_int)) (fun z => by cases z) (fun _ H2 e2 => ?_)
          refine Evl.s_ret (v := .bl true) (Evl.ev_is (Evl.ev_andV (Evl.ev_notV (evq_isi4 (v0.mono (e1.trans e2)) (.dct ((e1.trans e2) _ _ hax)) (b := false) isi_dict_bool_int_list_tuple)) (fun _ => fun H4 e4 Q q => (v0.mono (e1.trans e2)) H4 e4 _ fun H5 e5 => (v1.mono (e1.trans e2)) H5 (e4.trans e5) _ fun H6 e6 => .inr ⟨ax, ay, rfl, rfl, ((((e1.trans e2).trans e4).trans e5).trans e6) _ _ hax, ((((e1.trans e2).trans e4).trans e5).trans e6) _ _ hay, q H6 (e5.trans e6)⟩)) rfl) (fun H3 e3 => k H3 ((e1.trans e2).trans e3))
end
end U

set_option Elab.async false
set_option linter.all false
set_option maxRecDepth 100000
set_option maxHeartbeats 4000000
/-! what stays where only tables of code objects change -/
namespace U
open PySem PySem.Spec PyProof.Rows L2
open Evl (Ex)
/-- lists, tuples and empty dicts stay -/
structure SqTo (K : PySem.W.Frag) (H H' : Hp) : Prop where
  l : ∀ a xs, SqL K H a xs → SqL K H' a xs
  t : ∀ a xs, SqT K H a xs → SqT K H' a xs
  d : ∀ a, H a = some (.dK []) → H' a = some (.dK [])
section
variable {K : PySem.W.Frag} {H H' H2 : Hp} {L : List Addr}
mutual
theorem dq_to (e : SqTo K H H') : ∀ (d : PyData) (v : V), Dq K H v d → Dq K H' v d
  | .none, _, h => by cases h; exact .non
  | .bool _, _, h => by cases h; exact .bl _
  | .int _, _, h => by cases h; exact .int _
  | .str _, _, h => by cases h; exact .str _
  | .list ds, _, h => by
    cases h with
    | lst hs ha => exact .lst (e.l _ _ hs) (dqa_to e ds _ ha)
  | .tuple ds, _, h => by
    cases h with
    | tup hs ha => exact .tup (e.t _ _ hs) (dqa_to e ds _ ha)
  | .dict _, _, h => by
    cases h with
    | dct h => exact .dct (e.d _ h)
theorem dqa_to (e : SqTo K H H') : ∀ (ds : List PyData) (vs : List V), DqAll K H vs ds → DqAll K H' vs ds
  | [], _, h => by cases h; exact .nil
  | d :: ds, _, h => by
    cases h with
    | cons h1 h2 => exact .cons (dq_to e d _ h1) (dqa_to e ds _ h2)
end
mutual
theorem dp_to (e : SqTo K H H') : ∀ (d : PyData) (v : V), Dp K H v d → Dp K H' v d
  | .none, _, h => by cases h; exact .non
  | .bool _, _, h => by cases h; exact .bl _
  | .int _, _, h => by cases h; exact .int _
  | .str _, _, h => by cases h; exact .str _
  | .list ds, _, h => by
    cases h with
    | lst hs ha => exact .lst (e.l _ _ hs) (dpa_to e ds _ ha)
  | .tuple ds, _, h => by
    cases h with
    | tup hs ha => exact .tup (e.t _ _ hs) (dpa_to e ds _ ha)
  | .dict _, _, h => by cases h
theorem dpa_to (e : SqTo K H H') : ∀ (ds : List PyData) (vs : List V), DpAll K H vs ds → DpAll K H' vs ds
  | [], _, h => by cases h; exact .nil
  | d :: ds, _, h => by
    cases h with
    | cons h1 h2 => exact .cons (dp_to e d _ h1) (dpa_to e ds _ h2)
end
theorem sqto_of (e : ∀ b o, H b = some o → (∀ ps, o ≠ .tbl ps) → H' b = some o) : SqTo K H H' := by
  refine ⟨fun a xs h => ?_, fun a xs h => ?_, fun a h => e a _ h (fun _ z => by cases z)⟩
  · rcases h with (h | ⟨o, h⟩) | h
    · exact .inl (.inl (e a _ h (fun _ z => by cases z)))
    · exact .inl (.inr ⟨o, e a _ h (fun _ z => by cases z)⟩)
    · exact .inr h
  · rcases h with (h | ⟨o, h⟩) | h
    · exact .inl (.inl (e a _ h (fun _ z => by cases z)))
    · exact .inl (.inr ⟨o, e a _ h (fun _ z => by cases z)⟩)
    · exact .inr h
/-- all but the cell l and the tables stay -/
def ExN (l : Addr) (H H' : Hp) : Prop := ∀ b o, b ≠ l → H b = some o → (∀ ps, o ≠ .tbl ps) → H' b = some o
variable {l a t x C : Addr} {n : Nat} {p : Int} {ds : List PyData} {v : V} {d : PyData} {xs : List V} {T : List (Addr × Str)}
theorem ExN.ofB (e : ExB l H H') : ExN l H H' := fun b o n h _ => e b o n h
theorem ExN.of (e : Ex H H') : ExN l H H' := fun b o n h _ => e b o h
theorem ExN.ofN (e : LamX.ExtN H H') : ExN l H H' := fun b o _ h n => e b o h n
theorem ExN.trans (e : ExN l H H') (e2 : ExN l H' H2) : ExN l H H2 := fun b o n h z => e2 b o n (e b o n h z) z
theorem ExN.sq (e : ExN l H H') (m : l ∈ L) : SqTo K (W L H) (W L H') := sqto_of fun b o h z => by
  obtain ⟨h1, n⟩ := w_in h
  exact w_of n (e b o (fun q => n (by rw [q]; exact m)) h1 z)
theorem dq_exN (h : Dq K (W L H) v d) (e : ExN l H H') (m : l ∈ L) : Dq K (W L H') v d := dq_to (e.sq m) _ _ h
theorem dp_exN (h : Dp K (W L H) v d) (e : ExN l H H') (m : l ∈ L) : Dp K (W L H') v d := dp_to (e.sq m) _ _ h
theorem Gr.exN (h : Gr K L H t ds) (e : ExN l H H') (m : l ∈ L) : Gr K L H' t ds := by
  obtain ⟨n, xs, h1, h2⟩ := h
  exact ⟨n, xs, e t _ (fun z => n (by rw [z]; exact m)) h1 (fun _ z => by cases z), dpa_to (e.sq (List.mem_cons_of_mem _ m)) _ _ h2⟩
theorem Gq.exN (h : Gq K L H t ds) (e : ExN l H H') (m : l ∈ L) : Gq K L H' t ds := by
  obtain ⟨n, xs, h1, h2⟩ := h
  exact ⟨n, xs, e t _ (fun z => n (by rw [z]; exact m)) h1 (fun _ z => by cases z), dqa_to (e.sq (List.mem_cons_of_mem _ m)) _ _ h2⟩
theorem Smp.exN (h : Smp K L H x C p ds) (e : ExN l H H') (m : l ∈ L) (hx : x ≠ l) : Smp K L H' x C p ds := by
  obtain ⟨dx, v, h1, h2⟩ := h
  exact ⟨dx, v, e x _ hx h1 (fun _ z => by cases z), dp_to (e.sq m) _ _ h2⟩
theorem Dr.extN (h : Dr n H l) (e : LamX.ExtN H H') : Dr n H' l := by
  obtain ⟨a, b, c, h, q⟩ := h
  exact ⟨a, b, c, e _ _ h (fun _ z => by cases z), q⟩
theorem sqL_extN (h : SqL K H a xs) (e : LamX.ExtN H H') : SqL K H' a xs := (sqto_of e).l _ _ h
/-- the tables stand while only a list changes -/
theorem tabs_exB (h : LamX.Tabs T H) (e : ExB l H H') (hl : ∃ xs, H l = some (.lst xs)) : LamX.Tabs T H' := fun q hq => by
  obtain ⟨xs, hl⟩ := hl
  obtain ⟨ps, h1, h2, h3⟩ := h q hq
  refine ⟨ps, e _ _ (fun z => by rw [z, hl] at h1; cases h1) h1, h2, fun pos cv hc => ?_⟩
  obtain ⟨c, e1, e2⟩ := h3 pos cv hc
  exact ⟨c, e1, e _ _ (fun z => by rw [z, hl] at e2; unfold LamX.CodeO at e2; cases e2) e2⟩
theorem Dr.lst (h : Dr n H l) : ∃ xs, H l = some (.lst xs) := by
  obtain ⟨a, b, c, h, _⟩ := h
  exact ⟨_, h⟩
end
end U

set_option Elab.async false
set_option linter.all false
set_option maxRecDepth 100000
set_option maxHeartbeats 4000000
/-! samples that are refused -/
namespace U
open PySem PySem.Spec PyProof.Rows L2
open Evl (Ex)
open C8 (Met Mak pe_mt pe_mt0 pe_mk)
section
variable {P : Program} {w : World} {K : PySem.W.Frag} {mg : Str → Option Value} {base : Heap} {C CP CE CI : Addr}
def spInitBad (K : PySem.W.Frag) (CP CE : Addr) : Sp := fun vs H _ E => ∃ x vp ve dp de, vs = [.ref x, vp, ve] ∧ Dq K H vp dp ∧ Dq K H ve de ∧ (∃ n, fits n de) ∧
  ((isN dp = false ∧ ErrE CP "places" vp H E) ∨ (isN dp = true ∧ isR de = false ∧ ErrE CE "index" (.int 0) H E) ∨
    (∃ p i ds, vp = .int p ∧ isN (.int p) = true ∧ (de = .list ds ∨ de = .tuple ds) ∧ i < ds.length ∧ (∀ (j : Nat) d, j < i → ds[j]? = some d → isX p d = true) ∧ (∀ d, ds[i]? = some d → isX p d = false) ∧ ErrE CE "index" (.int (i : Int)) H E))
theorem fits_mem {n : Nat} {ds : List PyData} (h : fits n (.list ds) ∨ fits n (.tuple ds)) : ∀ d ∈ ds, ∃ n, fits n d := by
  cases n with
  | zero => rcases h with h | h <;> exact h.elim
  | succ n => rcases h with h | h <;> exact fun d hd => ⟨n, h.2 d hd⟩
theorem ok_SinitBad {f : Addr} {fd : FuncData} {T0 : Addr} (F : FunD K "__init__" "Sample.__init__" (defArgs s_Sample_init) (defBody s_Sample_init) (defScope s_Sample_init) [.ref T0] [] f fd) (T : TxF mg) (R1 : ErrC P w K mg base "BadPlaces" CP "places") (R2 : ErrC P w K mg base "BadExample" CE "index")
    (D_is_number_of_places : DefAt P w K mg base "is_number_of_places" 2 ["thing"] (spB K isN)) (D_is_row : DefAt P w K mg base "is_row" 1 ["thing"] (spB K isR)) (D_is_example : DefAt P w K mg base "is_example" 4 ["thing", "places"] (spBp K isX))
    (D_copied_example : DefAt P w K mg base "copied_example" 1 ["example"] (spCopyM K)) : FnOk P w K mg base (L2.CX P w) 5 f fd ["self", "places", "examples"] (spInitBad K CP CE) := by
  refine F.ok sc_Sample_init (fun vs H Q E h => ?_) (fun cdv A outer s H vs Q E hr h => ?_)
  · obtain ⟨_, _, _, _, _, rfl, _⟩ := h
    rfl
  · obtain ⟨x, vp, ve, dp, de, rfl, hp, he, hw, hc⟩ := h
    refine ⟨_, (pss_cons (ps_if (pt_not (pt_val (pe_callD D_is_number_of_places (by first | exact hr | exact hr.mono (by decide) | exact hr.mono (by omega)) (by rfl) (pa_cons (pv 1) pa_nil)))) (pss_one (ps_raise rfl (takes_of rfl rfl rfl rfl) (pmk_err R1 (hr.mono (by decide)) (by rfl) (pv 1)))) pss_nil)
    (pss_cons (ps_if (pt_not (pt_val (pe_callD D_is_row (by first | exact hr | exact hr.mono (by decide) | exact hr.mono (by omega)) (by rfl) (pa_cons (pv 2) pa_nil)))) (pss_one (ps_raise rfl (takes_of rfl rfl rfl rfl) (pmk_err R2 (hr.mono (by decide)) (by rfl) pe_int))) pss_nil)
    (pss_cons (ps_for (passes_of rfl) rfl (pi_enumA (by rfl) T.m_enumerate (pa_cons (pv 2) pa_nil)) (pg_tup (by rfl) (pgs_cons (pg_name (i := 3) sc_Sample_init.nd rfl (by first | exact Or.inl rfl | exact Or.inr rfl)) (pgs_cons (pg_name (i := 4) sc_Sample_init.nd rfl (by first | exact Or.inl rfl | exact Or.inr rfl)) pgs_nil)))
      (pss_one (ps_if (pt_not (pt_val (pe_callD D_is_example (by first | exact hr | exact hr.mono (by decide) | exact hr.mono (by omega)) (by rfl) (pa_cons (pv 4) (pa_cons (pv 1) pa_nil))))) (pss_one (ps_raise rfl (takes_of rfl rfl rfl rfl) (pmk_err R2 (hr.mono (by decide)) (by rfl) (pv 3)))) pss_nil)))
    (pss_cons (ps_fld (pv 0) (pv 1) rfl)
    (pss_one (ps_fld (pv 0) (pe_callTy call_tuple_of (by rfl) T.m_tuple (by decide +kernel) (pa_cons (pe_lc (own := [("example", 5)]) (g := gName 5) (tt := tYes) (by rfl) sc_Sample_init.nd (pi_seq (pv 2)) (blkOk_by (N := sc_Sample_init_N) (sc := defScope s_Sample_init) (by decide +kernel)) (fun _ _ _ _ _ => (pg_name (i := 5) sc_Sample_init.nd rfl (by first | exact Or.inl rfl | exact Or.inr rfl))) (fun _ _ _ _ _ => pts_nil) (fun _ _ _ _ _ => (pe_callD D_copied_example (by first | exact hr | exact hr.mono (by decide) | exact hr.mono (by omega)) (by rfl) (pa_cons (pv 5) pa_nil)))) pa_nil)) rfl)))))), ?_⟩
    have v1 : Evl.Ev (tVar 1) (start sc_Sample_init_N [.ref x, vp, ve]) H vp := Evl.ev_var rfl
    have v2 : Evl.Ev (tVar 2) (start sc_Sample_init_N [.ref x, vp, ve]) H ve := Evl.ev_var rfl
    refine Evl.q_when (b := !isN dp) (Evl.et_not (Evl.et_B (ev_spBq v1 hp))) (fun z H1 e1 => ?_) (fun z H1 e1 => ?_)
    · rcases hc with ⟨_, k⟩ | ⟨z2, _⟩ | ⟨p, _, _, rfl, z2, _⟩
      · exact mk_err_run (Evl.ev_var rfl) fun d H4 hd e4 hx4 => k d H4 (Evl.fresh_back e1 hd) (e1.trans e4) hx4
      · rw [z2] at z; cases z
      · cases hp; rw [z2] at z; cases z
    refine Evl.q_when (b := !isR de) (Evl.et_not (Evl.et_B (ev_spBq (v2.mono e1) (he.up e1)))) (fun z' H2 e2 => ?_) (fun z' H2 e2 => ?_)
    · have e12 := e1.trans e2
      rcases hc with ⟨z2, k⟩ | ⟨_, _, k⟩ | ⟨p, _, ds, rfl, z2, z3, _⟩
      · rw [z2] at z; cases z
      · exact mk_err_run Evl.ev_c fun d H4 hd e4 hx4 => k d H4 (Evl.fresh_back e12 hd) (e12.trans e4) hx4
      · rcases z3 with rfl | rfl <;> cases z'
    have e12 := e1.trans e2
    rcases hc with ⟨z2, _⟩ | ⟨_, z2, _⟩ | ⟨p, i0, ds, rfl, z2, z3, hi0, hlo, hat, k⟩
    · rw [z2] at z; cases z
    · rw [z2] at z'; cases z'
    obtain ⟨a, xs, rfl, hs, ha⟩ : ∃ a xs, ve = .ref a ∧ (SqL K H a xs ∨ SqT K H a xs) ∧ DqAll K H xs ds := by
      rcases z3 with rfl | rfl
      · cases he with
        | lst hs ha => exact ⟨_, _, rfl, .inl hs, ha⟩
      · cases he with
        | tup hs ha => exact ⟨_, _, rfl, .inr hs, ha⟩
    have hfit : ∀ d ∈ ds, ∃ n, fits n d := by
      obtain ⟨n, hw⟩ := hw
      rcases z3 with rfl | rfl
      · exact fits_mem (.inl hw)
      · exact fits_mem (.inr hw)
    have hlen := dqa_len ha
    let Pv : Nat → L2.St → Hp → Prop := fun i σ' H' => i ≤ i0 ∧ Ex H H' ∧ ∃ s3 s4, σ' = [some (.ref x), some (.int p), some (.ref a), s3, s4, none]
    have turn : ∀ (i : Nat) (y : V) (σ' : L2.St) (H3 H4 : Hp) (D : Ends) (tr : TS), (∀ σ H D, tMkO CE (spErrI CE "index") [] (tCons (tVar 3) tNil) σ H (fun cls d H2 => E cls d H2) → tr D σ H) → i < xs.length → Pv i σ' H3 → YPair (fun i => some (.int (i : Nat))) (fun i => xs[i]?) i H3 y H4 → gTup K 2 (gCons (gName 3) (gCons (gName 4) gNil)) y σ' H4 fun σ2 H5 =>
        tIfS (tNot (tB (tCallD (spBp K isX) (tCons (tVar 4) (tCons (tVar 1) tNil))))) tr tNext { D with nx := Pv (i + 1), ct := Pv (i + 1), bk := D.nx } σ2 H5 := by
      intro i y σ' H3 H4 D tr htr hi pv yp
      obtain ⟨hii, e3, s3, s4, rfl⟩ := pv
      obtain ⟨Tt, u1, u2, rfl, hT, rfl, hu1, hu2⟩ := yp
      have hu2' : xs[i]? = some u2 := hu2
      obtain ⟨d, hd1, hd2⟩ := dqa_get ha hu2'
      have e4 := e3.trans (Ex.new (o := .tup [u1, u2]) hT)
      cases hu1
      refine ⟨Tt, [_, u2], rfl, SqT.of upd_same, rfl, _, [u2], rfl, u2, [], rfl, rfl, ?_⟩
      refine Evl.s_when (b := !isX p d) (Evl.et_not (Evl.et_B (ev_spBpq (d := d) (p := p) (Evl.ev_var rfl) (Evl.ev_var rfl) (hd2.up e4) (hfit d (List.mem_of_getElem? hd1))))) (fun zz H6 e6 => ?_) (fun zz H6 e6 => ?_)
      · have hieq : i = i0 := by
          rcases Nat.lt_or_eq_of_le hii with q | q
          · rw [hlo i d q hd1] at zz; cases zz
          · exact q
        subst hieq
        exact htr _ _ _ (mk_err_run (Evl.ev_var rfl) fun d H7 hd e7 hx7 => k d H7 (Evl.fresh_back (e4.trans e6) hd) ((e4.trans e6).trans e7) hx7)
      · have hlt : i < i0 := by
          rcases Nat.lt_or_eq_of_le hii with q | q
          · exact q
          · subst q
            rw [hat d hd1] at zz; cases zz
        exact ⟨hlt, e4.trans e6, _, _, rfl⟩
    refine ⟨_, rfl, a, xs, rfl, ?_⟩
    rcases hs with x1 | x1
    · exact .inl ⟨Evl.ex_l e12 x1, for_it (walk_enum (xs := xs)) Pv ⟨Nat.zero_le _, e12, none, none, rfl⟩ (fun i σ' H3 _ pv => Evl.ex_l pv.2.1 x1) (fun i y σ' H3 H4 hi pv yp => turn i y σ' H3 H4 _ _ (fun _ _ _ h => h) hi pv yp) (fun σ' H3 pv => absurd pv.1 (by omega))⟩
    · exact .inr ⟨Evl.ex_t e12 x1, for_it (walk_enumT (xs := xs)) Pv ⟨Nat.zero_le _, e12, none, none, rfl⟩ (fun i σ' H3 _ pv => Evl.ex_t pv.2.1 x1) (fun i y σ' H3 H4 hi pv yp => turn i y σ' H3 H4 _ _ (fun _ _ _ h => h) hi pv yp) (fun σ' H3 pv => absurd pv.1 (by omega))⟩
/-- a def that ends well by one promise, and may raise by another -/
theorem fn_or {k : Nat} {f : Addr} {fd : FuncData} {ps : List Str} {sp1 sp2 : Sp} (F : FnOk P w K mg base CX0 k f fd ps sp1) (F2 : FnOk P w K mg base (L2.CX P w) k f fd ps sp2) : FnOk P w K mg base (L2.CX P w) k f fd ps (fun vs H Q E => sp1 vs H Q E ∨ sp2 vs H Q E) :=
  ⟨fun vs H Q E h => h.elim (F.len vs H Q E) (F2.len vs H Q E), fun A outer s H args us vs Q E hr e0 hb r h => h.elim (fun h => codeAny_mono (F.run A outer s H args us vs Q E hr e0 hb r h) fun r s' q => by
    cases r with
    | error e => exact q.elim
    | ok f => cases f <;> exact q) fun h => F2.run A outer s H args us vs Q E hr e0 hb r h⟩
def spInitX (K : PySem.W.Frag) (C CP CE : Addr) : Sp := fun vs H Q E => spInitM K C vs H Q E ∨ spInitBad K CP CE vs H Q E
end
end U

set_option Elab.async false
set_option linter.all false
set_option maxRecDepth 100000
set_option maxHeartbeats 4000000
/-! parts of samples -/
namespace U
open PySem PySem.Spec PyProof.Rows L2
open Evl (Ex)
open C8 (Met Mak pe_mt pe_mt0 pe_mk)
abbrev s_Sample_checked : Stmt := inClass (top 20) 6
abbrev sc_Sample_checked_N : List Str := ["self", "indexes", "checked", "thing"]
theorem sc_Sample_checked : FnScope sc_Sample_checked_N ["self", "indexes"] (defScope s_Sample_checked) := ⟨rfl, rfl, rfl, by decide +kernel, rfl, by decide +kernel, by decide +kernel⟩
abbrev s_Sample_part : Stmt := inClass (top 20) 2
abbrev sc_Sample_part_N : List Str := ["self", "indexes", "chosen", "index", "pair"]
theorem sc_Sample_part : FnScope sc_Sample_part_N ["self", "indexes"] (defScope s_Sample_part) := ⟨rfl, rfl, rfl, by decide +kernel, rfl, by decide +kernel, by decide +kernel⟩
abbrev s_Sample_without : Stmt := inClass (top 20) 3
abbrev sc_Sample_without_N : List Str := ["self", "indexes", "dropped", "index", "pair"]
theorem sc_Sample_without : FnScope sc_Sample_without_N ["self", "indexes"] (defScope s_Sample_without) := ⟨rfl, rfl, rfl, by decide +kernel, rfl, by decide +kernel, by decide +kernel⟩
abbrev s_is_index_below : Stmt := top 14
abbrev sc_is_index_below_N : List Str := ["thing", "many"]
theorem sc_is_index_below : FnScope sc_is_index_below_N ["thing", "many"] (defScope s_is_index_below) := ⟨rfl, rfl, rfl, by decide +kernel, rfl, by decide +kernel, by decide +kernel⟩
def Idx (K : PySem.W.Frag) (H : Hp) (a : Addr) (ns : List Int) (n : Nat) : Prop := (SqL K H a (ns.map V.int) ∨ SqT K H a (ns.map V.int)) ∧ ns.Nodup ∧ (∀ i ∈ ns, 0 ≤ i ∧ i < (n : Int)) ∧ ns.length ≤ 1000
theorem Rws.sel {p : Int} {ds : List PyData} {c : Nat → Bool} (h : Rws p ds) : Rws p (sel c ds ds.length) := ⟨Nat.le_trans (sel_len _) h.1, fun d hd => h.2 d (sel_mem hd)⟩
def spChecked (K : PySem.W.Frag) (C : Addr) : Sp := fun vs H Q _ => ∃ x a p ds ns L, vs = [.ref x, .ref a] ∧ Smp K L H x C p ds ∧ Rws p ds ∧ Idx K H a ns ds.length ∧ ∀ t H', H t = none → Ex H H' → H' t = some (.lst (ns.map .int)) → Q (.ref t) H'
def spPart (K : PySem.W.Frag) (C : Addr) (c : List Int → Nat → Bool) : Sp := fun vs H Q _ => ∃ x a p ds ns L, vs = [.ref x, .ref a] ∧ Lsts L H ∧ Smp K L H x C p ds ∧ 1 ≤ p ∧ p ≤ 3 ∧ Rws p ds ∧ Idx K H a ns ds.length ∧ ∀ y H', Ex H H' → Smp K L H' y C p (sel (c ns) ds ds.length) → Q (.ref y) H'
theorem evd_low {K : PySem.W.Frag} {L : List Addr} {te : TE} {σ : L2.St} {H : Hp} {d : PyData} (h : EvD K L te σ H d) : EvD K [] te σ H d := fun H1 e Q k => h H1 e _ fun v H2 e2 hv => k v H2 e2 (by rw [w_nil]; exact hv.up w_sub)
theorem inV_int (i : Int) : ∀ ns : List Int, inV (.int i) (ns.map V.int) = decide (i ∈ ns)
  | [] => rfl
  | n :: ns => by
    have q := inV_int i ns
    unfold inV at q ⊢
    rw [List.map_cons, List.any_cons, q]
    have e : eqV (.int n) (.int i) = decide (n = i) := by
      first | rfl | simp [eqV]
    rw [e]
    by_cases z : n = i
    · simp [z]
    · have z' : ¬ i = n := fun t => z t.symm
      simp [z, z']
theorem flat_ints : ∀ ns : List Int, (ns.map V.int).all flatV = true
  | [] => rfl
  | _ :: ns => by
    rw [List.map_cons, List.all_cons, flat_ints ns]
    rfl
section
variable {P : Program} {w : World} {K : PySem.W.Frag} {mg : Str → Option Value} {base : Heap} {C : Addr} {L : List Addr} {σ : L2.St} {H H1 H' : Hp} {p : Int} {ds es : List PyData} {tp tl te : TE} {x y : Addr}
theorem ok_Schecked {f : Addr} {fd : FuncData} (F : Fun K "_checked" "Sample._checked" s_Sample_checked f fd) (T : TxF mg) (S : SmpC K C) (D_is_index_below : DefAt P w K mg base "is_index_below" 2 ["thing", "many"] (spBp K isIx)) : FnOk P w K mg base CX0 3 f fd ["self", "indexes"] (spChecked K C) := by
  refine F.ok sc_Sample_checked (fun vs H Q E h => ?_) (fun cdv A outer s H vs Q E hr h => ?_)
  · obtain ⟨_, _, _, _, _, _, rfl, _⟩ := h
    rfl
  · obtain ⟨x, a, p, ds, ns, L, rfl, hS, hR, ⟨hI, hnd, hin, hlen⟩, k⟩ := h
    refine ⟨_, (pss_cons (ps_set (i := 2) sc_Sample_checked.nd rfl (by first | exact Or.inl rfl | exact Or.inr rfl) (pe_lst pa_nil))
    (pss_cons (ps_for PassesOwn.never rfl (pi_seq (pv 1)) (pg_name (i := 3) sc_Sample_checked.nd rfl (by first | exact Or.inl rfl | exact Or.inr rfl))
      (pss_cons (ps_if (PW.pt (pw_or (pt_not (pt_val (pe_callD D_is_index_below (by first | exact hr | exact hr.mono (by decide) | exact hr.mono (by omega)) (by rfl) (pa_cons (pv 3) (pa_cons (pe_callB call_len_seq (by rfl) T.m_len (by decide +kernel) (pa_cons (pe_fld (pv 0) rfl) pa_nil)) pa_nil))))) (pw_or1 (pt_cmpR op_in_seq (pv 3) (pv 2) (by rfl))))) (pss_one ps_never) pss_nil)
      (pss_one (ps_expr (pe_bm PySem.F.plainAttrs_list PySem.F.slot_list_append PySem.F.type_list_append mt_append (pv 2) (pa_cons (pv 3) pa_nil))))))
    (pss_one (ps_ret (pv 2))))), ?_⟩
    obtain ⟨dx, t, xs, hx, hT, hA, _⟩ := hS.inv
    have lxs := dpa_len hA
    refine Evl.q_asgL (xs := []) (Evl.el_lst Evl.ea_nil (by decide)) fun l H1 hl e1 hl1 => ?_
    let Pv : Nat → L2.St → Hp → Prop := fun i σ' H' => Ex H H' ∧ H' l = some (.lst ((ns.take i).map V.int)) ∧ ∃ s3, σ' = [some (.ref x), some (.ref a), some (.ref l), s3]
    have turn : ∀ (i : Nat) (y : V) (σ' : L2.St) (H3 H4 : Hp) (D : Ends), i < (ns.map V.int).length → Pv i σ' H3 → YAt (ns.map V.int) i H3 y H4 → gName 3 y σ' H4 fun σ2 H5 =>
        tSeq (tIfS (tOr (tNot (tB (tCallD (spBp K isIx) (tCons (tVar 3) (tCons (tCB (fun xs H Q => ∃ p ys, xs = [V.ref p] ∧ (SqL K H p ys ∨ SqT K H p ys) ∧ Q (.int ys.length) H) (tCons (tFld K (tVar 0) "_pairs") tNil)) tNil))))) (tTest (tOp (rIn K false) (tVar 3) (tVar 2)))) tNever tNext)
          (tDrop (tBM K "list" rAppend (tVar 2) (tCons (tVar 3) tNil))) { D with nx := Pv (i + 1), ct := Pv (i + 1), bk := D.nx } σ2 H5 := by
      intro i y σ' H3 H4 D hi pv yp
      obtain ⟨e3, hl3, s3, rfl⟩ := pv
      obtain ⟨rfl, hy⟩ := yp
      rw [List.length_map] at hi
      rw [List.getElem?_map, List.getElem?_eq_getElem hi] at hy
      have ey : y = .int ns[i] := (Option.some.inj hy).symm
      subst ey
      have hmem : ns[i] ∈ ns := List.getElem_mem hi
      obtain ⟨b0, b1⟩ := hin _ hmem
      have hnot : ns[i] ∉ ns.take i := fun z => by
        obtain ⟨j, hj, ej⟩ := List.getElem_of_mem z
        rw [List.length_take] at hj
        rw [List.getElem_take] at ej
        have q := List.pairwise_iff_getElem.mp hnd j i (by omega) hi (by omega)
        exact q ej
      have w3 : Evl.Ev (tVar 3) [some (.ref x), some (.ref a), some (.ref l), some (.int ns[i])] H4 (.int ns[i]) := Evl.ev_var rfl
      have wl : Evl.Ev (tVar 2) [some (.ref x), some (.ref a), some (.ref l), some (.int ns[i])] H4 (.ref l) := Evl.ev_var rfl
      have ln : Evl.Ev (tCB (fun xs H Q => ∃ p ys, xs = [V.ref p] ∧ (SqL K H p ys ∨ SqT K H p ys) ∧ Q (.int ys.length) H) (tCons (tFld K (tVar 0) "_pairs") tNil)) [some (.ref x), some (.ref a), some (.ref l), some (.int ns[i])] H4 (.int (xs.length : Nat)) := ev_lenS (a := t) (xs := xs) (ev_fld (Evl.ev_var rfl) (e3 x _ hx) S.cl S.nQ rfl) (.inr (Evl.ex_t e3 hT))
      have ok : isIx ((xs.length : Nat) : Int) (.int ns[i]) = true := by
        show (decide (0 ≤ ns[i]) && decide (ns[i] < ((xs.length : Nat) : Int))) = true
        rw [decide_eq_true b0, decide_eq_true (show ns[i] < ((xs.length : Nat) : Int) by rw [lxs]; exact b1)]
        rfl
      refine Evl.q_when (b := false) (Evl.et_is (Evl.et_or (b := false) (Evl.et_is (Evl.et_not (Evl.et_B (ev_spBpq w3 ln (.int _) ⟨1, trivial⟩))) (by rw [ok]; try rfl)) fun _ => Evl.et_is (Evl.et_test (Evl.ev_op w3 wl (Evl.rv_isL (SqL.of hl3) rfl (flat_ints _)))) ?_) rfl) (fun z => by cases z) (fun _ H6 e6 => ?_)
      · rw [inV_int]
        exact decide_eq_false hnot
      · refine Evl.s_app (e6 l _ hl3) (wl.mono e6) (w3.mono e6) (by rw [List.length_map, List.length_take]; omega) fun H7 e7 => ?_
        refine ⟨Evl.Ex.mut ((e3.trans e6).trans e7) hl, ?_, _, rfl⟩
        have et : ns.take (i + 1) = ns.take i ++ [ns[i]] := by
          rw [List.take_add_one, List.getElem?_eq_getElem hi]
          rfl
        rw [upd_same, et, List.map_append]
        rfl
    have fin : ∀ σ' H3, Pv (ns.map V.int).length σ' H3 → tRet (tVar 2) { nx := fun _ H' => Q .non H', rt := Q } σ' H3 := by
      rintro σ' H3 ⟨e3, hl3, s3, rfl⟩
      rw [List.length_map, List.take_length] at hl3
      exact Evl.s_ret (Evl.ev_var rfl) fun H4 e4 => k l H4 hl (e3.trans e4) (e4 l _ hl3)
    refine ⟨_, rfl, a, rfl, ?_⟩
    have p0 : Pv 0 [some (.ref x), some (.ref a), some (.ref l), none] H1 := ⟨e1, hl1, none, rfl⟩
    rcases hI with hI | hI
    · exact .inl ⟨⟨_, Evl.ex_l e1 hI⟩, for_it (walk_list (xs := ns.map V.int)) Pv p0 (fun i σ' H3 _ pv => Evl.ex_l pv.1 hI) (fun i y σ' H3 H4 hi pv yp => turn i y σ' H3 H4 _ hi pv yp) fin⟩
    · exact .inr ⟨⟨_, Evl.ex_t e1 hI⟩, for_it (walk_tup (xs := ns.map V.int)) Pv p0 (fun i σ' H3 _ pv => Evl.ex_t pv.1 hI) (fun i y σ' H3 H4 hi pv yp => turn i y σ' H3 H4 _ hi pv yp) fin⟩
def cIn (ns : List Int) (i : Nat) : Bool := decide ((i : Int) ∈ ns)
def cOut (ns : List Int) (i : Nat) : Bool := !decide ((i : Int) ∈ ns)
theorem ok_Spart {f : Addr} {fd : FuncData} (F : Fun K "part" "Sample.part" s_Sample_part f fd) (T : TxF mg) (S : SmpC K C) (M_checked : Met P w K mg base 3 C "_checked" (spChecked K C) []) (N_Sample : Mak P w K mg base 5 "Sample" C (spInitM K C) []) : FnOk P w K mg base CX0 7 f fd ["self", "indexes"] (spPart K C cIn) := by
  refine F.ok sc_Sample_part (fun vs H Q E h => ?_) (fun cdv A outer s H vs Q E hr h => ?_)
  · obtain ⟨_, _, _, _, _, _, rfl, _⟩ := h
    rfl
  · obtain ⟨x, a, p, ds, ns, L, rfl, hL, hS, p1, p3, hR, hI, k⟩ := h
    refine ⟨_, (pss_cons (ps_set (i := 2) sc_Sample_part.nd rfl (by first | exact Or.inl rfl | exact Or.inr rfl) (pe_mt M_checked hr (by decide) (pv 0) (pa_cons (pv 1) pa_nil)))
    (pss_one (ps_ret (pe_mk N_Sample hr (by decide) (by rfl) (pa_cons (pe_fld (pv 0) rfl) (pa_cons (pe_lc (own := [("index", 3), ("pair", 4)]) (g := gTup K 2 (gCons (gName 3) (gCons (gName 4) (gNil)))) (tt := tTest (tOp (rIn K false) (tVar 3) (tVar 2))) (by rfl) sc_Sample_part.nd (pi_enumA (by rfl) T.m_enumerate (pa_cons (pe_fld (pv 0) rfl) pa_nil)) (blkOk_by (N := sc_Sample_part_N) (sc := defScope s_Sample_part) (by decide +kernel)) (fun _ _ _ _ _ => (pg_tup (by rfl) (pgs_cons (pg_name (i := 3) sc_Sample_part.nd rfl (by first | exact Or.inl rfl | exact Or.inr rfl)) (pgs_cons (pg_name (i := 4) sc_Sample_part.nd rfl (by first | exact Or.inl rfl | exact Or.inr rfl)) pgs_nil)))) (fun _ _ _ _ _ => pts_one (pt_cmpR op_in_seq (pv 3) (pv 2) (by rfl))) (fun _ _ _ _ _ => (pv 4))) pa_nil)))))), ?_⟩
    obtain ⟨dx, t, xs, hx, hT, hA, _⟩ := hS.inv
    refine ⟨_, rfl, x, dx, _, rfl, hx, rfl, _, rfl, x, a, p, ds, ns, L, rfl, hS, hR, hI, fun l H1 hl e1 hl1 => ?_⟩
    have fl : ∀ {f : Str} {v : V} {H2 : Hp}, Ex H H2 → List.lookup f [("places", V.int p), ("_pairs", V.ref t)] = some v → NoAttr K C f → ∀ σ : L2.St, σ[0]? = some (some (.ref x)) → Evl.Ev (tFld K (tVar 0) f) σ H2 v := fun e hv n σ h0 => ev_fld (Evl.ev_var h0) (e x _ hx) S.cl n hv
    refine s_retS (mk_runM (L := L) (p := p) (ds := sel (cIn ns) ds ds.length) (fl e1 rfl S.nP _ rfl) (.inl (evd_low (L := L) (EvG.dat (eg_enum (c := cIn ns) (Evl.ea_cons (fl e1 rfl S.nQ _ rfl) Evl.ea_nil) (.inr (Evl.ex_t e1 hT)) (hA.up (w_ex e1)) (hid_ex e1 hL.hid) (by have := hR.1; omega) (fun _ _ => rfl) (fun y i H2 hi e2 => ?_) (fun _ _ => rfl))))) (hL.ex e1) p1 p3 hR.sel.toM.1) (fun y H2 e2 hy => k y H2 (e1.trans e2) (by rw [hR.sel.toM.2] at hy; exact hy))
    exact Evl.et_is (Evl.et_test (Evl.ev_op (Evl.ev_var rfl) (Evl.ev_var rfl) (Evl.rv_isL (SqL.of (e2 l _ hl1)) rfl (flat_ints _)))) (show inV (.int (i : Int)) (ns.map V.int) = cIn ns i from by unfold cIn; exact inV_int (i : Int) ns)
theorem ok_Swithout {f : Addr} {fd : FuncData} (F : Fun K "without" "Sample.without" s_Sample_without f fd) (T : TxF mg) (S : SmpC K C) (M_checked : Met P w K mg base 3 C "_checked" (spChecked K C) []) (N_Sample : Mak P w K mg base 5 "Sample" C (spInitM K C) []) : FnOk P w K mg base CX0 7 f fd ["self", "indexes"] (spPart K C cOut) := by
  refine F.ok sc_Sample_without (fun vs H Q E h => ?_) (fun cdv A outer s H vs Q E hr h => ?_)
  · obtain ⟨_, _, _, _, _, _, rfl, _⟩ := h
    rfl
  · obtain ⟨x, a, p, ds, ns, L, rfl, hL, hS, p1, p3, hR, hI, k⟩ := h
    refine ⟨_, (pss_cons (ps_set (i := 2) sc_Sample_without.nd rfl (by first | exact Or.inl rfl | exact Or.inr rfl) (pe_mt M_checked hr (by decide) (pv 0) (pa_cons (pv 1) pa_nil)))
    (pss_one (ps_ret (pe_mk N_Sample hr (by decide) (by rfl) (pa_cons (pe_fld (pv 0) rfl) (pa_cons (pe_lc (own := [("index", 3), ("pair", 4)]) (g := gTup K 2 (gCons (gName 3) (gCons (gName 4) (gNil)))) (tt := tTest (tOp (rIn K true) (tVar 3) (tVar 2))) (by rfl) sc_Sample_without.nd (pi_enumA (by rfl) T.m_enumerate (pa_cons (pe_fld (pv 0) rfl) pa_nil)) (blkOk_by (N := sc_Sample_without_N) (sc := defScope s_Sample_without) (by decide +kernel)) (fun _ _ _ _ _ => (pg_tup (by rfl) (pgs_cons (pg_name (i := 3) sc_Sample_without.nd rfl (by first | exact Or.inl rfl | exact Or.inr rfl)) (pgs_cons (pg_name (i := 4) sc_Sample_without.nd rfl (by first | exact Or.inl rfl | exact Or.inr rfl)) pgs_nil)))) (fun _ _ _ _ _ => pts_one (pt_cmpR op_notIn_seq (pv 3) (pv 2) (by rfl))) (fun _ _ _ _ _ => (pv 4))) pa_nil)))))), ?_⟩
    obtain ⟨dx, t, xs, hx, hT, hA, _⟩ := hS.inv
    refine ⟨_, rfl, x, dx, _, rfl, hx, rfl, _, rfl, x, a, p, ds, ns, L, rfl, hS, hR, hI, fun l H1 hl e1 hl1 => ?_⟩
    have fl : ∀ {f : Str} {v : V} {H2 : Hp}, Ex H H2 → List.lookup f [("places", V.int p), ("_pairs", V.ref t)] = some v → NoAttr K C f → ∀ σ : L2.St, σ[0]? = some (some (.ref x)) → Evl.Ev (tFld K (tVar 0) f) σ H2 v := fun e hv n σ h0 => ev_fld (Evl.ev_var h0) (e x _ hx) S.cl n hv
    refine s_retS (mk_runM (L := L) (p := p) (ds := sel (cOut ns) ds ds.length) (fl e1 rfl S.nP _ rfl) (.inl (evd_low (L := L) (EvG.dat (eg_enum (c := cOut ns) (Evl.ea_cons (fl e1 rfl S.nQ _ rfl) Evl.ea_nil) (.inr (Evl.ex_t e1 hT)) (hA.up (w_ex e1)) (hid_ex e1 hL.hid) (by have := hR.1; omega) (fun _ _ => rfl) (fun y i H2 hi e2 => ?_) (fun _ _ => rfl))))) (hL.ex e1) p1 p3 hR.sel.toM.1) (fun y H2 e2 hy => k y H2 (e1.trans e2) (by rw [hR.sel.toM.2] at hy; exact hy))
    exact Evl.et_is (Evl.et_test (Evl.ev_op (Evl.ev_var rfl) (Evl.ev_var rfl) (Evl.rv_niL (SqL.of (e2 l _ hl1)) rfl (flat_ints _)))) (show (!inV (.int (i : Int)) (ns.map V.int)) = cOut ns i from by unfold cOut; exact congrArg not (inV_int (i : Int) ns))
end
end U

set_option Elab.async false
set_option linter.all false
set_option maxRecDepth 100000
set_option maxHeartbeats 4000000
/-! parts that are refused -/
namespace U
open PySem PySem.Spec PyProof.Rows L2
open Evl (Ex)
open C8 (Met Mak pe_mt pe_mt0 pe_mk)
section
variable {P : Program} {w : World} {K : PySem.W.Frag} {mg : Str → Option Value} {base : Heap} {C CI : Addr} {L : List Addr} {σ : L2.St} {H H1 H' : Hp} {p : Int} {ds es : List PyData} {tp tl te : TE} {x y : Addr}
/-- the first thing that is no index, or came before, is v -/
structure BadIdx (K : PySem.W.Frag) (H : Hp) (a : Addr) (m : Nat) (v : V) : Prop where
  ex : ∃ (ns : List Int) (d : PyData) (rest : List V), (SqL K H a (ns.map V.int ++ v :: rest) ∨ SqT K H a (ns.map V.int ++ v :: rest)) ∧ ns.Nodup ∧ (∀ i ∈ ns, 0 ≤ i ∧ i < (m : Int)) ∧ ns.length ≤ 1000 ∧ Dq K H v d ∧ (∃ n, fits n d) ∧ (isIx (m : Int) d = false ∨ ∃ n, d = .int n ∧ n ∈ ns)
def spCheckedBad (K : PySem.W.Frag) (C CI : Addr) : Sp := fun vs H _ E => ∃ x a p ds v L, vs = [.ref x, .ref a] ∧ Smp K L H x C p ds ∧ Rws p ds ∧ BadIdx K H a ds.length v ∧ ErrE CI "index" v H E
theorem ok_ScheckedBad {f : Addr} {fd : FuncData} (F : Fun K "_checked" "Sample._checked" s_Sample_checked f fd) (T : TxF mg) (S : SmpC K C) (R3 : ErrC P w K mg base "BadIndex" CI "index") (D_is_index_below : DefAt P w K mg base "is_index_below" 2 ["thing", "many"] (spBp K isIx)) : FnOk P w K mg base (L2.CX P w) 3 f fd ["self", "indexes"] (spCheckedBad K C CI) := by
  refine F.okX sc_Sample_checked (fun vs H Q E h => ?_) (fun cdv A outer s H vs Q E hr h => ?_)
  · obtain ⟨_, _, _, _, _, _, rfl, _⟩ := h
    rfl
  · obtain ⟨x, a, p, ds, v, L, rfl, hS, hR, ⟨ns, dv, rest, hI, hnd, hin, hlen, hv, hw, hbad⟩, k⟩ := h
    refine ⟨_, (pss_cons (ps_set (i := 2) sc_Sample_checked.nd rfl (by first | exact Or.inl rfl | exact Or.inr rfl) (pe_lst pa_nil))
    (pss_cons (ps_for (passes_of rfl) rfl (pi_seq (pv 1)) (pg_name (i := 3) sc_Sample_checked.nd rfl (by first | exact Or.inl rfl | exact Or.inr rfl))
      (pss_cons (ps_if (PW.pt (pw_or (pt_not (pt_val (pe_callD D_is_index_below (by first | exact hr | exact hr.mono (by decide) | exact hr.mono (by omega)) (by rfl) (pa_cons (pv 3) (pa_cons (pe_callB call_len_seq (by rfl) T.m_len (by decide +kernel) (pa_cons (pe_fld (pv 0) rfl) pa_nil)) pa_nil))))) (pw_or1 (pt_cmpR op_in_seq (pv 3) (pv 2) (by rfl))))) (pss_one (ps_raise rfl (takes_of rfl rfl rfl rfl) (pmk_err R3 (hr.mono (by decide)) (by rfl) (pv 3)))) pss_nil)
      (pss_one (ps_expr (pe_bm PySem.F.plainAttrs_list PySem.F.slot_list_append PySem.F.type_list_append mt_append (pv 2) (pa_cons (pv 3) pa_nil))))))
    (pss_one (ps_ret (pv 2))))), ?_⟩
    obtain ⟨dx, t, xs, hx, hT, hA, _⟩ := hS.inv
    have lxs := dpa_len hA
    refine Evl.q_asgL (xs := []) (Evl.el_lst Evl.ea_nil (by decide)) fun l H1 hl e1 hl1 => ?_
    let Pv : Nat → L2.St → Hp → Prop := fun i σ' H' => i ≤ ns.length ∧ Ex H H' ∧ H' l = some (.lst ((ns.take i).map V.int)) ∧ ∃ s3, σ' = [some (.ref x), some (.ref a), some (.ref l), s3]
    have turn : ∀ (i : Nat) (y : V) (σ' : L2.St) (H3 H4 : Hp) (D : Ends) (tr : TS), (∀ σ H D, tMkO CI (spErrI CI "index") [] (tCons (tVar 3) tNil) σ H (fun cls d H2 => E cls d H2) → tr D σ H) → i < (ns.map V.int ++ v :: rest).length → Pv i σ' H3 → YAt (ns.map V.int ++ v :: rest) i H3 y H4 → gName 3 y σ' H4 fun σ2 H5 =>
        tSeq (tIfS (tOr (tNot (tB (tCallD (spBp K isIx) (tCons (tVar 3) (tCons (tCB (fun xs H Q => ∃ p ys, xs = [V.ref p] ∧ (SqL K H p ys ∨ SqT K H p ys) ∧ Q (.int ys.length) H) (tCons (tFld K (tVar 0) "_pairs") tNil)) tNil))))) (tTest (tOp (rIn K false) (tVar 3) (tVar 2)))) tr tNext)
          (tDrop (tBM K "list" rAppend (tVar 2) (tCons (tVar 3) tNil))) { D with nx := Pv (i + 1), ct := Pv (i + 1), bk := D.nx } σ2 H5 := by
      intro i y σ' H3 H4 D tr htr hi pv yp
      obtain ⟨hii, e3, hl3, s3, rfl⟩ := pv
      obtain ⟨rfl, hy⟩ := yp
      have w3 : Evl.Ev (tVar 3) [some (.ref x), some (.ref a), some (.ref l), some y] H4 y := Evl.ev_var rfl
      have wl : Evl.Ev (tVar 2) [some (.ref x), some (.ref a), some (.ref l), some y] H4 (.ref l) := Evl.ev_var rfl
      have ln : Evl.Ev (tCB (fun xs H Q => ∃ p ys, xs = [V.ref p] ∧ (SqL K H p ys ∨ SqT K H p ys) ∧ Q (.int ys.length) H) (tCons (tFld K (tVar 0) "_pairs") tNil)) [some (.ref x), some (.ref a), some (.ref l), some y] H4 (.int (xs.length : Nat)) := ev_lenS (a := t) (xs := xs) (ev_fld (Evl.ev_var rfl) (e3 x _ hx) S.cl S.nQ rfl) (.inr (Evl.ex_t e3 hT))
      rcases Nat.lt_or_ge i ns.length with q | q
      · rw [List.getElem?_append_left (by rw [List.length_map]; exact q), List.getElem?_map, List.getElem?_eq_getElem q] at hy
        have ey : y = .int ns[i] := (Option.some.inj hy).symm
        subst ey
        have hmem : ns[i] ∈ ns := List.getElem_mem q
        obtain ⟨b0, b1⟩ := hin _ hmem
        have hnot : ns[i] ∉ ns.take i := fun z => by
          obtain ⟨j, hj, ej⟩ := List.getElem_of_mem z
          rw [List.length_take] at hj
          rw [List.getElem_take] at ej
          have q2 := List.pairwise_iff_getElem.mp hnd j i (by omega) q (by omega)
          exact q2 ej
        have ok : isIx ((xs.length : Nat) : Int) (.int ns[i]) = true := by
          show (decide (0 ≤ ns[i]) && decide (ns[i] < ((xs.length : Nat) : Int))) = true
          rw [decide_eq_true b0, decide_eq_true (show ns[i] < ((xs.length : Nat) : Int) by rw [lxs]; exact b1)]
          rfl
        refine Evl.q_when (b := false) (Evl.et_is (Evl.et_or (b := false) (Evl.et_is (Evl.et_not (Evl.et_B (ev_spBpq w3 ln (.int _) ⟨1, trivial⟩))) (by rw [ok]; try rfl)) fun _ => Evl.et_is (Evl.et_test (Evl.ev_op w3 wl (Evl.rv_isL (SqL.of hl3) rfl (flat_ints _)))) ?_) rfl) (fun z => by cases z) (fun _ H6 e6 => ?_)
        · rw [inV_int]
          exact decide_eq_false hnot
        · refine Evl.s_app (e6 l _ hl3) (wl.mono e6) (w3.mono e6) (by rw [List.length_map, List.length_take]; omega) fun H7 e7 => ?_
          refine ⟨q, Evl.Ex.mut ((e3.trans e6).trans e7) hl, ?_, _, rfl⟩
          have et : ns.take (i + 1) = ns.take i ++ [ns[i]] := by
            rw [List.take_add_one, List.getElem?_eq_getElem q]
            rfl
          rw [upd_same, et, List.map_append]
          rfl
      · have ei : i = ns.length := by omega
        subst ei
        rw [List.getElem?_append_right (by rw [List.length_map]; exact Nat.le_refl _), List.length_map, Nat.sub_self] at hy
        have ey : y = v := (Option.some.inj hy).symm
        subst ey
        rw [List.take_length] at hl3
        have fin : ∀ H6, Ex H4 H6 → tr { D with nx := tDrop (tBM K "list" rAppend (tVar 2) (tCons (tVar 3) tNil)) { D with nx := Pv (ns.length + 1), ct := Pv (ns.length + 1), bk := D.nx }, ct := Pv (ns.length + 1), bk := D.nx } [some (.ref x), some (.ref a), some (.ref l), some y] H6 := fun H6 e6 => htr _ _ _ (mk_err_run (Evl.ev_var rfl) fun d H7 hd e7 hx7 => k d H7 (Evl.fresh_back (e3.trans e6) hd) ((e3.trans e6).trans e7) hx7)
        refine Evl.q_when (b := true) (Evl.et_is (Evl.et_or (a := !isIx ((xs.length : Nat) : Int) dv) (b := true) (Evl.et_not (Evl.et_B (ev_spBpq w3 ln (hv.up e3) hw))) fun z => ?_) (Bool.or_true _)) (fun _ H6 e6 => fin H6 e6) (fun z => nomatch z)
        rcases hbad with hb | ⟨n, rfl, hn⟩
        · rw [lxs, hb] at z
          cases z
        · cases hv
          exact Evl.et_is (Evl.et_test (Evl.ev_op w3 wl (Evl.rv_isL (SqL.of hl3) rfl (flat_ints _)))) (by rw [inV_int]; exact decide_eq_true hn)
    have lall : (ns.map V.int ++ v :: rest).length = ns.length + (rest.length + 1) := by rw [List.length_append, List.length_map]; rfl
    refine ⟨_, rfl, a, rfl, ?_⟩
    have p0 : Pv 0 [some (.ref x), some (.ref a), some (.ref l), none] H1 := ⟨Nat.zero_le _, e1, hl1, none, rfl⟩
    rcases hI with hI | hI
    · exact .inl ⟨⟨_, Evl.ex_l e1 hI⟩, for_it (walk_list (xs := ns.map V.int ++ v :: rest)) Pv p0 (fun i σ' H3 _ pv => Evl.ex_l pv.2.1 hI) (fun i y σ' H3 H4 hi pv yp => turn i y σ' H3 H4 _ _ (fun _ _ _ h => h) hi pv yp) (fun σ' H3 pv => absurd pv.1 (by omega))⟩
    · exact .inr ⟨⟨_, Evl.ex_t e1 hI⟩, for_it (walk_tup (xs := ns.map V.int ++ v :: rest)) Pv p0 (fun i σ' H3 _ pv => Evl.ex_t pv.2.1 hI) (fun i y σ' H3 H4 hi pv yp => turn i y σ' H3 H4 _ _ (fun _ _ _ h => h) hi pv yp) (fun σ' H3 pv => absurd pv.1 (by omega))⟩
theorem ok_SpartBad {f : Addr} {fd : FuncData} (F : Fun K "part" "Sample.part" s_Sample_part f fd) (T : TxF mg) (S : SmpC K C) (M_checkedX : MetX P w K mg base 3 C "_checked" (spCheckedBad K C CI) []) (N_Sample : Mak P w K mg base 5 "Sample" C (spInitM K C) []) : FnOk P w K mg base (L2.CX P w) 7 f fd ["self", "indexes"] (spCheckedBad K C CI) := by
  refine F.okX sc_Sample_part (fun vs H Q E h => ?_) (fun cdv A outer s H vs Q E hr h => ?_)
  · obtain ⟨_, _, _, _, _, _, rfl, _⟩ := h
    rfl
  · obtain ⟨x, a, p, ds, v, L, rfl, hS, hR, hb, k⟩ := h
    refine ⟨_, (pss_cons (ps_set (i := 2) sc_Sample_part.nd rfl (by first | exact Or.inl rfl | exact Or.inr rfl) (pe_mtX M_checkedX hr (by decide) (Passes.of (takes_of rfl rfl rfl rfl)) (pv 0) (pa_cons (pv 1) pa_nil)))
    (pss_one (ps_ret (pe_mk N_Sample hr (by decide) (by rfl) (pa_cons (pe_fld (pv 0) rfl) (pa_cons (pe_lc (own := [("index", 3), ("pair", 4)]) (g := gTup K 2 (gCons (gName 3) (gCons (gName 4) (gNil)))) (tt := tTest (tOp (rIn K false) (tVar 3) (tVar 2))) (by rfl) sc_Sample_part.nd (pi_enumA (by rfl) T.m_enumerate (pa_cons (pe_fld (pv 0) rfl) pa_nil)) (blkOk_by (N := sc_Sample_part_N) (sc := defScope s_Sample_part) (by decide +kernel)) (fun _ _ _ _ _ => (pg_tup (by rfl) (pgs_cons (pg_name (i := 3) sc_Sample_part.nd rfl (by first | exact Or.inl rfl | exact Or.inr rfl)) (pgs_cons (pg_name (i := 4) sc_Sample_part.nd rfl (by first | exact Or.inl rfl | exact Or.inr rfl)) pgs_nil)))) (fun _ _ _ _ _ => pts_one (pt_cmpR op_in_seq (pv 3) (pv 2) (by rfl))) (fun _ _ _ _ _ => (pv 4))) pa_nil)))))), ?_⟩
    obtain ⟨dx, t, xs, hx, hT, hA, _⟩ := hS.inv
    exact ⟨_, rfl, x, dx, _, rfl, hx, rfl, _, rfl, x, a, p, ds, v, L, rfl, hS, hR, hb, k⟩
theorem ok_SwithoutBad {f : Addr} {fd : FuncData} (F : Fun K "without" "Sample.without" s_Sample_without f fd) (T : TxF mg) (S : SmpC K C) (M_checkedX : MetX P w K mg base 3 C "_checked" (spCheckedBad K C CI) []) (N_Sample : Mak P w K mg base 5 "Sample" C (spInitM K C) []) : FnOk P w K mg base (L2.CX P w) 7 f fd ["self", "indexes"] (spCheckedBad K C CI) := by
  refine F.okX sc_Sample_without (fun vs H Q E h => ?_) (fun cdv A outer s H vs Q E hr h => ?_)
  · obtain ⟨_, _, _, _, _, _, rfl, _⟩ := h
    rfl
  · obtain ⟨x, a, p, ds, v, L, rfl, hS, hR, hb, k⟩ := h
    refine ⟨_, (pss_cons (ps_set (i := 2) sc_Sample_without.nd rfl (by first | exact Or.inl rfl | exact Or.inr rfl) (pe_mtX M_checkedX hr (by decide) (Passes.of (takes_of rfl rfl rfl rfl)) (pv 0) (pa_cons (pv 1) pa_nil)))
    (pss_one (ps_ret (pe_mk N_Sample hr (by decide) (by rfl) (pa_cons (pe_fld (pv 0) rfl) (pa_cons (pe_lc (own := [("index", 3), ("pair", 4)]) (g := gTup K 2 (gCons (gName 3) (gCons (gName 4) (gNil)))) (tt := tTest (tOp (rIn K true) (tVar 3) (tVar 2))) (by rfl) sc_Sample_without.nd (pi_enumA (by rfl) T.m_enumerate (pa_cons (pe_fld (pv 0) rfl) pa_nil)) (blkOk_by (N := sc_Sample_without_N) (sc := defScope s_Sample_without) (by decide +kernel)) (fun _ _ _ _ _ => (pg_tup (by rfl) (pgs_cons (pg_name (i := 3) sc_Sample_without.nd rfl (by first | exact Or.inl rfl | exact Or.inr rfl)) (pgs_cons (pg_name (i := 4) sc_Sample_without.nd rfl (by first | exact Or.inl rfl | exact Or.inr rfl)) pgs_nil)))) (fun _ _ _ _ _ => pts_one (pt_cmpR op_notIn_seq (pv 3) (pv 2) (by rfl))) (fun _ _ _ _ _ => (pv 4))) pa_nil)))))), ?_⟩
    obtain ⟨dx, t, xs, hx, hT, hA, _⟩ := hS.inv
    exact ⟨_, rfl, x, dx, _, rfl, hx, rfl, _, rfl, x, a, p, ds, v, L, rfl, hS, hR, hb, k⟩
end
def spPartX (K : PySem.W.Frag) (C CI : Addr) (c : List Int → Nat → Bool) : Sp := fun vs H Q E => spPart K C c vs H Q E ∨ spCheckedBad K C CI vs H Q E
end U

set_option Elab.async false
set_option linter.all false
set_option maxRecDepth 100000
set_option maxHeartbeats 4000000
/-! what is no point, what is no example -/
namespace U
open PySem PySem.Spec PyProof.Rows L2
open Evl (Ex)
abbrev s_odd_point : Stmt := top 28
abbrev sc_odd_point_N : List Str := ["_law_draws", "_law_places", "_law_right", "_law_odd"]
theorem sc_odd_point : FnScope sc_odd_point_N ["_law_draws", "_law_places"] (defScope s_odd_point) := ⟨rfl, rfl, rfl, by decide +kernel, rfl, by decide +kernel, by decide +kernel⟩
abbrev s_odd_example : Stmt := top 29
abbrev sc_odd_example_N : List Str := ["_law_draws", "_law_places", "_law_right", "_law_odd"]
theorem sc_odd_example : FnScope sc_odd_example_N ["_law_draws", "_law_places"] (defScope s_odd_example) := ⟨rfl, rfl, rfl, by decide +kernel, rfl, by decide +kernel, by decide +kernel⟩
section
variable {K : PySem.W.Frag} {L : List Addr} {σ : L2.St} {H : Hp} {te tb : TE} {ds es : List PyData} {l : Addr} {n j : Nat} {v : V} {d : PyData} {p : Int}
theorem evq_dnew (hL : Hid L H) : EvQ K L tDNewK σ H (.dict []) := fun H1 e Q q p hp => q (.ref p) _ (Ex.new hp) (.dct (w_new (hid_ex e hL) hp))
theorem evq_catA (h : EvQ K L te σ H (.tuple ds)) (h2 : EvQ K L tb σ H (.tuple es)) (hL : Hid L H) (hz : ds.length + es.length ≤ 100000) : EvQ K L (tOp (rCatA K) te tb) σ H (.tuple (ds ++ es)) := fun H1 e1 Q q =>
  h H1 e1 _ fun v H2 e2 hv => h2 H2 (e1.trans e2) _ fun u H3 e3 hu => by
    have hv3 := hv.up (w_ex e3)
    have hv' := hv3
    have hu' := hu
    cases hv3 with
    | @tup a xs _ ha hxs =>
      cases hu with
      | @tup b ys _ hb hys =>
        have l1 := dqa_len hxs
        have l2 := dqa_len hys
        refine ⟨a, b, xs, ys, rfl, rfl, Evl.ex_t w_sub ha, Evl.ex_t w_sub hb, Evl.sz_of (by omega), fun z => ?_, fun _ z => ?_, fun _ _ r hr => ?_⟩
        · have : ds = [] := List.length_eq_zero_iff.mp (by rw [← l1, z]; rfl)
          subst this
          exact q _ H3 (e2.trans e3) hu'
        · have : es = [] := List.length_eq_zero_iff.mp (by rw [← l2, z]; rfl)
          subst this
          rw [List.append_nil] at *
          exact q _ H3 (e2.trans e3) hv'
        · refine q _ _ ((e2.trans e3).trans (Ex.new hr)) (.tup (SqT.of (w_new (hid_ex ((e1.trans e2).trans e3) hL) hr)) ?_)
          exact (dqa_app hxs hys).up (w_ex (Ex.new hr))
theorem dqa_drop {H : Hp} : ∀ {vs : List V} {ds : List PyData} (k : Nat), DqAll K H vs ds → DqAll K H (vs.drop k) (ds.drop k)
  | _, _, 0, h => h
  | _, _, _ + 1, .nil => .nil
  | _, _, k + 1, .cons _ t => dqa_drop k t
theorem dqa_take {H : Hp} : ∀ {vs : List V} {ds : List PyData} (k : Nat), DqAll K H vs ds → DqAll K H (vs.take k) (ds.take k)
  | _, _, 0, _ => .nil
  | _, _, _ + 1, .nil => .nil
  | _, _, k + 1, .cons r t => .cons r (dqa_take k t)
/-- t[1:] -/
theorem evq_tail (h : EvQ K L te σ H (.tuple ds)) (hL : Hid L H) : EvQ K L (tSl (rSlA K) te (tPart (tC (.int 1))) tNoPart) σ H (.tuple (ds.drop 1)) := fun H1 e1 Q q =>
  h H1 e1 _ fun v H2 e2 hv => by
    have hv' := hv
    cases hv with
    | @tup a xs _ ha hxs =>
      have l1 := dqa_len hxs
      refine ⟨1, rfl, a, xs, rfl, Evl.ex_t w_sub ha, fun z => ?_, fun z r hr => ?_⟩
      · have z0 : xs.length = 0 := by
          have z1 := z.1
          rw [show (some (1 : Int)) = some ((1 : Nat) : Int) from rfl, HT.sIx_nat] at z1
          omega
        have : ds = [] := List.length_eq_zero_iff.mp (by rw [← l1, z0])
        subst this
        exact q _ H2 e2 hv'
      · have ec : cutV xs (some 1) none = xs.drop 1 := by
          unfold cutV
          rw [show (some (1 : Int)) = some ((1 : Nat) : Int) from rfl, HT.sIx_nat, HT.sIx_none]
          by_cases z0 : xs.length = 0
          · rw [List.length_eq_zero_iff.mp z0]; simp
          · rw [Nat.min_eq_left (by omega)]
            exact List.take_of_length_le (by rw [List.length_drop]; omega)
        rw [ec]
        exact q _ _ (e2.trans (Ex.new hr)) (.tup (SqT.of (w_new (hid_ex (e1.trans e2) hL) hr)) ((dqa_drop 1 hxs).up (w_ex (Ex.new hr))))
/-- t[:-1] -/
theorem evq_init (h : EvQ K L te σ H (.tuple ds)) (hL : Hid L H) : EvQ K L (tSl (rSlA K) te tNoPart (tPart (tUn (rU fun i => .int (-i)) (tC (.int 1))))) σ H (.tuple (ds.take (ds.length - 1))) := fun H1 e1 Q q =>
  h H1 e1 _ fun v H2 e2 hv => by
    have hv' := hv
    cases hv with
    | @tup a xs _ ha hxs =>
      have l1 := dqa_len hxs
      have si : HT.sIx xs.length xs.length (some (-1)) = xs.length - 1 := by
        simp only [HT.sIx]
        rw [if_pos (by decide)]
        omega
      refine ⟨1, rfl, -1, rfl, a, xs, rfl, Evl.ex_t w_sub ha, fun z => ?_, fun z r hr => ?_⟩
      · have z0 : xs.length = 0 := by
          have z1 := z.2
          rw [si] at z1
          omega
        have : ds = [] := List.length_eq_zero_iff.mp (by rw [← l1, z0])
        subst this
        exact q _ H2 e2 hv'
      · have ec : cutV xs none (some (-1)) = xs.take (xs.length - 1) := by
          unfold cutV
          rw [HT.sIx_none, si]
          simp
        rw [ec, l1]
        exact q _ _ (e2.trans (Ex.new hr)) (.tup (SqT.of (w_new (hid_ex (e1.trans e2) hL) hr)) ((dqa_take _ hxs).up (w_ex (Ex.new hr))))
/-- a drawn one of odd data -/
theorem pickq_run {Q : VK} (h0 : σ[j]? = some (some (.ref l))) (hd : Dr n H l) (hn : n < 1000000) (hl : l ∈ L) (h : EvQ K L te σ H (.list ds)) (h1 : 0 < ds.length) (h2 : ds.length < 1000000)
    (k : ∀ v d H', d ∈ ds → ExB l H H' → Dr (n + 1) H' l → Dq K (W L H') v d → Q v H') : tCallD (spPickV K) (tCons (tVar j) (tCons te tNil)) σ H Q :=
  ⟨_, h0, h H (Ex.refl H) _ fun t H1 e1 ht => by
    cases ht with
    | @lst t xs _ hs ha =>
      have l1 := dqa_len ha
      refine ⟨l, t, xs, n, L, rfl, hd.ex e1, hn, hl, hs, by omega, by omega, fun v o hv hd' => ?_⟩
      obtain ⟨i, hi, rfl⟩ := List.getElem_of_mem hv
      obtain ⟨d, hd1, hd2⟩ := dqa_get ha (List.getElem?_eq_getElem hi)
      exact k _ d _ (List.mem_of_getElem? hd1) ((ExB.of e1).trans ExB.upd) hd' (by rw [w_upd_in hl]; exact hd2)⟩
theorem isP_len (h : (ds.length : Int) ≠ p) : isP p (.tuple ds) = false := by
  show (decide _ && _) = false
  rw [decide_eq_false h]
  rfl
theorem isP_el (h : ds.all isI = false) : isP p (.tuple ds) = false ∧ isP p (.list ds) = false := by
  have e : (decide ((ds.length : Int) = p) && ds.all isI) = false := by rw [h, Bool.and_false]
  exact ⟨e, e⟩
theorem all_app (h : es.all isI = false) : (ds ++ es).all isI = false := by rw [List.all_append, h, Bool.and_false]
theorem fits_seq {n : Nat} (h : ∀ d ∈ ds, fits n d) (hz : ds.length ≤ 40000) : fits (n + 1) (.tuple ds) ∧ fits (n + 1) (.list ds) := ⟨⟨hz, h⟩, ⟨hz, h⟩⟩
end
section
variable {P : Program} {w : World} {K : PySem.W.Frag} {mg : Str → Option Value} {base : Heap}
/-- something of which g says no -/
def spOdd (K : PySem.W.Frag) (g : Int → PyData → Bool) : Sp := fun vs H Q _ => ∃ (l : Addr) (p : Int) (n : Nat) (L : List Addr), vs = [.ref l, .int p] ∧ Dr n H l ∧ n < 700000 ∧ l ∈ L ∧ Hid L H ∧ 1 ≤ p ∧ p ≤ 3 ∧ ∀ v d H', ExB l H H' → Dr (n + 20) H' l → Dq K (W L H') v d → g p d = false → fits 5 d → Q v H'
def spOdd2 (K : PySem.W.Frag) (g : Int → PyData → Bool) : Sp := fun vs H Q _ => ∃ (l : Addr) (p : Int) (n : Nat) (L : List Addr), vs = [.ref l, .int p] ∧ Dr n H l ∧ n < 600000 ∧ l ∈ L ∧ Hid L H ∧ 1 ≤ p ∧ p ≤ 3 ∧ ∀ v d H', ExB l H H' → Dr (n + 40) H' l → Dq K (W L H') v d → g p d = false → fits 6 d → Q v H'
theorem exB_newO {H0 H' H2 : Hp} {a : Addr} {o : HO} (hn : H0 a = none) (e : Ex H0 H') (e2 : Ex H' H2) : Ex H0 (upd H2 a o) := (e.trans e2).mut hn
def oddP1 (R : List PyData) : List PyData := [.none, .int 5, .str "ab", .tuple [], .dict [], .tuple (R ++ [.int 0]), .tuple (R.drop 1), .tuple (R.take (R.length - 1) ++ [.bool true]), .tuple (R.take (R.length - 1) ++ [.str "1"])]
def oddP2 (R : List PyData) : List PyData := [.tuple (R.take (R.length - 1) ++ [.none]), .list [.tuple R], .tuple (R.take (R.length - 1) ++ [.tuple [.int 0]]), .list [.list R, .bool true], .bool true]
theorem oddP_ok {p : Int} {ns : List Int} (hn : (ns.length : Int) = p) (p1 : 1 ≤ p) (p3 : p ≤ 3) : ∀ d ∈ oddP1 (ns.map .int) ++ oddP2 (ns.map .int), isP p d = false ∧ fits 4 d := by
  have hl : (ns.map PyData.int).length = ns.length := List.length_map _
  have fi : ∀ d ∈ ns.map PyData.int, fits 1 d := fun d hd => by
    obtain ⟨i, _, rfl⟩ := List.mem_map.mp hd
    trivial
  have fR : fits 2 (.tuple (ns.map .int)) ∧ fits 2 (.list (ns.map .int)) := fits_seq fi (by rw [hl]; omega)
  have fa : ∀ {es : List PyData} {e : PyData}, (∀ d ∈ es, d ∈ ns.map PyData.int) → es.length ≤ 3 → fits 3 e → fits 4 (.tuple (es ++ [e])) := fun {es e} h hz he => (fits_seq (n := 3) (fun d hd => by
    rcases List.mem_append.mp hd with hd | hd
    · exact fits_up (by decide) (fi d (h d hd))
    · rw [List.mem_singleton.mp hd]; exact he) (by rw [List.length_append]; show es.length + 1 ≤ 40000; omega)).1
  have tk : ∀ d ∈ (ns.map PyData.int).take ((ns.map PyData.int).length - 1), d ∈ ns.map PyData.int := fun d hd => List.mem_of_mem_take hd
  have tl : ((ns.map PyData.int).take ((ns.map PyData.int).length - 1)).length ≤ 3 := by rw [List.length_take, hl]; omega
  intro d hd
  unfold oddP1 oddP2 at hd
  simp only [List.cons_append, List.nil_append, List.mem_cons, List.not_mem_nil, or_false] at hd
  rcases hd with rfl | rfl | rfl | rfl | rfl | rfl | rfl | rfl | rfl | rfl | rfl | rfl | rfl | rfl
  · exact ⟨rfl, trivial⟩
  · exact ⟨rfl, trivial⟩
  · exact ⟨rfl, trivial⟩
  · exact ⟨isP_len (by show ((0 : Nat) : Int) ≠ p; omega), Nat.zero_le _, fun _ h => nomatch h⟩
  · exact ⟨rfl, rfl⟩
  · exact ⟨isP_len (by rw [List.length_append, hl]; show ((ns.length + 1 : Nat) : Int) ≠ p; omega), fa (fun _ h => h) (by rw [hl]; omega) trivial⟩
  · exact ⟨isP_len (by rw [List.length_drop, hl]; omega), (fits_seq (n := 3) (fun d hd => fits_up (by decide) (fi d (List.mem_of_mem_drop hd))) (by rw [List.length_drop, hl]; omega)).1⟩
  · exact ⟨(isP_el (all_app rfl)).1, fa tk tl trivial⟩
  · exact ⟨(isP_el (all_app rfl)).1, fa tk tl trivial⟩
  · exact ⟨(isP_el (all_app rfl)).1, fa tk tl trivial⟩
  · exact ⟨(isP_el rfl).2, (fits_seq (n := 3) (fun d hd => by rw [List.mem_singleton.mp hd]; exact fits_up (by decide) fR.1) (by show 1 ≤ 40000; omega)).2⟩
  · exact ⟨(isP_el (all_app rfl)).1, fa tk tl (fits_seq (n := 2) (fun d hd => by rw [List.mem_singleton.mp hd]; trivial) (by show 1 ≤ 40000; omega)).1⟩
  · exact ⟨(isP_el rfl).2, (fits_seq (n := 3) (fun d hd => by
      simp only [List.mem_cons, List.not_mem_nil, or_false] at hd
      rcases hd with rfl | rfl
      · exact fits_up (by decide) fR.2
      · trivial) (by show 2 ≤ 40000; omega)).2⟩
  · exact ⟨rfl, trivial⟩
theorem ok_odd_point {f : Addr} {fd : FuncData} (F : Fun K "_law_odd_point" "_law_odd_point" s_odd_point f fd) (T : TxF mg) (D_pick : DefAt P w K mg base "_law_pick" 2 ["_law_draws", "_law_things"] (spPickV K)) (D_point : DefAt P w K mg base "_law_point" 2 ["_law_draws", "_law_places", "_law_wide"] (spPoint K)) : FnOk P w K mg base CX0 3 f fd ["_law_draws", "_law_places"] (spOdd K isP) := by
  refine F.ok sc_odd_point (fun vs H Q E h => ?_) (fun cdv A outer s H vs Q E hr h => ?_)
  · obtain ⟨_, _, _, _, rfl, _⟩ := h
    rfl
  · obtain ⟨l, p, n, L, rfl, hd, hn, hl, hL, p1, p3, k⟩ := h
    refine ⟨_, (pss_cons (ps_set (i := 2) sc_odd_point.nd rfl (by first | exact Or.inl rfl | exact Or.inr rfl) (pe_callD D_point (by first | exact hr | exact hr.mono (by decide) | exact hr.mono (by omega)) (by rfl) (pa_cons (pv 0) (pa_cons (pv 1) (pa_cons pe_int pa_nil)))))
    (pss_cons (ps_set (i := 3) sc_odd_point.nd rfl (by first | exact Or.inl rfl | exact Or.inr rfl) (pe_lst (pa_cons pe_non (pa_cons pe_int (pa_cons pe_str (pa_cons (pe_tup pa_nil) (pa_cons (pe_dnewK) (pa_cons (pe_op op_catA (pv 2) (pe_tup (pa_cons pe_int pa_nil))) (pa_cons (pe_slice sl_tupA (pv 2) (po_some pe_int) po_none) (pa_cons (pe_op op_catA (pe_slice sl_tupA (pv 2) po_none (po_some (pe_un un_neg pe_int))) (pe_tup (pa_cons pe_bl pa_nil))) (pa_cons (pe_op op_catA (pe_slice sl_tupA (pv 2) po_none (po_some (pe_un un_neg pe_int))) (pe_tup (pa_cons pe_str pa_nil))) pa_nil)))))))))))
    (pss_one (ps_ret (pe_callD D_pick (by first | exact hr | exact hr.mono (by decide) | exact hr.mono (by omega)) (by rfl) (pa_cons (pv 0) (pa_cons (pe_op op_cat (pv 3) (pe_lst (pa_cons (pe_op op_catA (pe_slice sl_tupA (pv 2) po_none (po_some (pe_un un_neg pe_int))) (pe_tup (pa_cons pe_non pa_nil))) (pa_cons (pe_lst (pa_cons (pv 2) pa_nil)) (pa_cons (pe_op op_catA (pe_slice sl_tupA (pv 2) po_none (po_some (pe_un un_neg pe_int))) (pe_tup (pa_cons (pe_tup (pa_cons pe_int pa_nil)) pa_nil))) (pa_cons (pe_lst (pa_cons (pe_callTy call_list_of (by rfl) T.m_list (by decide +kernel) (pa_cons (pv 2) pa_nil)) (pa_cons pe_bl pa_nil))) (pa_cons pe_bl pa_nil))))))) pa_nil))))))), ?_⟩
    refine ⟨_, rfl, _, rfl, l, p, 9, n, L, rfl, hd, by omega, hl, hL, p1, p3, by decide, by decide, fun v ns H1 e1 d1 hns _ hv => ?_⟩
    have hL1 : Hid L H1 := e1.hid d1.ne hL
    have hR : ∀ {H2 : Hp} {LL : List Addr} {σ : L2.St}, σ[2]? = some (some v) → Ex (W L H1) (W LL H2) → EvQ K LL (tVar 2) σ H2 (.tuple (ns.map .int)) := fun h2 e => evq_of (Evl.ev_var h2) (Dp.q (hv.up e))
    have cut : ∀ {H2 : Hp} {LL : List Addr} {σ : L2.St} {te : TE} {x : PyData}, σ[2]? = some (some v) → Ex (W L H1) (W LL H2) → Hid LL H2 → EvQ K LL te σ H2 x → EvQ K LL (tOp (rCatA K) (tSl (rSlA K) (tVar 2) tNoPart (tPart (tUn (rU fun i => .int (-i)) (tC (.int 1))))) (tTup (tCons te tNil))) σ H2 (.tuple ((ns.map .int).take ((ns.map PyData.int).length - 1) ++ [x])) := fun h2 e h3 hx =>
      evq_catA (evq_init (hR h2 e) h3) (evq_tup h3 (evqs_cons hx evqs_nil) (by simp)) h3 (by rw [List.length_take, List.length_map]; show _ + 1 ≤ 100000; omega)
    refine qq_lst (ds := oddP1 (ns.map .int)) hL1 (evqs_cons evq_non (evqs_cons evq_int (evqs_cons evq_str (evqs_cons (evq_tup hL1 evqs_nil (by simp)) (evqs_cons (evq_dnew hL1) (evqs_cons (evq_catA (hR rfl (Ex.refl _)) (evq_tup hL1 (evqs_cons evq_int evqs_nil) (by simp)) hL1 (by rw [List.length_map]; show _ + 1 ≤ 100000; omega)) (evqs_cons (evq_tail (hR rfl (Ex.refl _)) hL1)
      (evqs_cons (cut rfl (Ex.refl _) hL1 evq_bl) (evqs_cons (cut rfl (Ex.refl _) hL1 evq_str) evqs_nil))))))))) (by show 9 ≤ 100000; omega) fun od H2 hod e2 god => ?_
    have d2 := d1.ex e2
    have hL2 : Hid L H2 := hid_ex e2 hL1
    have e12 : Ex (W L H1) (W L H2) := w_ex e2
    have ok := oddP_ok hns p1 p3
    refine pickq_run (K := K) (L := L) (n := n + 3) (ds := oddP1 (ns.map .int) ++ oddP2 (ns.map .int)) rfl d2 (by omega) hl (evq_cat hL2 god (Evl.ev_var (v := .ref od) rfl) (evqs_cons (cut rfl e12 hL2 evq_non) (evqs_cons (evq_lst hL2 (evqs_cons (hR rfl e12) evqs_nil) (by simp)) (evqs_cons (cut rfl e12 hL2 (evq_tup hL2 (evqs_cons evq_int evqs_nil) (by simp))) (evqs_cons (evq_lst hL2 (evqs_cons (egq_list (Evl.ev_var (v := v) rfl) (.inr (Dp.q (hv.up e12))) hL2).dat (evqs_cons evq_bl evqs_nil)) (by simp)) (evqs_cons evq_bl evqs_nil))))) (by show 9 + 5 ≤ 100000; omega)) (by show 0 < 14; decide) (by show 14 < 1000000; decide) fun v' d' H3 hm e3 d3 hv' => ?_
    exact k v' d' H3 ((e1.trans (ExB.of e2)).trans e3) (d3.up (by omega)) hv' (ok d' hm).1 (fits_up (by decide) (ok d' hm).2)
def oddX1 (R : List PyData) : List PyData := [.none, .int 5, .str "ab", .tuple [], .dict [], .tuple R, .tuple [.tuple R], .tuple [.tuple R, .bool true, .bool false], .tuple [.tuple R, .int 1], .tuple [.tuple R, .int 0], .tuple [.tuple R, .none]]
def oddX2 (R : List PyData) : List PyData := [.tuple [.tuple R, .str "yes"], .list [.bool true, .tuple R], .list [.list R, .list [.bool true]]]
theorem oddX_ok {p : Int} {ns : List Int} (hn : (ns.length : Int) = p) (p1 : 1 ≤ p) (p3 : p ≤ 3) : ∀ d ∈ oddX1 (ns.map .int) ++ oddX2 (ns.map .int), isX p d = false ∧ fits 4 d := by
  have hl : (ns.map PyData.int).length = ns.length := List.length_map _
  have fi : ∀ d ∈ ns.map PyData.int, fits 1 d := fun d hd => by
    obtain ⟨i, _, rfl⟩ := List.mem_map.mp hd
    trivial
  have fR : fits 2 (.tuple (ns.map .int)) ∧ fits 2 (.list (ns.map .int)) := fits_seq fi (by rw [hl]; omega)
  have f3 : ∀ {ds : List PyData}, (∀ d ∈ ds, fits 3 d) → ds.length ≤ 40000 → fits 4 (.tuple ds) ∧ fits 4 (.list ds) := fun h hz => fits_seq h hz
  have ft : fits 3 (.tuple (ns.map .int)) := fits_up (by decide) fR.1
  have two : ∀ {a b : PyData}, fits 3 a → fits 3 b → fits 4 (.tuple [a, b]) ∧ fits 4 (.list [a, b]) := fun {a b} ha hb => f3 (fun d hd => by
    simp only [List.mem_cons, List.not_mem_nil, or_false] at hd
    rcases hd with rfl | rfl
    · exact ha
    · exact hb) (by show 2 ≤ 40000; omega)
  intro d hd
  unfold oddX1 oddX2 at hd
  simp only [List.cons_append, List.nil_append, List.mem_cons, List.not_mem_nil, or_false] at hd
  rcases hd with rfl | rfl | rfl | rfl | rfl | rfl | rfl | rfl | rfl | rfl | rfl | rfl | rfl | rfl
  · exact ⟨rfl, trivial⟩
  · exact ⟨rfl, trivial⟩
  · exact ⟨rfl, trivial⟩
  · exact ⟨rfl, Nat.zero_le _, fun _ h => nomatch h⟩
  · exact ⟨rfl, rfl⟩
  · refine ⟨?_, fits_up (by decide) fR.1⟩
    match ns, hn with
    | [], _ => rfl
    | [_], _ => rfl
    | [_, _], _ => rfl
    | _ :: _ :: _ :: _, _ => rfl
  · exact ⟨rfl, (f3 (fun d hd => by rw [List.mem_singleton.mp hd]; exact ft) (by show 1 ≤ 40000; omega)).1⟩
  · exact ⟨rfl, (f3 (fun d hd => by
      simp only [List.mem_cons, List.not_mem_nil, or_false] at hd
      rcases hd with rfl | rfl | rfl
      · exact ft
      · trivial
      · trivial) (by show 3 ≤ 40000; omega)).1⟩
  · exact ⟨Bool.and_false _, (two (b := .int 1) ft trivial).1⟩
  · exact ⟨Bool.and_false _, (two (b := .int 0) ft trivial).1⟩
  · exact ⟨Bool.and_false _, (two (b := .none) ft trivial).1⟩
  · exact ⟨Bool.and_false _, (two (b := .str "yes") ft trivial).1⟩
  · exact ⟨rfl, (two (a := .bool true) trivial ft).2⟩
  · exact ⟨Bool.and_false _, (two (fits_up (by decide) fR.2) (fits_seq (n := 2) (fun d hd => by rw [List.mem_singleton.mp hd]; trivial) (by show 1 ≤ 40000; omega)).2).2⟩
theorem ok_odd_example {f : Addr} {fd : FuncData} (F : Fun K "_law_odd_example" "_law_odd_example" s_odd_example f fd) (T : TxF mg) (D_pick : DefAt P w K mg base "_law_pick" 2 ["_law_draws", "_law_things"] (spPickV K)) (D_point : DefAt P w K mg base "_law_point" 2 ["_law_draws", "_law_places", "_law_wide"] (spPoint K))
    (D_odd_point : DefAt P w K mg base "_law_odd_point" 3 ["_law_draws", "_law_places"] (spOdd K isP)) : FnOk P w K mg base CX0 4 f fd ["_law_draws", "_law_places"] (spOdd2 K isX) := by
  refine F.ok sc_odd_example (fun vs H Q E h => ?_) (fun cdv A outer s H vs Q E hr h => ?_)
  · obtain ⟨_, _, _, _, rfl, _⟩ := h
    rfl
  · obtain ⟨l, p, n, L, rfl, hd, hn, hl, hL, p1, p3, k⟩ := h
    refine ⟨_, (pss_cons (ps_set (i := 2) sc_odd_example.nd rfl (by first | exact Or.inl rfl | exact Or.inr rfl) (pe_callD D_point (by first | exact hr | exact hr.mono (by decide) | exact hr.mono (by omega)) (by rfl) (pa_cons (pv 0) (pa_cons (pv 1) (pa_cons pe_int pa_nil)))))
    (pss_cons (ps_set (i := 3) sc_odd_example.nd rfl (by first | exact Or.inl rfl | exact Or.inr rfl) (pe_lst (pa_cons pe_non (pa_cons pe_int (pa_cons pe_str (pa_cons (pe_tup pa_nil) (pa_cons (pe_dnewK) (pa_cons (pv 2) (pa_cons (pe_tup (pa_cons (pv 2) pa_nil)) (pa_cons (pe_tup (pa_cons (pv 2) (pa_cons pe_bl (pa_cons pe_bl pa_nil)))) (pa_cons (pe_tup (pa_cons (pv 2) (pa_cons pe_int pa_nil))) (pa_cons (pe_tup (pa_cons (pv 2) (pa_cons pe_int pa_nil))) (pa_cons (pe_tup (pa_cons (pv 2) (pa_cons pe_non pa_nil))) pa_nil)))))))))))))
    (pss_cons (ps_expr (pe_bm PySem.F.plainAttrs_list PySem.F.slot_list_extend PySem.F.type_list_extend mt_extend (pv 3) (pa_cons (pe_lst (pa_cons (pe_tup (pa_cons (pv 2) (pa_cons pe_str pa_nil))) (pa_cons (pe_lst (pa_cons pe_bl (pa_cons (pv 2) pa_nil))) (pa_cons (pe_lst (pa_cons (pe_callTy call_list_of (by rfl) T.m_list (by decide +kernel) (pa_cons (pv 2) pa_nil)) (pa_cons (pe_lst (pa_cons pe_bl pa_nil)) pa_nil))) pa_nil)))) pa_nil)))
    (pss_one (ps_ret (pe_callD D_pick (by first | exact hr | exact hr.mono (by decide) | exact hr.mono (by omega)) (by rfl) (pa_cons (pv 0) (pa_cons (pe_op op_cat (pv 3) (pe_lst (pa_cons (pe_tup (pa_cons (pe_callD D_odd_point (by first | exact hr | exact hr.mono (by decide) | exact hr.mono (by omega)) (by rfl) (pa_cons (pv 0) (pa_cons (pv 1) pa_nil))) (pa_cons pe_bl pa_nil))) pa_nil))) pa_nil)))))))), ?_⟩
    refine ⟨_, rfl, _, rfl, l, p, 9, n, L, rfl, hd, by omega, hl, hL, p1, p3, by decide, by decide, fun v ns H1 e1 d1 hns _ hv => ?_⟩
    have hL1 : Hid L H1 := e1.hid d1.ne hL
    have hR : ∀ {H2 : Hp} {LL : List Addr} {σ : L2.St}, σ[2]? = some (some v) → Ex (W L H1) (W LL H2) → EvQ K LL (tVar 2) σ H2 (.tuple (ns.map .int)) := fun h2 e => evq_of (Evl.ev_var h2) (Dp.q (hv.up e))
    have r1 : ∀ {H2 : Hp} {σ : L2.St}, σ[2]? = some (some v) → Ex (W L H1) (W L H2) → EvQ K L (tVar 2) σ H2 (.tuple (ns.map .int)) := fun h e => hR h e
    refine qq_lst (ds := oddX1 (ns.map .int)) hL1 (evqs_cons evq_non (evqs_cons evq_int (evqs_cons evq_str (evqs_cons (evq_tup hL1 evqs_nil (by simp)) (evqs_cons (evq_dnew hL1) (evqs_cons (r1 rfl (Ex.refl _)) (evqs_cons (evq_tup hL1 (evqs_cons (r1 rfl (Ex.refl _)) evqs_nil) (by simp)) (evqs_cons (evq_tup hL1 (evqs_cons (r1 rfl (Ex.refl _)) (evqs_cons evq_bl (evqs_cons evq_bl evqs_nil))) (by simp))
      (evqs_cons (evq_tup hL1 (evqs_cons (r1 rfl (Ex.refl _)) (evqs_cons evq_int evqs_nil)) (by simp)) (evqs_cons (evq_tup hL1 (evqs_cons (r1 rfl (Ex.refl _)) (evqs_cons evq_int evqs_nil)) (by simp)) (evqs_cons (evq_tup hL1 (evqs_cons (r1 rfl (Ex.refl _)) (evqs_cons evq_non evqs_nil)) (by simp)) evqs_nil))))))))))) (by show 11 ≤ 100000; omega) fun od H2 hod e2 god => ?_
    have d2 := d1.ex e2
    have hL2 : Hid L H2 := hid_ex e2 hL1
    have hod2 : Hid (od :: L) H2 := fun b m => by
      rcases List.mem_cons.mp m with z | m
      · rw [z]; exact god.ne
      · exact hL2 b m
    have e12 : Ex (W L H1) (W (od :: L) H2) := w_past hod e2
    refine qq_ext (es := oddX2 (ns.map .int)) god hL2 (Evl.ev_var (v := .ref od) rfl) (evqs_cons (evq_tup hod2 (evqs_cons (hR rfl e12) (evqs_cons evq_str evqs_nil)) (by simp)) (evqs_cons (evq_lst hod2 (evqs_cons evq_bl (evqs_cons (hR rfl e12) evqs_nil)) (by simp)) (evqs_cons (evq_lst hod2 (evqs_cons (egq_list (Evl.ev_var (v := v) rfl) (.inr (Dp.q (hv.up e12))) hod2).dat (evqs_cons (evq_lst hod2 (evqs_cons evq_bl evqs_nil) (by simp)) evqs_nil)) (by simp)) evqs_nil))) (by show 11 + 3 ≤ 100000; omega) fun o3 H3 e3 god3 => ?_
    have odl : od ≠ l := fun z => d1.ne (by rw [← z]; exact hod)
    have d3 : Dr (n + 3) (upd H3 od o3) l := (d2.ex e3).upd_ne odl
    have b13 : ExB l H1 (upd H3 od o3) := ExB.of (exB_newO hod e2 e3)
    generalize upd H3 od o3 = H4 at god3 d3 b13 ⊢
    have hL4 : Hid L H4 := b13.hid d3.ne hL1
    refine ⟨_, rfl, _, rfl, _, rfl, _, rfl, l, p, n + 3, L, rfl, d3, by omega, hl, hL4, p1, p3, fun u du H5 e5 d5 hu hg hf => ?_⟩
    have g5 := god3.exN (ExN.ofB e5) hl
    have hL5 : Hid L H5 := e5.hid d5.ne hL4
    refine ⟨by show 2 ≤ sizeLine; decide, fun tp htp => ⟨by show 1 ≤ sizeLine; decide, fun tq htq => ?_⟩⟩
    have ea := Ex.new (o := .tup [u, .bl true]) htp
    have eb := ea.trans (Ex.new (o := .lst [.ref tp]) htq)
    have hpx := Ex.new (o := .lst [.ref tp]) htq _ _ (upd_same (H := H5) (a := tp) (o := .tup [u, .bl true]))
    have hqx := upd_same (H := upd H5 tp (.tup [u, .bl true])) (a := tq) (o := .lst [.ref tp])
    have tpL : tp ∉ L := hid_not hL5 htp
    generalize upd (upd H5 tp (.tup [u, .bl true])) tq (.lst [.ref tp]) = H6 at eb hpx hqx ⊢
    obtain ⟨ngo, xs, hxo, hxa⟩ := g5.up eb
    have hus : Dq K (W L H6) (.ref tp) (.tuple [du, .bool true]) := .tup (SqT.of (w_of tpL hpx)) (.cons (hu.up (w_ex eb)) (.cons (.bl true) .nil))
    have lx := dqa_len hxa
    refine ⟨od, tq, xs, [.ref tp], rfl, rfl, hxo, hqx, Evl.sz_of (by rw [lx]; show 14 + 1 ≤ 100000; omega), fun r hr => ?_⟩
    have hL6 : Hid L H6 := hid_ex eb hL5
    have er := Ex.new (o := .lst (xs ++ [.ref tp])) hr
    have hall : DqAll K (W L (upd H6 r (.lst (xs ++ [.ref tp])))) (xs ++ [.ref tp]) ((oddX1 (ns.map .int) ++ oddX2 (ns.map .int)) ++ [.tuple [du, .bool true]]) := dqa_app ((hxa.up w_cons).up (w_ex er)) (.cons (hus.up (w_ex er)) .nil)
    refine ⟨l, r, xs ++ [.ref tp], n + 23, L, rfl, (d5.ex eb).ex er |>.up (by omega), by omega, hl, SqL.of (w_new hL6 hr), by rw [List.length_append, lx]; show 0 < 14 + 1; decide, by rw [List.length_append, lx]; show 14 + 1 < 1073741824; decide, fun v' o hv' d7 => ?_⟩
    obtain ⟨i, hi, rfl⟩ := List.getElem_of_mem hv'
    obtain ⟨dd, hd1, hd2⟩ := dqa_get hall (List.getElem?_eq_getElem hi)
    have okd : isX p dd = false ∧ fits 6 dd := by
      rcases List.mem_append.mp (List.mem_of_getElem? hd1) with m | m
      · exact ⟨(oddX_ok hns p1 p3 dd m).1, fits_up (by decide) (oddX_ok hns p1 p3 dd m).2⟩
      · rw [List.mem_singleton.mp m]
        refine ⟨?_, (fits_seq (n := 5) (fun d hd => ?_) (by show 2 ≤ 40000; omega)).1⟩
        · show (isP p du && _) = false
          rw [hg]
          rfl
        · simp only [List.mem_cons, List.not_mem_nil, or_false] at hd
          rcases hd with rfl | rfl
          · exact hf
          · trivial
    exact k _ dd _ ((((e1.trans b13).trans e5).trans (ExB.of (eb.trans er))).trans ExB.upd) (d7.up (by omega)) (by rw [w_upd_in hl]; exact hd2) okd.1 okd.2
end
end U

set_option Elab.async false
set_option linter.all false
set_option maxRecDepth 100000
set_option maxHeartbeats 4000000
/-! the first of some things that is no index -/
namespace U
open PySem PySem.Spec PyProof.Rows L2
open Evl (Ex)
abbrev s_first_odd : Stmt := top 31
abbrev sc_first_odd_N : List Str := ["_law_some", "_law_size", "_law_met", "_law_thing"]
theorem sc_first_odd : FnScope sc_first_odd_N ["_law_some", "_law_size"] (defScope s_first_odd) := ⟨rfl, rfl, rfl, by decide +kernel, rfl, by decide +kernel, by decide +kernel⟩
section
variable {K : PySem.W.Frag} {L : List Addr} {σ : L2.St} {H : Hp} {te tb tc : TE} {ds es : List PyData} {l a : Addr} {n m : Nat} {v : V} {d : PyData} {us : List V}
/-- the first odd one of us is v -/
def BadU (K : PySem.W.Frag) (H : Hp) (m : Nat) (us : List V) (v : V) : Prop := ∃ (ns : List Int) (d : PyData) (rest : List V), us = ns.map V.int ++ v :: rest ∧ ns.Nodup ∧ (∀ i ∈ ns, 0 ≤ i ∧ i < (m : Int)) ∧ ns.length ≤ 1000 ∧ Dq K H v d ∧ fits 3 d ∧ (isIx (m : Int) d = false ∨ ∃ n, d = .int n ∧ n ∈ ns)
theorem BadU.idx (h : BadU K H m us v) (hs : SqL K H a us ∨ SqT K H a us) : BadIdx K H a m v := by
  obtain ⟨ns, d, rest, rfl, h1, h2, h3, h4, h5, h6⟩ := h
  exact ⟨ns, d, rest, hs, h1, h2, h3, h4, ⟨3, h5⟩, h6⟩
theorem isIx_int : isIx (m : Int) d = true → ∃ n, d = .int n ∧ 0 ≤ n ∧ n < (m : Int) := by
  intro h
  cases d with
  | int n =>
    have h' : (decide (0 ≤ n) && decide (n < (m : Int))) = true := h
    simp at h'
    exact ⟨n, rfl, h'.1, h'.2⟩
  | none => cases h
  | bool _ => cases h
  | str _ => cases h
  | list _ => cases h
  | tuple _ => cases h
  | dict _ => cases h
/-- all are indexes that occur once, or one is odd -/
theorem split_idx : ∀ {rest : List V} {es : List PyData} {ns : List Int}, DqAll K H rest es → (∀ d ∈ es, fits 3 d) → ns.Nodup → (∀ i ∈ ns, 0 ≤ i ∧ i < (m : Int)) → ns.length + rest.length ≤ 1000 →
    (∃ ns' : List Int, ns.map V.int ++ rest = ns'.map V.int ∧ ns'.Nodup ∧ ∀ i ∈ ns', 0 ≤ i ∧ i < (m : Int)) ∨ ∃ v, BadU K H m (ns.map V.int ++ rest) v
  | [], _, ns, _, _, h1, h2, _ => .inl ⟨ns, List.append_nil _, h1, h2⟩
  | v :: rest, _, ns, .cons (d := d) hv ht, hf, h1, h2, hz => by
    by_cases hb : isIx (m : Int) d = true ∧ ∀ n, d = .int n → n ∉ ns
    · obtain ⟨hb1, hb2⟩ := hb
      obtain ⟨n, rfl, n0, n1⟩ := isIx_int hb1
      cases hv
      have q := split_idx (rest := rest) (ns := ns ++ [n]) ht (fun d hd => hf d (List.mem_cons_of_mem _ hd)) (List.nodup_append.mpr ⟨h1, by simp, fun a ha b hb e => by rw [List.mem_singleton.mp hb] at e; exact hb2 n rfl (by rw [← e]; exact ha)⟩) (fun i hi => by
        rcases List.mem_append.mp hi with hi | hi
        · exact h2 i hi
        · rw [List.mem_singleton.mp hi]; exact ⟨n0, n1⟩) (by rw [List.length_append]; show ns.length + 1 + rest.length ≤ 1000; rw [List.length_cons] at hz; omega)
      have e : (ns ++ [n]).map V.int ++ rest = ns.map V.int ++ V.int n :: rest := by rw [List.map_append, List.append_assoc]; rfl
      rw [e] at q
      exact q
    · refine .inr ⟨v, ns, d, rest, rfl, h1, h2, by omega, hv, hf d (List.mem_cons_self ..), ?_⟩
      cases hx : isIx (m : Int) d with
      | false => exact .inl rfl
      | true =>
        refine .inr (Classical.byContradiction fun hno => hb ⟨hx, fun n e hn => hno ⟨n, e, hn⟩⟩)
theorem et_chain {i j k : Int} (h1 : Evl.Ev te σ H (.int i)) (h2 : Evl.Ev tb σ H (.int j)) (h3 : Evl.Ev tc σ H (.int k)) : Evl.EvT (tTest (tChain (rI0 fun i j => .bl (decide (i ≤ j))) (rI0 fun i j => .bl (decide (i < j))) te tb tc)) σ H (decide (i ≤ j) && decide (j < k)) := fun H1 e1 Q q =>
  h1 H1 e1 _ fun H2 e2 => h2 H2 (e1.trans e2) _ fun H3 e3 => ⟨i, j, rfl, rfl, decide (i ≤ j), rfl, by
    by_cases z : i ≤ j
    · rw [decide_eq_true z]
      refine (if_pos rfl).mpr (h3 H3 ((e1.trans e2).trans e3) _ fun H4 e4 => ⟨j, k, rfl, rfl, decide (j < k), rfl, ?_⟩)
      have := q H4 ((e2.trans e3).trans e4)
      rw [decide_eq_true z, Bool.true_and] at this
      exact this
    · rw [decide_eq_false z]
      refine (if_neg Bool.false_ne_true).mpr ⟨false, rfl, ?_⟩
      have := q H3 (e2.trans e3)
      rw [decide_eq_false z, Bool.false_and] at this
      exact this⟩
end
section
variable {K : PySem.W.Frag} {H : Hp} {a l : Addr} {m : Nat} {v : V} {d : PyData} {ns : List Int} {D : Ends} {tr : TS}
theorem first_turn {n : Int} (hl : H l = some (.lst (ns.map V.int))) (n0 : 0 ≤ n) (n1 : n < (m : Int)) (hnot : n ∉ ns) (hz : ns.length ≤ 1000) (k : ∀ H1, Ex H H1 → D.nx [some (.ref a), some (.int (m : Int)), some (.ref l), some (.int n)] (upd H1 l (.lst ((ns ++ [n]).map V.int)))) :
    tSeq (tIfS (tOr (tNot (tB (tCB (rIsi K) (tCons (tVar 3) (tCons (tC (.ty "int")) tNil))))) (tOr (tB (tCB (rIsi K) (tCons (tVar 3) (tCons (tC (.ty "bool")) tNil)))) (tOr (tNot (tTest (tChain (rI0 fun i j => .bl (decide (i ≤ j))) (rI0 fun i j => .bl (decide (i < j))) (tC (.int 0)) (tVar 3) (tVar 1)))) (tTest (tOp (rIn K false) (tVar 3) (tVar 2)))))) tr tNext) (tDrop (tBM K "list" rAppend (tVar 2) (tCons (tVar 3) tNil))) D [some (.ref a), some (.int (m : Int)), some (.ref l), some (.int n)] H := by
  have w3 : ∀ H, Evl.Ev (tVar 3) [some (.ref a), some (.int (m : Int)), some (.ref l), some (.int n)] H (.int n) := fun H => Evl.ev_var rfl
  have wl : ∀ H, Evl.Ev (tVar 2) [some (.ref a), some (.int (m : Int)), some (.ref l), some (.int n)] H (.ref l) := fun H => Evl.ev_var rfl
  refine Evl.q_when (b := false) (Evl.et_is (Evl.et_or (a := false) (b := false) (Evl.et_is (Evl.et_not (a := true) (Evl.et_B (evq_isi (w3 H) (.int n) isi_int_int))) rfl) fun _ => Evl.et_is (Evl.et_or (a := false) (b := false) (Evl.et_B (evq_isi (w3 H) (.int n) isi_int_bool)) fun _ => Evl.et_is (Evl.et_or (a := false) (b := false) (Evl.et_is (Evl.et_not (et_chain Evl.ev_c (w3 H) (Evl.ev_var rfl))) (by rw [decide_eq_true n0, decide_eq_true n1]; rfl)) fun _ => Evl.et_is (Evl.et_test (Evl.ev_op (w3 H) (wl H) (Evl.rv_isL (SqL.of hl) rfl (flat_ints _)))) (by rw [inV_int]; exact decide_eq_false hnot)) rfl) rfl) rfl) (fun z => nomatch z) (fun _ H1 e1 => ?_)
  refine Evl.s_app (e1 _ _ hl) (wl H1) (w3 H1) (by rw [List.length_map]; omega) fun H2 e2 => ?_
  have := k H2 (e1.trans e2)
  rw [List.map_append] at this
  exact this
theorem first_bad (hl : H l = some (.lst (ns.map V.int))) (hv : Dq K H v d) (hbad : isIx (m : Int) d = false ∨ ∃ n, d = .int n ∧ n ∈ ns) {tz : TS} (k : ∀ H1, Ex H H1 → tr { D with nx := tz D } [some (.ref a), some (.int (m : Int)), some (.ref l), some v] H1) :
    tSeq (tIfS (tOr (tNot (tB (tCB (rIsi K) (tCons (tVar 3) (tCons (tC (.ty "int")) tNil))))) (tOr (tB (tCB (rIsi K) (tCons (tVar 3) (tCons (tC (.ty "bool")) tNil)))) (tOr (tNot (tTest (tChain (rI0 fun i j => .bl (decide (i ≤ j))) (rI0 fun i j => .bl (decide (i < j))) (tC (.int 0)) (tVar 3) (tVar 1)))) (tTest (tOp (rIn K false) (tVar 3) (tVar 2)))))) tr tNext) tz D [some (.ref a), some (.int (m : Int)), some (.ref l), some v] H := by
  have w3 : ∀ H, Evl.Ev (tVar 3) [some (.ref a), some (.int (m : Int)), some (.ref l), some v] H v := fun H => Evl.ev_var rfl
  have wl : ∀ H, Evl.Ev (tVar 2) [some (.ref a), some (.int (m : Int)), some (.ref l), some v] H (.ref l) := fun H => Evl.ev_var rfl
  have fst : kitB (tyOf d) "int" = some false → Evl.EvT (tOr (tNot (tB (tCB (rIsi K) (tCons (tVar 3) (tCons (tC (.ty "int")) tNil))))) (tOr (tB (tCB (rIsi K) (tCons (tVar 3) (tCons (tC (.ty "bool")) tNil)))) (tOr (tNot (tTest (tChain (rI0 fun i j => .bl (decide (i ≤ j))) (rI0 fun i j => .bl (decide (i < j))) (tC (.int 0)) (tVar 3) (tVar 1)))) (tTest (tOp (rIn K false) (tVar 3) (tVar 2)))))) [some (.ref a), some (.int (m : Int)), some (.ref l), some v] H true := fun h => Evl.et_is (Evl.et_or (a := true) (b := true) (Evl.et_is (Evl.et_not (a := false) (Evl.et_B (evq_isi (w3 H) hv h))) rfl) (fun z => nomatch z)) rfl
  refine Evl.q_when (b := true) ?_ (fun _ H1 e1 => k H1 e1) (fun z => nomatch z)
  cases d with
  | none => exact fst isi_NoneType_int
  | str _ => exact fst isi_str_int
  | list _ => exact fst isi_list_int
  | tuple _ => exact fst isi_tuple_int
  | dict _ => exact fst isi_dict_int
  | bool b => exact Evl.et_is (Evl.et_or (a := false) (b := true) (Evl.et_is (Evl.et_not (a := true) (Evl.et_B (evq_isi (w3 H) hv isi_bool_int))) rfl) fun _ => Evl.et_is (Evl.et_or (a := true) (b := true) (Evl.et_B (evq_isi (w3 H) hv isi_bool_bool)) (fun z => nomatch z)) rfl) rfl
  | int n =>
    cases hv
    refine Evl.et_is (Evl.et_or (a := false) (b := true) (Evl.et_is (Evl.et_not (a := true) (Evl.et_B (evq_isi (w3 H) (.int n) isi_int_int))) rfl) fun _ => Evl.et_is (Evl.et_or (a := false) (b := true) (Evl.et_B (evq_isi (w3 H) (.int n) isi_int_bool)) fun _ => Evl.et_is (Evl.et_or (a := !(decide (0 ≤ n) && decide (n < (m : Int)))) (b := true) (Evl.et_not (et_chain Evl.ev_c (w3 H) (Evl.ev_var rfl))) fun z => ?_) (Bool.or_true _)) rfl) rfl
    rcases hbad with hb | ⟨n', e, hn⟩
    · have hb' : (decide (0 ≤ n) && decide (n < (m : Int))) = false := hb
      rw [hb'] at z
      cases z
    · cases e
      exact Evl.et_is (Evl.et_test (Evl.ev_op (w3 H) (wl H) (Evl.rv_isL (SqL.of hl) rfl (flat_ints _)))) (by rw [inV_int]; exact decide_eq_true hn)
end
section
variable {P : Program} {w : World} {K : PySem.W.Frag} {mg : Str → Option Value} {base : Heap}
def spFirst (K : PySem.W.Frag) : Sp := fun vs H Q _ => ∃ (a : Addr) (m : Nat) (us : List V), vs = [.ref a, .int m] ∧ SqL K H a us ∧
  ((∃ ns : List Int, us = ns.map V.int ∧ ns.Nodup ∧ (∀ i ∈ ns, 0 ≤ i ∧ i < (m : Int)) ∧ ns.length ≤ 1000 ∧ ∀ H', Ex H H' → Q .non H') ∨ (∃ v, BadU K H m us v ∧ ∀ t H', Ex H H' → H' t = some (.tup [.str "index", v]) → Q (.ref t) H'))
theorem ok_first_odd {f : Addr} {fd : FuncData} (F : Fun K "_law_first_odd" "_law_first_odd" s_first_odd f fd) (T : TxF mg) : FnOk P w K mg base CX0 1 f fd ["_law_some", "_law_size"] (spFirst K) := by
  refine F.ok sc_first_odd (fun vs H Q E h => ?_) (fun cdv A outer s H vs Q E hr h => ?_)
  · obtain ⟨_, _, _, rfl, _⟩ := h
    rfl
  · obtain ⟨a, m, us, rfl, hs, hc⟩ := h
    refine ⟨_, (pss_cons (ps_set (i := 2) sc_first_odd.nd rfl (by first | exact Or.inl rfl | exact Or.inr rfl) (pe_lst pa_nil))
    (pss_cons (ps_for PassesOwn.never rfl (pi_list (pv 0)) (pg_name (i := 3) sc_first_odd.nd rfl (by first | exact Or.inl rfl | exact Or.inr rfl))
      (pss_cons (ps_if (PW.pt (pw_or (pt_not (pt_val (pe_callB call_isi (by rfl) T.m_isinstance (by decide +kernel) (pa_cons (pv 3) (pa_cons (pe_bltn (v := .ty "int") (by rfl) T.m_int (by decide +kernel) rfl) pa_nil))))) (pw_or (pt_val (pe_callB call_isi (by rfl) T.m_isinstance (by decide +kernel) (pa_cons (pv 3) (pa_cons (pe_bltn (v := .ty "bool") (by rfl) T.m_bool (by decide +kernel) rfl) pa_nil)))) (pw_or (pt_not (pt_chain op_le op_lt pe_int (pv 3) (pv 1))) (pw_or1 (pt_cmpR op_in_seq (pv 3) (pv 2) (by rfl))))))) (pss_one (ps_ret (pe_tup (pa_cons pe_str (pa_cons (pv 3) pa_nil))))) pss_nil)
      (pss_one (ps_expr (pe_bm PySem.F.plainAttrs_list PySem.F.slot_list_append PySem.F.type_list_append mt_append (pv 2) (pa_cons (pv 3) pa_nil))))))
    (pss_one (ps_ret pe_non)))), ?_⟩
    refine Evl.q_asgL (xs := []) (Evl.el_lst Evl.ea_nil (by decide)) fun l H1 hl e1 hl1 => ?_
    let Pv : List Int → Nat → L2.St → Hp → Prop := fun ns i σ' H' => i ≤ ns.length ∧ Ex H H' ∧ H' l = some (.lst ((ns.take i).map V.int)) ∧ ∃ s3, σ' = [some (.ref a), some (.int (m : Int)), some (.ref l), s3]
    have good : ∀ (ns : List Int) (i : Nat), ns.Nodup → (∀ i ∈ ns, 0 ≤ i ∧ i < (m : Int)) → ns.length ≤ 1000 → ∀ (h : i < ns.length), (0 ≤ ns[i] ∧ ns[i] < (m : Int)) ∧ ns[i] ∉ ns.take i ∧ ns.take (i + 1) = ns.take i ++ [ns[i]] := fun ns i hnd hin hz h => ⟨hin _ (List.getElem_mem h), fun z => by
      obtain ⟨j, hj, ej⟩ := List.getElem_of_mem z
      rw [List.length_take] at hj
      rw [List.getElem_take] at ej
      exact List.pairwise_iff_getElem.mp hnd j i (by omega) h (by omega) ej, by
      rw [List.take_add_one, List.getElem?_eq_getElem h]
      rfl⟩
    rcases hc with ⟨ns, rfl, hnd, hin, hlen, k⟩ | ⟨v, ⟨ns, d, rest, rfl, hnd, hin, hlen, hv, hw, hbad⟩, k⟩
    · refine Evl.q_forL (xs := ns.map V.int) (Evl.ev_var (v := .ref a) rfl) (Evl.ex_l e1 hs) (Pv ns) (fun H2 e2 => ⟨Nat.zero_le _, e1.trans e2, e2 _ _ hl1, none, rfl⟩) (fun i σ' H' _ pv => Evl.ex_l pv.2.1 hs) ?_ ?_
      · rintro i y σ' H' hy ⟨hii, e3, hl3, s3, rfl⟩
        have hi : i < ns.length := by have := (List.getElem?_eq_some_iff.mp hy).1; rw [List.length_map] at this; exact this
        rw [List.getElem?_map, List.getElem?_eq_getElem hi] at hy
        have ey : y = .int ns[i] := (Option.some.inj hy).symm
        subst ey
        obtain ⟨⟨g1, g2⟩, g3, g4⟩ := good ns i hnd hin hlen hi
        exact first_turn (K := K) (H := H') (m := m) hl3 g1 g2 g3 (by rw [List.length_take]; omega) fun H4 e4 => ⟨hi, Evl.Ex.mut (e3.trans e4) hl, by rw [upd_same, g4], _, rfl⟩
      · rintro σ' H' ⟨_, e3, hl3, s3, rfl⟩
        exact Evl.s_ret Evl.ev_c fun H4 e4 => k H4 (e3.trans e4)
    · have lall : (ns.map V.int ++ v :: rest).length = ns.length + (rest.length + 1) := by rw [List.length_append, List.length_map]; rfl
      refine Evl.q_forL (xs := ns.map V.int ++ v :: rest) (Evl.ev_var (v := .ref a) rfl) (Evl.ex_l e1 hs) (Pv ns) (fun H2 e2 => ⟨Nat.zero_le _, e1.trans e2, e2 _ _ hl1, none, rfl⟩) (fun i σ' H' _ pv => Evl.ex_l pv.2.1 hs) ?_ ?_
      · rintro i y σ' H' hy ⟨hii, e3, hl3, s3, rfl⟩
        rcases Nat.lt_or_ge i ns.length with hi | hi
        · rw [List.getElem?_append_left (by rw [List.length_map]; exact hi), List.getElem?_map, List.getElem?_eq_getElem hi] at hy
          have ey : y = .int ns[i] := (Option.some.inj hy).symm
          subst ey
          obtain ⟨⟨g1, g2⟩, g3, g4⟩ := good ns i hnd hin hlen hi
          exact first_turn (K := K) (H := H') (m := m) hl3 g1 g2 g3 (by rw [List.length_take]; omega) fun H4 e4 => ⟨hi, Evl.Ex.mut (e3.trans e4) hl, by rw [upd_same, g4], _, rfl⟩
        · have ei : i = ns.length := by omega
          subst ei
          rw [List.getElem?_append_right (by rw [List.length_map]; exact Nat.le_refl _), List.length_map, Nat.sub_self] at hy
          have ey : y = v := (Option.some.inj hy).symm
          subst ey
          rw [List.take_length] at hl3
          exact first_bad (K := K) (H := H') (m := m) hl3 (hv.up e3) hbad fun H4 e4 => ⟨_, rfl, by show 2 ≤ sizeLine; decide, fun t ht => k t _ ((e3.trans e4).trans (Ex.new ht)) upd_same⟩
      · rintro σ' H' ⟨hii, _⟩
        exact absurd hii (by omega)
end
end U

set_option Elab.async false
set_option linter.all false
set_option maxRecDepth 100000
set_option maxHeartbeats 4000000
/-! the law's calls, and how they end -/
namespace U
open PySem PySem.Spec PyProof.Rows L2
open Evl (Ex)
open C8 (Met Mak pe_mt pe_mt0 pe_mk)
/-- which of the three classes is which -/
structure ExM (K : PySem.W.Frag) (CP CE CI : Addr) : Prop where
  pp : PySem.W.exmOne K (.ref CP) (.ref CP) = some true
  ep : PySem.W.exmOne K (.ref CE) (.ref CP) = some false
  ee : PySem.W.exmOne K (.ref CE) (.ref CE) = some true
  ip : PySem.W.exmOne K (.ref CI) (.ref CP) = some false
  ie : PySem.W.exmOne K (.ref CI) (.ref CE) = some false
  ii : PySem.W.exmOne K (.ref CI) (.ref CI) = some true
/-- an error's class, its field, its word -/
inductive IsEr (CP CE CI : Addr) : Addr → Str → Str → Prop
  | p : IsEr CP CE CI CP "places" "places"
  | e : IsEr CP CE CI CE "index" "example"
  | i : IsEr CP CE CI CI "index" "index"
section
variable {K : PySem.W.Frag} {L : List Addr} {σ : L2.St} {H H' H0 : Hp} {te tb tc tl tdue : TE} {ds es : List PyData} {l a x CP CE CI C T0 : Addr} {n m : Nat} {v : V} {d : PyData} {us : List V} {T : List (Addr × Str)} {tz tr : TS} {D : Ends} {p : Int} {X : XK → TE}
/-- data come back, only tables and new cells besides -/
def EndQ (K : PySem.W.Frag) (T : List (Addr × Str)) (tl : TE) (σ : L2.St) (H : Hp) (d : PyData) : Prop := ∀ Q : VK, (∀ v H1, LamX.ExtN H H1 → LamX.Tabs T H1 → Dq K H1 v d → Q v H1) → tl σ H Q
theorem ExtN_of (e : Ex H H') : LamX.ExtN H H' := LamX.ExtN.of e
theorem same_run (h : EndQ K T tl σ H d) (hd : ∀ H1, LamX.ExtN H H1 → EvQ K [] tdue σ H1 d) (hf : fits 5 d) (k : ∀ H1, LamX.ExtN H H1 → LamX.Tabs T H1 → tz D σ H1) : tSeq (tIfS (tNot (tB (tCallD (spSameQ K 5) (tCons tl (tCons tdue tNil))))) tr tNext) tz D σ H := by
  refine h _ fun v H1 e1 t1 hv => ?_
  refine hd H1 e1 H1 (Ex.refl _) _ fun u H2 e2 hu => ?_
  rw [w_nil] at hu
  refine ⟨v, u, d, rfl, hv.up e2, hu, hf, fun H3 e3 => ⟨true, rfl, ?_⟩⟩
  refine ite2 (fun z => nomatch z) (fun _ => ?_)
  exact k H3 (e1.trans (ExtN_of (e2.trans e3))) (t1.ext (e2.trans e3))
/-- what a call let out, told -/
theorem endE_of {Q : VK} {Cx : Addr} {fld word : Str} (hi : IsEr CP CE CI Cx fld word) (M : ExM K CP CE CI) {dd : Addr} (hx : H dd = some (.xd [(fld, v)])) (k : ∀ t, H t = none → Q (.ref t) (upd H t (.tup [.str word, v]))) : endE K Q (clsE CP CE CI) (.ref Cx) (some dd) H := by
  have fin : ∀ (r : List (Addr × Str × Str)), PySem.W.exmOne K (.ref Cx) (.ref Cx) = some true → endE K Q ((Cx, fld, word) :: r) (.ref Cx) (some dd) H := fun r e => ⟨true, e, fun _ => ⟨rfl, dd, _, v, rfl, hx, by simp, k⟩, fun z => nomatch z⟩
  cases hi with
  | p => exact fin _ M.pp
  | e => exact ⟨false, M.ep, (fun z => nomatch z), fun _ => fin _ M.ee⟩
  | i => exact ⟨false, M.ip, (fun z => nomatch z), fun _ => ⟨false, M.ie, (fun z => nomatch z), fun _ => fin _ M.ii⟩⟩
/-- the call raises -/
theorem endq_bad {Cx : Addr} {fld word : Str} {spL : Sp} (hi : IsEr CP CE CI Cx fld word) (M : ExM K CP CE CI) (ht : LamX.Tabs T H) (hv : ∀ H1, LamX.ExtN H H1 → Dq K H1 v d) (h : ∀ H1, LamX.ExtN H H1 → ∀ (E : XK) (k : VK), ErrE Cx fld v H1 E → X E σ H1 k) :
    EndQ K T (LamX.tLam T (TEnd K (clsE CP CE CI)) (fun E => tCB (rLenO C spL) (tCons (X E) tNil))) σ H (.tuple [.str word, d]) := fun Q q => ⟨ht, fun H1 e1 t1 k hk => h H1 e1 _ _ fun dd H2 hd e2 hx => endE_of hi M hx fun t htn => by
    have e3 := e2.trans (Ex.new (o := .tup [.str word, v]) htn)
    exact q _ _ (e1.trans (ExtN_of e3)) (t1.ext e3) (.tup (SqT.of upd_same) (.cons (.str _) (.cons (hv _ (e1.trans (ExtN_of e3))) .nil)))⟩
/-- the call ends well: a sample, its length told -/
theorem endq_told (ht : LamX.Tabs T H) (h : ∀ H1, LamX.ExtN H H1 → ∀ (E : XK) (k : VK), (∀ x p ds H2, Ex H1 H2 → Smp K [] H2 x C p ds → ds.length = n → k (.ref x) H2) → X E σ H1 k) (hn : n ≤ 100000) :
    EndQ K T (LamX.tLam T (TEnd K (clsE CP CE CI)) (fun E => tCB (rLenO C (spLen K C)) (tCons (X E) tNil))) σ H (.tuple [.str "told", .int n]) := fun Q q => ⟨ht, fun H1 e1 t1 k hk => h H1 e1 _ _ fun x p ds H2 e2 hS hl => by
    obtain ⟨dx, v0, hx, _⟩ := id hS
    refine ⟨x, dx, _, rfl, hx, x, p, ds, [], rfl, hS, fun H3 e3 => ⟨ds.length, rfl, by omega, hk _ _ fun t htn => ?_⟩⟩
    have e4 := (e2.trans e3).trans (Ex.new (o := .tup [.str "told", .int ds.length]) htn)
    exact q _ _ (e1.trans (ExtN_of e4)) (t1.ext e4) (.tup (SqT.of upd_same) (.cons (.str _) (.cons (by rw [hl]; exact .int _) .nil)))⟩
theorem mk_eNN {x dx : Addr} (hx : H x = none) (hdx : H dx = none) (ne : dx ≠ x) : Ex H (upd (upd H dx (.own x)) x (.ins C dx [])) := (Ex.new hdx).trans (Ex.new (by rw [upd_ne (Ne.symm ne)]; exact hx))
/-! ### the making of samples -/

theorem mkX_places {E : XK} {k : VK} {vp : V} {dp de : PyData} {tp : TE} {te : TE} (hp : Evl.Ev tp σ H vp) (hpd : Dq K H vp dp) (hN : isN dp = false) (he : EvQ K [] te σ H de) (hw : ∃ n, fits n de) (hE : ErrE CP "places" vp H E) : tMake C (spInitX K C CP CE) [] E (tCons tp (tCons te tNil)) σ H k :=
  hp H (Ex.refl _) _ fun H1 e1 => he H1 e1 _ fun ve H2 e2 hve => fun x dx hx hdx ne => by
    have e3 := mk_eNN (C := C) hx hdx ne
    rw [w_nil] at hve
    exact .inr ⟨x, vp, ve, dp, de, rfl, hpd.up ((e1.trans e2).trans e3), hve.up e3, hw, .inl ⟨hN, hE.ex ((e1.trans e2).trans e3)⟩⟩
theorem mkX_places0 {E : XK} {k : VK} {vp : V} {dp : PyData} {tp : TE} (hT : ∀ H, Dp K H (.ref T0) (.tuple [])) (hp : Evl.Ev tp σ H vp) (hpd : Dq K H vp dp) (hN : isN dp = false) (hE : ErrE CP "places" vp H E) : tMake C (spInitX K C CP CE) [.ref T0] E (tCons tp tNil) σ H k :=
  hp H (Ex.refl _) _ fun H1 e1 => fun x dx hx hdx ne => by
    have e3 := mk_eNN (C := C) hx hdx ne
    exact .inr ⟨x, vp, .ref T0, dp, .tuple [], rfl, hpd.up (e1.trans e3), Dp.q (hT _), ⟨1, Nat.zero_le _, fun _ h => nomatch h⟩, .inl ⟨hN, hE.ex (e1.trans e3)⟩⟩
theorem isN_ok (p1 : 1 ≤ p) (p3 : p ≤ 3) : isN (.int p) = true := by
  show (decide (1 ≤ p) && decide (p ≤ 3)) = true
  simp [p1, p3]
theorem mkX_none {E : XK} {k : VK} {de : PyData} {tp te : TE} (hp : Evl.Ev tp σ H (.int p)) (p1 : 1 ≤ p) (p3 : p ≤ 3) (he : EvQ K [] te σ H de) (hw : ∃ n, fits n de) (hR : isR de = false) (hE : ErrE CE "index" (.int 0) H E) : tMake C (spInitX K C CP CE) [] E (tCons tp (tCons te tNil)) σ H k :=
  hp H (Ex.refl _) _ fun H1 e1 => he H1 e1 _ fun ve H2 e2 hve => fun x dx hx hdx ne => by
    have e3 := mk_eNN (C := C) hx hdx ne
    rw [w_nil] at hve
    exact .inr ⟨x, .int p, ve, .int p, de, rfl, .int p, hve.up e3, hw, .inr (.inl ⟨isN_ok p1 p3, hR, hE.ex ((e1.trans e2).trans e3)⟩)⟩
theorem mkX_odd {E : XK} {k : VK} {tp te : TE} {i : Nat} (hp : Evl.Ev tp σ H (.int p)) (p1 : 1 ≤ p) (p3 : p ≤ 3) (he : EvQ K [] te σ H (.list ds)) (hw : ∃ n, fits n (.list ds)) (hi : i < ds.length) (hlo : ∀ (j : Nat) d, j < i → ds[j]? = some d → isX p d = true) (hat : ∀ d, ds[i]? = some d → isX p d = false) (hE : ErrE CE "index" (.int (i : Int)) H E) : tMake C (spInitX K C CP CE) [] E (tCons tp (tCons te tNil)) σ H k :=
  hp H (Ex.refl _) _ fun H1 e1 => he H1 e1 _ fun ve H2 e2 hve => fun x dx hx hdx ne => by
    have e3 := mk_eNN (C := C) hx hdx ne
    rw [w_nil] at hve
    exact .inr ⟨x, .int p, ve, .int p, .list ds, rfl, .int p, hve.up e3, hw, .inr (.inr ⟨p, i, ds, rfl, isN_ok p1 p3, .inl rfl, hi, hlo, hat, hE.ex ((e1.trans e2).trans e3)⟩)⟩
theorem mkX_ok {E : XK} {k : VK} {tp te : TE} (hp : Evl.Ev tp σ H (.int p)) (p1 : 1 ≤ p) (p3 : p ≤ 3) (he : EvD K [] te σ H (.list ds)) (hR : RwsM p ds) (hk : ∀ y H2, Ex H H2 → Smp K [] H2 y C p (ds.map cpy) → k (.ref y) H2) : tMake C (spInitX K C CP CE) [] E (tCons tp (tCons te tNil)) σ H k :=
  hp H (Ex.refl _) _ fun H1 e1 => he H1 e1 _ fun ve H2 e2 hve => fun x dx hx hdx ne => by
    rw [w_nil] at hve
    exact .inl (mk_atM (L := []) (.inl hve) lsts_nil p1 p3 hR (fun y H' e' hS => hk y H' ((e1.trans e2).trans e') hS) x dx hx hdx ne)
end
end U

set_option Elab.async false
set_option linter.all false
set_option maxRecDepth 100000
set_option maxHeartbeats 4000000
/-! drawn numbers; odd examples put among the rows -/
namespace U
open PySem PySem.Spec PyProof.Rows L2
open Evl (Ex)
section
variable {K : PySem.W.Frag} {L : List Addr} {σ : L2.St} {H H' H0 : Hp} {te tm : TE} {ds es : List PyData} {l a x t : Addr} {n m j : Nat} {v : V} {d : PyData} {us : List V} {T : List (Addr × Str)} {tz tr : TS} {D : Ends} {p : Int}
theorem draw_runJ {tm : TE} {many : Int} {Q : VK} (h0 : σ[j]? = some (some (.ref l))) (hd : Dr n H l) (hn : n < 1000000) (hm : Evl.Ev tm σ H (.int many)) (m0 : 0 < many) (m1 : many < 1073741824)
    (k : ∀ r H', 0 ≤ r → r < many → Dr (n + 1) H' l → ExB l H H' → Q (.int r) H') : tCallD spDraw (tCons (tVar j) (tCons tm tNil)) σ H Q :=
  ⟨_, h0, hm H (Ex.refl H) _ fun H1 e1 => ⟨l, many, n, rfl, hd.ex e1, hn, m0, m1, fun r o r0 r1 hd' => k r _ r0 r1 hd' ((ExB.of e1).trans ExB.upd)⟩⟩
/-- [draw(many) for _ in range(draw(c))] -/
theorem draws_run {c many : Int} {Q : VK} (c0 : 0 < c) (c1 : c ≤ 100) (m0 : 0 < many) (m1 : many < 1000000) (h0 : σ[2]? = some (some (.ref l))) (h2 : ∀ x, ((wipe σ [14]).set 14 (some x))[2]? = some (some (.ref l))) (hw : ∀ x, wipe ((wipe σ [14]).set 14 (some x)) [14] = wipe σ [14]) (hd : Dr n H l) (hn : n < 900000)
    (hm : ∀ x H1, ExB l H H1 → Evl.Ev tm ((wipe σ [14]).set 14 (some x)) H1 (.int many))
    (k : ∀ D1 (ns : List Int) H', H D1 = none → ExB l H H' → Dr (n + 102) H' l → H' D1 = some (.lst (ns.map V.int)) → (ns.length : Int) < c → (∀ e ∈ ns, 0 ≤ e ∧ e < many) → Q (.ref D1) H') :
    tLc (iRng1 (tCons (tCallD spDraw (tCons (tVar 2) (tCons (tC (.int c)) tNil))) tNil)) (gName 14) tYes (tCallD spDraw (tCons (tVar 2) (tCons tm tNil))) [14] σ H Q := by
  refine draw_runJ (j := 2) (n := n) (many := c) h0 hd (by omega) Evl.ev_c c0 (by omega) fun r H1 r0 r1 d1 b1 => ⟨r, rfl, by omega, by omega, fun Dl hD => ?_⟩
  have hDl : Dl ≠ l := fun e => d1.ne (by rw [← e]; exact hD)
  let Pv : Nat → Hp → Prop := fun i H' => ExB l H1 H' ∧ Dr (n + 1 + i) H' l ∧ ∃ ns : List Int, ns.length = i ∧ (∀ e ∈ ns, 0 ≤ e ∧ e < many) ∧ H' Dl = some (.lst (ns.map V.int))
  refine lc_range (lo := 0) (n := r.toNat) Pv ⟨ExB.of (Ex.new hD), d1.ex (Ex.new hD), [], rfl, (fun _ z => nomatch z), upd_same⟩ (fun i H2 hi pv => ?_) (fun H2 pv => ?_)
  · obtain ⟨e2, hd2, ns, hns, hb, hl2⟩ := pv
    refine ⟨hw _, ?_⟩
    refine yes_lc (B := fun H3 => Pv (i + 1) H3) ?_
    refine draw_runJ (j := 2) (n := n + 1 + i) (many := many) (h2 _) hd2 (by omega) (hm _ _ (b1.trans e2)) m0 (by omega) fun q H3 q0 q1 hd3 e3 => ?_
    have h3 : H3 Dl = some (.lst (ns.map V.int)) := e3 Dl _ hDl hl2
    refine ⟨ns.map V.int, h3, Evl.sz_lt (by rw [List.length_map]; omega), ?_, hd3.upd_ne hDl, ns ++ [q], by rw [List.length_append, hns]; rfl, (fun e he => (List.mem_append.mp he).elim (hb e) fun z => by rw [List.mem_singleton.mp z]; omega), ?_⟩
    · intro b o hb hbo
      rw [upd_ne (ne_of_none hbo hD)]
      exact e3 b o hb (e2 b o hb hbo)
    · rw [upd_same, List.map_append]
      rfl
  · obtain ⟨e2, hd2, ns, hns, hb, hl2⟩ := pv
    have hD0 : H Dl = none := by
      cases q : H Dl with
      | none => rfl
      | some o => rw [b1 Dl o hDl q] at hD; cases hD
    exact k Dl ns H2 hD0 (b1.trans e2) (hd2.up (by omega)) hl2 (by omega) hb
theorem draws_asg {c many : Int} {iS : Nat} {vs : List Nat} (hvs : vs = [14]) (c0 : 0 < c) (c1 : c ≤ 100) (m0 : 0 < many) (m1 : many < 1000000) (h0 : σ[2]? = some (some (.ref l))) (h2 : ∀ x, ((wipe σ [14]).set 14 (some x))[2]? = some (some (.ref l))) (hw : ∀ x, wipe ((wipe σ [14]).set 14 (some x)) [14] = wipe σ [14]) (hd : Dr n H l) (hn : n < 900000)
    (hm : ∀ x H1, ExB l H H1 → Evl.Ev tm ((wipe σ [14]).set 14 (some x)) H1 (.int many))
    (k : ∀ D1 (ns : List Int) H', H D1 = none → ExB l H H' → Dr (n + 102) H' l → H' D1 = some (.lst (ns.map V.int)) → (ns.length : Int) < c → (∀ e ∈ ns, 0 ≤ e ∧ e < many) → tz D (σ.set iS (some (.ref D1))) H') :
    tSeq (tAsg (tLc (iRng1 (tCons (tCallD spDraw (tCons (tVar 2) (tCons (tC (.int c)) tNil))) tNil)) (gName 14) tYes (tCallD spDraw (tCons (tVar 2) (tCons tm tNil))) vs) (gName iS)) tz D σ H := by
  subst hvs
  exact draws_run (Q := fun v H1 => gName iS v σ H1 fun σ2 H2 => tz D σ2 H2) c0 c1 m0 m1 h0 h2 hw hd hn hm k
theorem tabs_ch (h : LamX.Tabs T H) (e : ChL L H H') (hl : Lsts L H) : LamX.Tabs T H' := fun q hq => by
  obtain ⟨ps, h1, h2, h3⟩ := h q hq
  refine ⟨ps, e _ _ (fun m => by obtain ⟨xs, z⟩ := hl _ m; rw [z] at h1; cases h1) h1, h2, fun pos cv hc => ?_⟩
  obtain ⟨c, e1, e2⟩ := h3 pos cv hc
  exact ⟨c, e1, e _ _ (fun m => by obtain ⟨xs, z⟩ := hl _ m; rw [z] at e2; unfold LamX.CodeO at e2; cases e2) e2⟩
/-- what is known of the rows after some odd ones were put at the places of sp -/
def OddAt (p : Int) (sp : List Int) (ds : List PyData) : Prop := ∃ i : Nat, (i : Int) ∈ sp ∧ (∀ s ∈ sp, (i : Int) ≤ s) ∧ i < ds.length ∧ (∀ (j : Nat) d, j < i → ds[j]? = some d → isX p d = true) ∧ (∀ d, ds[i]? = some d → isX p d = false)
theorem ins_get {α : Type} {xs : List α} {y : α} {i j : Nat} (hi : i ≤ xs.length) : (xs.take i ++ [y] ++ xs.drop i)[j]? = if j < i then xs[j]? else if j = i then some y else xs[j - 1]? := by
  have l1 : (xs.take i).length = i := by rw [List.length_take]; omega
  rw [List.append_assoc]
  by_cases h1 : j < i
  · rw [if_pos h1, List.getElem?_append_left (by omega), List.getElem?_take, if_pos h1]
  · rw [if_neg h1, List.getElem?_append_right (by omega), l1]
    by_cases h2 : j = i
    · rw [if_pos h2, h2, Nat.sub_self]
      rfl
    · rw [if_neg h2]
      obtain ⟨q, hq⟩ : ∃ q, j - i = q + 1 := ⟨j - i - 1, by omega⟩
      rw [hq]
      show (xs.drop i)[q]? = _
      rw [List.getElem?_drop]
      congr 1
      omega
theorem gr_q (g : Gr K L H t ds) : Gq K L H t ds := by
  obtain ⟨n, xs, h1, h2⟩ := g
  exact ⟨n, xs, h1, dqa_of _ _ h2⟩
abbrev rIns : V → List V → Hp → VK → Prop := fun x vs H Q => ∃ (l : Addr) (xs : List V) (i : Int) (y : V), x = .ref l ∧ vs = [.int i, y] ∧ H l = some (.lst xs) ∧ xs.length < sizeLine ∧ 0 ≤ i ∧ i < 2 ^ 63 ∧
    Q .non (upd H l (.lst (xs.take i.toNat ++ [y] ++ xs.drop i.toNat)))
theorem ins_run {ds0 : List PyData} {sp : List Int} {t5 t6 : Addr} (hd : Dr n H l) (hn : n < 500000) (p1 : 1 ≤ p) (p3 : p ≤ 3) (g : Gr K [l] H t5 ds0) (hg : ∀ d ∈ ds0, isX p d = true ∧ fits 2 d) (hz : ds0.length ≤ 100) (h6 : H t6 = some (.lst (sp.map V.int))) (hz6 : sp.length ≤ 10) (hb : ∀ s ∈ sp, 0 ≤ s ∧ s < (ds0.length : Int) + 1)
    (Sv : L2.St → Prop) (s0 : Sv σ) (hs : ∀ σ' x, Sv σ' → Sv (σ'.set 7 (some x))) (hv : ∀ σ', Sv σ' → σ'[2]? = some (some (.ref l)) ∧ σ'[3]? = some (some (.int p)) ∧ σ'[5]? = some (some (.ref t5)) ∧ σ'[6]? = some (some (.ref t6))) (h7 : ∀ σ' x, Sv σ' → (σ'.set 7 (some x))[7]? = some (some x))
    (k : ∀ σ' H' ds, Sv σ' → ChL [l, t5] H H' → Dr (n + 500) H' l → Gq K [l] H' t5 ds → ds.length = ds0.length + sp.length → (∀ d ∈ ds, fits 6 d) → (sp = [] → ds = ds0 ∧ Gr K [l] H' t5 ds0) → (sp ≠ [] → OddAt p sp ds) → tz D σ' H') :
    tSeq (tFor (iList K (tCB (rSorted K) (tCons (tVar 6) tNil))) (gName 7) (tDrop (tBM K "list" rIns (tVar 5) (tCons (tVar 7) (tCons (tCallD (spOdd2 K isX) (tCons (tVar 2) (tCons (tVar 3) tNil))) tNil))))) tz D σ H := by
  have ml : l ∈ [l] := List.mem_singleton.mpr rfl
  have h5l : t5 ≠ l := fun e => g.1 (by rw [e]; exact ml)
  refine ⟨_, (hv σ s0).2.2.2, t6, sp, rfl, SqL.of h6, by omega, fun srt a hperm hpw ha => ?_⟩
  have hal : a ≠ l := fun e => hd.ne (by rw [← e]; exact ha)
  have ha5 : a ≠ t5 := fun e => g.ne (by rw [← e]; exact ha)
  have eA : Ex H (upd H a (.lst (srt.map V.int))) := Ex.new ha
  have hax : (upd H a (.lst (srt.map V.int))) a = some (.lst (srt.map V.int)) := upd_same
  generalize upd H a (.lst (srt.map V.int)) = H1 at eA hax ⊢
  have d1 := hd.ex eA
  have g1 := g.up eA
  have hlen := hperm.length_eq
  let Pv : Nat → L2.St → Hp → Prop := fun j σ' H' => Sv σ' ∧ ChL [l, t5] H1 H' ∧ Dr (n + 40 * j) H' l ∧ ∃ ds, Gq K [l] H' t5 ds ∧ ds.length = ds0.length + j ∧ (∀ d ∈ ds, fits 6 d) ∧ (j = 0 → ds = ds0 ∧ Gr K [l] H' t5 ds0) ∧
    (0 < j → ∃ i : Nat, srt[0]? = some (i : Int) ∧ i < ds.length ∧ (∀ (j : Nat) d, j < i → ds[j]? = some d → isX p d = true) ∧ (∀ d, ds[i]? = some d → isX p d = false))
  have aL : a ∉ [l, t5] := fun m => by
    rcases List.mem_cons.mp m with z | m
    · exact hal z
    · exact ha5 (List.mem_singleton.mp m)
  refine ⟨a, rfl, ⟨_, SqL.of hax⟩, for_it (walk_list (xs := srt.map V.int)) Pv ⟨s0, ChL.refl, d1, ds0, gr_q g1, rfl, fun d hd => fits_up (by decide) (hg d hd).2, fun _ => ⟨rfl, g1⟩, fun z => absurd z (Nat.lt_irrefl _)⟩ (fun j σ' H' _ pv => SqL.of (pv.2.1 a _ aL hax)) (fun j y σ' H3 H4 hj pv yp => ?_) (fun σ' H3 pv => ?_)⟩
  · obtain ⟨rfl, hy⟩ := yp
    obtain ⟨q1, q2, q3, ds, q4, q5, q6, q7, q8⟩ := pv
    rw [List.length_map] at hj
    rw [List.getElem?_map, List.getElem?_eq_getElem hj] at hy
    have ey : y = .int srt[j] := (Option.some.inj hy).symm
    subst ey
    have hmem : srt[j] ∈ sp := hperm.mem_iff.mp (List.getElem_mem hj)
    obtain ⟨b0, b1⟩ := hb _ hmem
    have hsv := hs σ' (.int srt[j]) q1
    obtain ⟨v2, v3, v5, v6⟩ := hv _ hsv
    obtain ⟨_, xs, hx, hxa⟩ := id q4
    have hid : Hid [t5, l] H4 := fun b m => by
      rcases List.mem_cons.mp m with z | m
      · rw [z]; exact q4.ne
      · rw [List.mem_singleton.mp m]; exact q3.ne
    refine ⟨_, v5, Or.inl ⟨rfl, xs, SqL.of hx⟩, _, h7 σ' _ q1, _, v2, _, v3, l, p, n + 40 * j, [t5, l], rfl, q3, by omega, List.mem_cons_of_mem _ ml, hid, p1, p3, fun w dw H5 b5 d5 hw hwx hwf => ?_⟩
    have q45 := q4.exN (ExN.ofB b5) ml
    obtain ⟨ngo, ys, hy5, hya⟩ := q45
    have lys := dqa_len hya
    have sl : srt[j].toNat ≤ ds.length := by omega
    refine ⟨t5, ys, srt[j], w, rfl, rfl, hy5, Evl.sz_lt (by omega), b0, by omega, ?_⟩
    refine ⟨hsv, (q2.trans (ChL.ofB b5 (List.mem_cons_self ..))).trans (ChL.upd (by simp)), (d5.upd_ne h5l).up (by omega), ds.take srt[j].toNat ++ [dw] ++ ds.drop srt[j].toNat, ⟨ngo, _, upd_same, ?_⟩, by simp [q5]; omega, ?_, fun z => absurd z (Nat.succ_ne_zero _), fun _ => ?_⟩
    · rw [w_upd_in (List.mem_cons_self ..)]
      exact dqa_app (dqa_app (dqa_take _ hya) (.cons hw .nil)) (dqa_drop _ hya)
    · intro e he
      rcases List.mem_append.mp he with he | he
      · rcases List.mem_append.mp he with he | he
        · exact q6 e (List.mem_of_mem_take he)
        · rw [List.mem_singleton.mp he]; exact hwf
      · exact q6 e (List.mem_of_mem_drop he)
    · by_cases hj0 : j = 0
      · subst hj0
        obtain ⟨rfl, _⟩ := q7 rfl
        refine ⟨srt[0].toNat, by rw [List.getElem?_eq_getElem hj]; congr 1; omega, by simp; omega, fun i e hi he => ?_, fun e he => ?_⟩
        · rw [ins_get sl, if_pos hi] at he
          exact (hg e (List.mem_of_getElem? he)).1
        · rw [ins_get sl, if_neg (Nat.lt_irrefl _), if_pos rfl] at he
          cases he
          exact hwx
      · obtain ⟨i, i1, i2, i3, i4⟩ := q8 (by omega)
        have hle : (i : Int) ≤ srt[j] := by
          have h0 : 0 < srt.length := by omega
          rw [List.getElem?_eq_getElem h0] at i1
          have := List.pairwise_iff_getElem.mp hpw 0 j h0 hj (by omega)
          have e1 : srt[0] = (i : Int) := Option.some.inj i1
          omega
        refine ⟨i, i1, by simp; omega, fun i' e hi he => ?_, fun e he => ?_⟩
        · rw [ins_get sl, if_pos (by omega)] at he
          exact i3 i' e hi he
        · rw [ins_get sl] at he
          by_cases z : i < srt[j].toNat
          · rw [if_pos z] at he
            exact i4 e he
          · rw [if_neg z, if_pos (by omega)] at he
            cases he
            exact hwx
  · obtain ⟨q1, q2, q3, ds, q4, q5, q6, q7, q8⟩ := pv
    rw [List.length_map] at q3 q5 q7 q8
    refine k σ' H3 ds q1 ((ChL.of eA).trans q2) (q3.up (by omega)) q4 (by omega) q6 (fun z => q7 (by rw [hlen, z]; rfl)) fun z => ?_
    have h0 : 0 < srt.length := by
      rw [hlen]
      exact List.length_pos_iff.mpr z
    obtain ⟨i, i1, i2, i3, i4⟩ := q8 h0
    rw [List.getElem?_eq_getElem h0] at i1
    have e1 : srt[0] = (i : Int) := Option.some.inj i1
    refine ⟨i, by rw [← e1]; exact hperm.mem_iff.mp (List.getElem_mem h0), fun s hs => ?_, i2, i3, i4⟩
    obtain ⟨j, hj, rfl⟩ := List.getElem_of_mem (hperm.mem_iff.mpr hs)
    rcases Nat.eq_zero_or_pos j with rfl | hj0
    · omega
    · have := List.pairwise_iff_getElem.mp hpw 0 j h0 hj hj0
      omega
end
end U

set_option Elab.async false
set_option linter.all false
set_option maxRecDepth 100000
set_option maxHeartbeats 4000000
/-! parts: how many; the two calls of parts -/
namespace U
open PySem PySem.Spec PyProof.Rows L2
open Evl (Ex)
open C8 (Met Mak pe_mt pe_mt0 pe_mk)
theorem sel_count {c : Nat → Bool} {ds : List PyData} : ∀ n, n ≤ ds.length → (sel c ds n).length = ((List.range n).filter c).length
  | 0, _ => by simp [sel]
  | n + 1, h => by
    have q := sel_count (c := c) (ds := ds) n (by omega)
    rw [sel_step, List.length_append, q, List.range_succ, List.filter_append, List.length_append]
    congr 1
    have e : ds[n]? = some ds[n] := List.getElem?_eq_getElem (by omega)
    rw [e]
    by_cases z : c n = true
    · rw [if_pos z, List.filter_cons_of_pos z]
      rfl
    · rw [if_neg z, List.filter_cons_of_neg z]
      rfl
theorem cnt_in {ns : List Int} {m : Nat} (hnd : ns.Nodup) (hin : ∀ i ∈ ns, 0 ≤ i ∧ i < (m : Int)) : ((List.range m).filter (cIn ns)).length = ns.length := by
  have p : (((List.range m).filter (cIn ns)).map fun n : Nat => (n : Int)).Perm ns := by
    refine (List.perm_ext_iff_of_nodup ?_ hnd).mpr fun a => ?_
    · exact List.Pairwise.map _ (fun a b h e => h (by omega)) (List.Pairwise.filter _ List.nodup_range)
    · rw [List.mem_map]
      constructor
      · rintro ⟨n, hn, rfl⟩
        have := (List.mem_filter.mp hn).2
        unfold cIn at this
        exact of_decide_eq_true this
      · intro ha
        obtain ⟨h0, h1⟩ := hin a ha
        refine ⟨a.toNat, List.mem_filter.mpr ⟨List.mem_range.mpr (by omega), ?_⟩, by omega⟩
        unfold cIn
        exact decide_eq_true (by rw [show ((a.toNat : Nat) : Int) = a by omega]; exact ha)
  have := p.length_eq
  rw [List.length_map] at this
  exact this
theorem cnt_out {ns : List Int} {m : Nat} (hnd : ns.Nodup) (hin : ∀ i ∈ ns, 0 ≤ i ∧ i < (m : Int)) : ((List.range m).filter (cOut ns)).length + ns.length = m := by
  have h := List.length_eq_countP_add_countP (cIn ns) (l := List.range m)
  rw [List.length_range, List.countP_eq_length_filter, cnt_in hnd hin, List.countP_eq_length_filter] at h
  have e : (List.range m).filter (fun a => decide ¬cIn ns a = true) = (List.range m).filter (cOut ns) := by
    congr 1
    funext a
    unfold cOut cIn
    by_cases z : (a : Int) ∈ ns <;> simp [z]
  rw [e] at h
  omega
section
variable {K : PySem.W.Frag} {σ : L2.St} {H : Hp} {ds : List PyData} {a x C CI : Addr} {p : Int} {ns : List Int} {v : V} {c : List Int → Nat → Bool} {E : XK} {k : VK} {m : Str} {tx ti : TE}
theorem part_ok (hm : ∀ v0 : V, List.lookup m [("places", V.int p), ("_pairs", v0)] = none) (hx : Evl.Ev tx σ H (.ref x)) (hi : Evl.Ev ti σ H (.ref a)) (hS : Smp K [] H x C p ds) (p1 : 1 ≤ p) (p3 : p ≤ 3) (hR : Rws p ds) (hI : Idx K H a ns ds.length) (hk : ∀ y H2, Ex H H2 → Smp K [] H2 y C p (sel (c ns) ds ds.length) → k (.ref y) H2) : tMeth C m (spPartX K C CI c) [] E tx (tCons ti tNil) σ H k :=
  hx H (Ex.refl _) _ fun H1 e1 => by
    obtain ⟨dx, v0, hxx, _⟩ := id (hS.up e1)
    refine ⟨x, dx, _, rfl, hxx, hm _, hi H1 e1 _ fun H2 e2 => ?_⟩
    have e12 := e1.trans e2
    obtain ⟨h1, h2⟩ := hI
    exact .inl ⟨x, a, p, ds, ns, [], rfl, lsts_nil, hS.up e12, p1, p3, hR, ⟨h1.imp (Evl.ex_l e12) (Evl.ex_t e12), h2⟩, fun y H' e' hS' => hk y H' (e12.trans e') hS'⟩
theorem part_bad (hm : ∀ v0 : V, List.lookup m [("places", V.int p), ("_pairs", v0)] = none) (hx : Evl.Ev tx σ H (.ref x)) (hi : Evl.Ev ti σ H (.ref a)) (hS : Smp K [] H x C p ds) (hR : Rws p ds) {us : List V} (hs : SqL K H a us ∨ SqT K H a us) (hb : BadU K H ds.length us v) (hE : ErrE CI "index" v H E) : tMeth C m (spPartX K C CI c) [] E tx (tCons ti tNil) σ H k :=
  hx H (Ex.refl _) _ fun H1 e1 => by
    obtain ⟨dx, v0, hxx, _⟩ := id (hS.up e1)
    refine ⟨x, dx, _, rfl, hxx, hm _, hi H1 e1 _ fun H2 e2 => ?_⟩
    have e12 := e1.trans e2
    obtain ⟨ns, d, rest, h0, h1, h2, h3, h4, h5⟩ := hb
    exact .inr ⟨x, a, p, ds, v, [], rfl, hS.up e12, hR, BadU.idx ⟨ns, d, rest, h0, h1, h2, h3, h4.up e12, h5⟩ (hs.imp (Evl.ex_l e12) (Evl.ex_t e12)), hE.ex e12⟩
/-- the same of tuple(some) -/
theorem partT_ok (hm : ∀ v0 : V, List.lookup m [("places", V.int p), ("_pairs", v0)] = none) (hx : Evl.Ev tx σ H (.ref x)) (hi : Evl.Ev ti σ H (.ref a)) (hS : Smp K [] H x C p ds) (p1 : 1 ≤ p) (p3 : p ≤ 3) (hR : Rws p ds) (hI : SqL K H a (ns.map V.int) ∧ ns.Nodup ∧ (∀ i ∈ ns, 0 ≤ i ∧ i < (ds.length : Int)) ∧ ns.length ≤ 1000) (hk : ∀ y H2, Ex H H2 → Smp K [] H2 y C p (sel (c ns) ds ds.length) → k (.ref y) H2) : tMeth C m (spPartX K C CI c) [] E tx (tCons (tTupOf K ti) tNil) σ H k :=
  hx H (Ex.refl _) _ fun H1 e1 => by
    obtain ⟨dx, v0, hxx, _⟩ := id (hS.up e1)
    refine ⟨x, dx, _, rfl, hxx, hm _, hi H1 e1 _ fun H2 e2 => ?_⟩
    have e12 := e1.trans e2
    obtain ⟨h1, h2⟩ := hI
    refine ⟨a, ns.map V.int, rfl, .inl ⟨Evl.ex_l e12 h1, fun r hr => ?_⟩⟩
    have e13 := e12.trans (Ex.new (o := .tup (ns.map V.int)) hr)
    exact .inl ⟨x, r, p, ds, ns, [], rfl, lsts_nil, hS.up e13, p1, p3, hR, ⟨.inr (SqT.of upd_same), h2⟩, fun y H' e' hS' => hk y H' (e13.trans e') hS'⟩
theorem partT_bad (hm : ∀ v0 : V, List.lookup m [("places", V.int p), ("_pairs", v0)] = none) (hx : Evl.Ev tx σ H (.ref x)) (hi : Evl.Ev ti σ H (.ref a)) (hS : Smp K [] H x C p ds) (hR : Rws p ds) {us : List V} (hs : SqL K H a us) (hb : BadU K H ds.length us v) (hE : ErrE CI "index" v H E) : tMeth C m (spPartX K C CI c) [] E tx (tCons (tTupOf K ti) tNil) σ H k :=
  hx H (Ex.refl _) _ fun H1 e1 => by
    obtain ⟨dx, v0, hxx, _⟩ := id (hS.up e1)
    refine ⟨x, dx, _, rfl, hxx, hm _, hi H1 e1 _ fun H2 e2 => ?_⟩
    have e12 := e1.trans e2
    refine ⟨a, us, rfl, .inl ⟨Evl.ex_l e12 hs, fun r hr => ?_⟩⟩
    have e13 := e12.trans (Ex.new (o := .tup us) hr)
    obtain ⟨ns, d, rest, h0, h1, h2, h3, h4, h5⟩ := hb
    exact .inr ⟨x, r, p, ds, v, [], rfl, hS.up e13, hR, BadU.idx ⟨ns, d, rest, h0, h1, h2, h3, h4.up e13, h5⟩ (.inr (SqT.of upd_same)), hE.ex e13⟩
end
end U

set_option Elab.async false
set_option linter.all false
set_option maxRecDepth 100000
/-! x or y, x None or a tuple with items -/
namespace U
open PySem PySem.Spec PyProof.Rows L2
open Evl (Ex)
def tOrT (K : PySem.W.Frag) (ta tb : TE) : TE := fun σ H Q => ta σ H fun x H1 => (x = .non ∧ tb σ H1 Q) ∨ ∃ a xs, x = .ref a ∧ SqT K H1 a xs ∧ xs ≠ [] ∧ Q x H1
theorem pe_orT {X : Cx} {a b : Expr} {rest : List Expr} {pos : Pos} {ta tb : TE} (ha : PE X a ta) (hb : PE X (.BoolOp .Or (b :: rest) pos) tb) : PE X (.BoolOp .Or (a :: b :: rest) pos) (tOrT X.K ta tb) := by
  refine ⟨fun pins s σ H Q I h => ?_⟩
  refine BoolOp_or (thn (ha.run pins s σ H _ I h) fun v s1 ⟨x, H1, I1, r1, q1⟩ => ?_)
  rcases q1 with ⟨rfl, q1⟩ | ⟨t, xs, rfl, hT, hne, q1⟩
  · cases r1
    show wpAny _ _ (pure false) _ _ _
    exact wpAny_pure (hb.run pins s1 σ H1 Q I1 q1)
  · cases r1
    obtain ⟨its, rv, p, hz⟩ := I1.tuple hT
    have hl : its ≠ [] := fun z => by
      subst z
      cases rv
      exact hne rfl
    refine truthy_tuple (show IsTup s1.heap t its.toArray from p) (by rw [List.size_toArray]; have := rv.length; rw [sizeLine_eq] at hz; omega) ?_
    have e : (!its.toArray.isEmpty) = true := by
      cases its with
      | nil => exact absurd rfl hl
      | cons _ _ => rfl
    rw [e]
    exact ⟨.ref t, H1, I1.tok _, rfl, q1⟩
end U

set_option Elab.async false
set_option linter.all false
set_option maxRecDepth 100000
set_option maxHeartbeats 4000000
/-! some indexes, perhaps an odd one among them -/
namespace U
open PySem PySem.Spec PyProof.Rows L2
open Evl (Ex)
open C8 (Met Mak pe_mt pe_mt0 pe_mk)
section
variable {K : PySem.W.Frag} {L : List Addr} {σ : L2.St} {H H' H0 : Hp} {te tf ta tl : TE} {ds es : List PyData} {l a x t : Addr} {n m j : Nat} {v : V} {d : PyData} {us : List V} {T : List (Addr × Str)} {tz tr : TS} {D : Ends} {p : Int}
theorem sameq_ev (h1 : EvQ K [] te σ H d) (h2 : EvQ K [] tf σ H d) (hf : fits 5 d) : Evl.Ev (tCallD (spSameQ K 5) (tCons te (tCons tf tNil))) σ H (.bl true) := fun H1 e Q q =>
  h1 H1 e _ fun v H2 e2 hv => h2 H2 (e.trans e2) _ fun w H3 e3 hw => ⟨v, w, d, rfl, by rw [w_nil] at hv; exact hv.up e3, by rw [w_nil] at hw; exact hw, hf, fun H4 e4 => q H4 ((e2.trans e3).trans e4)⟩
/-- what the first odd one is found to be -/
def Due (K : PySem.W.Frag) (H : Hp) (m : Nat) (us : List V) (v8 : V) : Prop := (v8 = .non ∧ ∃ ns : List Int, us = ns.map V.int ∧ ns.Nodup ∧ (∀ i ∈ ns, 0 ≤ i ∧ i < (m : Int)) ∧ ns.length ≤ 1000) ∨ ∃ v t, v8 = .ref t ∧ H t = some (.tup [.str "index", v]) ∧ BadU K H m us v
theorem BadU.up (h : BadU K H m us v) (e : Ex H H') : BadU K H' m us v := by
  obtain ⟨ns, d, rest, h0, h1, h2, h3, h4, h5⟩ := h
  exact ⟨ns, d, rest, h0, h1, h2, h3, h4.up e, h5⟩
theorem BadU.ext (h : BadU K H m us v) (e : LamX.ExtN H H') : BadU K H' m us v := by
  obtain ⟨ns, d, rest, h0, h1, h2, h3, h4, h5⟩ := h
  exact ⟨ns, d, rest, h0, h1, h2, h3, dq_to (sqto_of e) _ _ h4, h5⟩
theorem first_run {Q : VK} (hta : Evl.Ev ta σ H (.ref x)) (htl : Evl.Ev tl σ H (.int (m : Int))) (hs : H x = some (.lst us)) (hu : DqAll K (W L H) us es) (hf : ∀ d ∈ es, fits 3 d) (hz : us.length ≤ 1000) (k : ∀ v8 H', Ex H H' → Due K H' m us v8 → Q v8 H') : tCallD (spFirst K) (tCons ta (tCons tl tNil)) σ H Q :=
  hta H (Ex.refl _) _ fun H1 e1 => htl H1 e1 _ fun H2 e2 => by
    have e12 := e1.trans e2
    have hu2 := (hu.up w_sub).up e12
    refine ⟨x, m, us, rfl, SqL.of (e12 _ _ hs), ?_⟩
    rcases split_idx (m := m) (ns := []) hu2 hf List.nodup_nil (fun _ h => nomatch h) (by show 0 + us.length ≤ 1000; omega) with ⟨ns, h1, h2, h3⟩ | ⟨v, hv⟩
    · have e : us = ns.map V.int := h1
      have hl : ns.length ≤ 1000 := by
        have := congrArg List.length e
        rw [List.length_map] at this
        omega
      exact .inl ⟨ns, e, h2, h3, hl, fun H' e' => k _ H' (e12.trans e') (.inl ⟨rfl, ns, e, h2, h3, hl⟩)⟩
    · exact .inr ⟨v, hv, fun t H' e' ht => k _ H' (e12.trans e') (.inr ⟨v, t, rfl, ht, hv.up e'⟩)⟩
def oddIx (m : Nat) : List PyData := [.none, .int (-1), .bool true, .bool false, .str "0", .tuple [.int 0], .int (m : Int)]
theorem oddIx_ok (h : d ∈ oddIx m) : fits 3 d := by
  unfold oddIx at h
  simp only [List.mem_cons, List.not_mem_nil, or_false] at h
  rcases h with rfl | rfl | rfl | rfl | rfl | rfl | rfl
  · trivial
  · trivial
  · trivial
  · trivial
  · trivial
  · exact ⟨by show 1 ≤ 40000; omega, fun e he => by rw [List.mem_singleton.mp he]; trivial⟩
  · trivial
theorem evq_dnew2 (hL : Hid L H) : EvQ K L tDNewK σ H (.dict []) := fun H1 e Q q p hp => q (.ref p) _ (Ex.new hp) (.dct (w_new (hid_ex e hL) hp))
/-- perhaps something odd is put among drawn numbers -/
theorem some_run {ms : List Int} {xr : List V} (Sv : L2.St → Prop) (s0 : Sv σ) (hs : ∀ σ' y, Sv σ' → Sv (σ'.set 9 (some y))) (hv : ∀ σ', Sv σ' → σ'[2]? = some (some (.ref l)) ∧ σ'[5]? = some (some (.ref t)) ∧ σ'[11]? = some (some (.ref x))) (h9 : ∀ σ' y, Sv σ' → (σ'.set 9 (some y))[9]? = some (some y))
    (hd : Dr n H l) (hn : n < 900000) (hx : H x = some (.lst (ms.map V.int))) (hxl : x ≠ l) (hz : ms.length ≤ 10) (ht : H t = some (.lst xr)) (htl : t ≠ l) (htm : xr.length = m) (hm : m ≤ 1000)
    (k : ∀ σ' H' us es, Sv σ' → ChL [l, x] H H' → Dr (n + 10) H' l → H' x = some (.lst us) → DqAll K (W [x, l] H') us es → (∀ d ∈ es, fits 3 d) → us.length ≤ 20 → tz D σ' H') :
    tSeq (tIfS (tTest (tOp rEq (tCallD spDraw (tCons (tVar 2) (tCons (tC (.int 2)) tNil))) (tC (.int 0))))
      (tSeq (tAsg (tCallD (spPickV K) (tCons (tVar 2) (tCons (tLst (tCons (tC .non) (tCons (tUn (rU fun i => .int (-i)) (tC (.int 1))) (tCons (tC (.bl true)) (tCons (tC (.bl false)) (tCons (tC (.str "0")) (tCons (tTup (tCons (tC (.int 0)) tNil)) (tCons (tCB (Evl.rLenS K) (tCons (tVar 5) tNil)) tNil)))))))) tNil))) (gName 9))
        (tDrop (tBM K "list" rIns (tVar 11) (tCons (tCallD spDraw (tCons (tVar 2) (tCons (tOp (rI0 fun i j => .int (i + j)) (tCB (Evl.rLenS K) (tCons (tVar 11) tNil)) (tC (.int 1))) tNil))) (tCons (tVar 9) tNil))))) tNext) tz D σ H := by
  obtain ⟨v2, v5, v11⟩ := hv σ s0
  refine draw_runJ (j := 2) (n := n) (many := 2) v2 hd (by omega) Evl.ev_c (by decide) (by decide) fun r H1 r0 r1 d1 b1 => ⟨rfl, _, rfl, ?_⟩
  have hx1 := b1 _ _ hxl hx
  have ht1 := b1 _ _ htl ht
  have hid1 : Hid [x, l] H1 := fun b m => by
    rcases List.mem_cons.mp m with z | m
    · rw [z, hx1]; simp
    · rw [List.mem_singleton.mp m]; exact d1.ne
  have intsA : ∀ {H : Hp} (ms : List Int), DqAll K H (ms.map V.int) (ms.map PyData.int) := fun ms => dqa_of _ _ (dpa_ints ms)
  have intf : ∀ (ms : List Int), ∀ d ∈ ms.map PyData.int, fits 3 d := fun ms d hd => by
    obtain ⟨i, _, rfl⟩ := List.mem_map.mp hd
    trivial
  have cl : ChL [l, x] H H1 := ChL.ofB b1 (List.mem_cons_self ..)
  refine ite2 (fun _ => ?_) (fun _ => ?_)
  · refine pickq_run (K := K) (L := [x, l]) (j := 2) (n := n + 1) (ds := oddIx m) v2 d1 (by omega) (List.mem_cons_of_mem _ (List.mem_singleton.mpr rfl)) (evq_lst hid1 (evqs_cons evq_non (evqs_cons (evq_evI (fun H1 e Q q => ⟨1, rfl, q H1 (Ex.refl _)⟩)) (evqs_cons evq_bl (evqs_cons evq_bl (evqs_cons evq_str (evqs_cons (evq_tup hid1 (evqs_cons evq_int evqs_nil) (by simp)) (evqs_cons (evq_evI (Evl.ev_is (ev_lenS (a := t) (xs := xr) (Evl.ev_var v5) (.inl (SqL.of ht1))) (by rw [htm]))) evqs_nil))))))) (by show 7 ≤ 100000; omega)) (by show 0 < 7; decide) (by show 7 < 1000000; decide) fun v d H2 hm2 b2 d2 hvd => ?_
    have hs9 := hs σ v s0
    obtain ⟨w2, w5, w11⟩ := hv _ hs9
    have hx2 := b2 _ _ hxl hx1
    refine ⟨_, w11, Or.inl ⟨rfl, _, SqL.of hx2⟩, ?_⟩
    refine draw_runJ (j := 2) (n := n + 2) (many := (ms.length : Int) + 1) w2 d2 (by omega) (Evl.ev_op (Evl.ev_is (ev_lenS (a := x) (xs := ms.map V.int) (Evl.ev_var w11) (.inl (SqL.of hx2))) (by rw [List.length_map])) Evl.ev_c (Evl.rv_I0 (g := fun i j => .int (i + j)))) (by omega) (by omega) fun q H3 q0 q1 d3 b3 => ?_
    have hx3 := b3 _ _ hxl hx2
    refine ⟨_, h9 σ v s0, x, ms.map V.int, q, v, rfl, rfl, hx3, Evl.sz_lt (by rw [List.length_map]; omega), q0, by omega, ?_⟩
    have mlx : l ∈ [x, l] := List.mem_cons_of_mem _ (List.mem_singleton.mpr rfl)
    refine k _ _ _ ((ms.map PyData.int).take q.toNat ++ [d] ++ (ms.map PyData.int).drop q.toNat) hs9 (((cl.trans (ChL.ofB b2 (List.mem_cons_self ..))).trans (ChL.ofB b3 (List.mem_cons_self ..))).trans (ChL.upd (by simp))) ((d3.upd_ne hxl).up (by omega)) upd_same ?_ (fun e he => ?_) (by simp; omega)
    · rw [w_upd_in (List.mem_cons_self ..)]
      exact dqa_app (dqa_app (dqa_take _ (intsA ms)) (.cons (hvd.up (b3.w mlx)) .nil)) (dqa_drop _ (intsA ms))
    · rcases List.mem_append.mp he with he | he
      · rcases List.mem_append.mp he with he | he
        · exact intf ms e (List.mem_of_mem_take he)
        · rw [List.mem_singleton.mp he]; exact oddIx_ok hm2
      · exact intf ms e (List.mem_of_mem_drop he)
  · exact k σ H1 _ (ms.map PyData.int) s0 cl (d1.up (by omega)) hx1 (intsA ms) (intf ms) (by rw [List.length_map]; omega)
end
end U

set_option Elab.async false
set_option linter.all false
set_option maxRecDepth 100000
set_option maxHeartbeats 4000000
/-! the law -/
namespace U
open PySem PySem.Spec PyProof.Rows L2
open Evl (Ex)
open C8 (Met Mak pe_mt pe_mt0 pe_mk)
abbrev s_law : Stmt := top 32
abbrev sc_law_N : List Str := ["_law_script", "_law_turn", "_law_draws", "_law_places", "_law_odd", "_law_rows_here", "_law_spots", "_law_at", "_law_due", "_law_thing", "_law_sample", "_law_some", "_law_few", "_law_many", "_law_k"]
theorem sc_law : FnScope sc_law_N ["_law_script"] (defScope s_law) := ⟨rfl, rfl, rfl, by decide +kernel, rfl, by decide +kernel, by decide +kernel⟩
structure TxS (mg : Str → Option Value) : Prop extends TxF mg where
  m_sorted : mg "sorted" = none
  m_min : mg "min" = none
section
variable {K : PySem.W.Frag} {H H' H1 H2 : Hp} {l : Addr} {T : List (Addr × Str)} {n m : Nat} {L : List Addr} {p : Int} {d : PyData} {ds es : List PyData} {v : V}
/-- nothing but a table stood there -/
def NTb (H : Hp) (l : Addr) : Prop := ∀ o, H l = some o → ∃ ps, o = .tbl ps
theorem ntb_of (x : LamX.ExtN H H1) (h : H1 l = none) : NTb H l := fun o e => by
  apply Classical.byContradiction
  intro hn
  have := x l o e fun ps z => hn ⟨ps, z⟩
  rw [h] at this
  cases this
/-- how far the turn is -/
structure Sg (T : List (Addr × Str)) (l : Addr) (H : Hp) (n : Nat) (H' : Hp) : Prop where
  x : LamX.ExtN H H'
  t : LamX.Tabs T H'
  d : Dr n H' l
  nl : NTb H l
theorem Sg.e (s : Sg T l H n H1) (e : Ex H1 H2) : Sg T l H n H2 := ⟨s.x.trans (LamX.ExtN.of e), s.t.ext e, s.d.ex e, s.nl⟩
theorem Sg.x' (s : Sg T l H n H1) (e : LamX.ExtN H1 H2) (t : LamX.Tabs T H2) : Sg T l H n H2 := ⟨s.x.trans e, t, s.d.extN e, s.nl⟩
theorem Sg.b (s : Sg T l H n H1) (b : ExB l H1 H2) (d : Dr m H2 l) : Sg T l H m H2 := ⟨fun c o h z => b c o (fun e => by rw [e] at h; obtain ⟨ps, q⟩ := s.nl o h; exact z ps q) (s.x c o h z), tabs_exB s.t b s.d.lst, d, s.nl⟩
theorem Sg.c (s : Sg T l H n H1) (c : ChL L H1 H2) (hn : ∀ a ∈ L, NTb H a) (hL : Lsts L H1) (d : Dr m H2 l) : Sg T l H m H2 := ⟨fun b o h z => c b o (fun e => by obtain ⟨ps, q⟩ := hn b e o h; exact z ps q) (s.x b o h z), tabs_ch s.t c hL, d, s.nl⟩
theorem Sg.hid (s : Sg T l H n H1) : Hid [l] H1 := fun a m => by rw [List.mem_singleton.mp m]; exact s.d.ne
theorem q_asgS {C : Addr} {te : TE} {σ : L2.St} {D : Ends} {tz : TS} {i : Nat} (h : EvS K L C p ds te σ H) (k : ∀ y H1, Ex H H1 → Smp K L H1 y C p ds → tz D (σ.set i (some (.ref y))) H1) : tSeq (tAsg te (gName i)) tz D σ H := h H (Ex.refl H) _ fun y H1 e s => k y H1 e s
def oddTh : List PyData := [.none, .int 5, .str "ab", .dict [], .bool true]
theorem oddTh_ok (h : d ∈ oddTh) : isR d = false ∧ fits 3 d := by
  unfold oddTh at h
  simp only [List.mem_cons, List.not_mem_nil, or_false] at h
  rcases h with rfl | rfl | rfl | rfl | rfl
  · exact ⟨rfl, trivial⟩
  · exact ⟨rfl, trivial⟩
  · exact ⟨rfl, trivial⟩
  · exact ⟨rfl, rfl⟩
  · exact ⟨rfl, trivial⟩
def oddPl : List PyData := [.int 0, .int 4, .int (-1), .none, .bool true, .str "2", .tuple [.int 1], .list [], .int (10 ^ 20), .dict []]
theorem oddPl_ok (h : d ∈ oddPl) : isN d = false ∧ fits 3 d := by
  unfold oddPl at h
  simp only [List.mem_cons, List.not_mem_nil, or_false] at h
  rcases h with rfl | rfl | rfl | rfl | rfl | rfl | rfl | rfl | rfl | rfl
  · exact ⟨rfl, trivial⟩
  · exact ⟨rfl, trivial⟩
  · exact ⟨rfl, trivial⟩
  · exact ⟨rfl, trivial⟩
  · exact ⟨rfl, trivial⟩
  · exact ⟨rfl, trivial⟩
  · exact ⟨rfl, by show 1 ≤ 40000; omega, fun e he => by rw [List.mem_singleton.mp he]; trivial⟩
  · exact ⟨rfl, Nat.zero_le _, fun _ h => nomatch h⟩
  · exact ⟨by decide +kernel, trivial⟩
  · exact ⟨rfl, rfl⟩
theorem fits_two {a : Str} (h : fits 4 d) : fits 5 (.tuple [.str a, d]) := ⟨by show 2 ≤ 40000; omega, fun e he => by
  simp only [List.mem_cons, List.not_mem_nil, or_false] at he
  rcases he with rfl | rfl
  · trivial
  · exact h⟩
theorem rws_rs : ∀ {p : Int} {ds : List PyData}, (∀ d ∈ ds, Rw p d) → ∃ rs : List (List Int × Bool), ds = rs.map fun r => rowD r.1 r.2
  | _, [], _ => ⟨[], rfl⟩
  | p, d :: ds, h => by
    obtain ⟨ns, b, rfl, _⟩ := h d (List.mem_cons_self ..)
    obtain ⟨rs, rfl⟩ := rws_rs (p := p) (ds := ds) fun e he => h e (List.mem_cons_of_mem _ he)
    exact ⟨(ns, b) :: rs, rfl⟩
end
section
variable {P : Program} {w : World} {K : PySem.W.Frag} {mg : Str → Option Value} {base : Heap} {C T0 : Addr}
theorem EvD.q {L : List Addr} {te : TE} {σ : L2.St} {H : Hp} {d : PyData} (h : EvD K L te σ H d) : EvQ K L te σ H d := fun H1 e Q q => h H1 e Q fun v H2 e2 hv => q v H2 e2 hv.q
theorem eg_exX {σ : L2.St} {H : Hp} {te : TE} {x : Addr} {p : Int} {ds : List PyData} (h : Evl.Ev te σ H (.ref x)) (hS : Smp K [] H x C p ds) : EvG K [] (tMeth C "examples" (spExamples K C) [] E0 te tNil) σ H ds := fun H1 e Q q => h H1 e _ fun H2 e2 => by
  have hS2 := hS.up (e.trans e2)
  obtain ⟨dx, v, h1, h2⟩ := id hS2
  exact ⟨x, dx, _, rfl, h1, rfl, x, p, ds, [], rfl, (fun _ m => nomatch m), hS2, fun t H3 ht e3 g => q t H3 (Evl.fresh_back e2 ht) (e2.trans e3) g⟩
abbrev lawQ : Str := (envOfC "law" (defScope s_law) 0 0 .none).qual ++ "<lambda>"
theorem law_try {f fl cA PT CP CE CI : Addr} {fdl : FuncData} {A : Around} {outer : List Env} {E : XK} {s : Shared} {H : Hp} {a : Addr} {ns : List Int} {Q0 : VK} (T : TxS mg) (S : SmpC K C) (M : ExM K CP CE CI) (hr : Room 9 (A.deeper (envOfC "law" (defScope s_law) s.heap.objs.size f (.ref cA))))
    (hT : ∀ H, Dp K H (.ref T0) (.tuple [])) (DE : EndL P w K mg base cA PT CP CE CI) (FL : FnOk P w K mg base CX0 1 fl fdl ["self"] (spLen K C)) (eL : SpM K C fl "__len__") (bL : Binds K fdl ["self"] [])
    (N_Sample : Mak P w K mg base 5 "Sample" C (spInitM K C) []) (N_SampleX : MakX P w K mg base 5 "Sample" C (spInitX K C CP CE) []) (N_SampleX0 : MakX P w K mg base 5 "Sample" C (spInitX K C CP CE) [.ref T0]) (M_part : MetX P w K mg base 7 C "part" (spPartX K C CI cIn) []) (M_without : MetX P w K mg base 7 C "without" (spPartX K C CI cOut) [])
    (M_examples : Met P w K mg base 1 C "examples" (spExamples K C) [])
    (D_source : DefAt P w K mg base "_law_source" 1 ["_law_script", "_law_at"] (spSource K)) (D_draw : DefAt P w K mg base "_law_draw" 1 ["_law_draws", "_law_many"] spDraw)
    (D_rows : DefAt P w K mg base "_law_rows" 3 ["_law_draws", "_law_places", "_law_most", "_law_wide"] (spRows K))
    (D_pick : DefAt P w K mg base "_law_pick" 2 ["_law_draws", "_law_things"] (spPickV K)) (D_same : DefAt P w K mg base "_law_same" 6 ["_law_found", "_law_due"] (spSameQ K 5)) (D_odd_example : DefAt P w K mg base "_law_odd_example" 4 ["_law_draws", "_law_places"] (spOdd2 K isX)) (D_first_odd : DefAt P w K mg base "_law_first_odd" 1 ["_law_some", "_law_size"] (spFirst K))
    (hS : SqL K H a (ns.map V.int)) (hlen : ns.length ≤ 63) (ht0 : LamX.Tabs [(PT, lawQ)] H) (k0 : ∀ H', Q0 (.bl true) H') :
    ∃ t, PSs (cxOf CX0 P w K mg base sc_law_N "law" (defScope s_law) f (.ref cA) A outer s H E).nox (defBody s_law) t ∧
        t { nx := fun _ H' => Q0 .non H', rt := Q0 } (L2.start sc_law_N [V.ref a]) H := by
  refine ⟨_, (pss_cons (ps_for PassesOwn.never rfl (pi_range1 (by rfl) T.m_range (pa_cons pe_int pa_nil)) (pg_name (i := 1) sc_law.nd rfl (by first | exact Or.inl rfl | exact Or.inr rfl))
      (pss_cons (ps_set (i := 2) sc_law.nd rfl (by first | exact Or.inl rfl | exact Or.inr rfl) (pe_callD D_source (by first | exact hr | exact hr.mono (by decide) | exact hr.mono (by omega)) (by rfl) (pa_cons (pv 0) (pa_cons (pv 1) pa_nil))))
      (pss_cons (ps_set (i := 3) sc_law.nd rfl (by first | exact Or.inl rfl | exact Or.inr rfl) (pe_op op_add pe_int (pe_callD D_draw (by first | exact hr | exact hr.mono (by decide) | exact hr.mono (by omega)) (by rfl) (pa_cons (pv 2) (pa_cons pe_int pa_nil)))))
      (pss_cons (ps_set (i := 4) sc_law.nd rfl (by first | exact Or.inl rfl | exact Or.inr rfl) (pe_callD D_pick (by first | exact hr | exact hr.mono (by decide) | exact hr.mono (by omega)) (by rfl) (pa_cons (pv 2) (pa_cons (pe_lst (pa_cons pe_int (pa_cons pe_int (pa_cons (pe_un un_neg pe_int) (pa_cons pe_non (pa_cons pe_bl (pa_cons pe_str (pa_cons (pe_tup (pa_cons pe_int pa_nil)) (pa_cons (pe_lst pa_nil) (pa_cons (pe_op op_pow pe_int pe_int) (pa_cons (pe_dnewK) pa_nil))))))))))) pa_nil))))
      (pss_cons (ps_if (pt_not (pt_val (pe_callD D_same (by first | exact hr | exact hr.mono (by decide) | exact hr.mono (by omega)) (by rfl) (pa_cons (pe_end (k := 7) DE (by rfl) rfl (hr.mono (by omega)) (LamX.lamS_by (sc := defScope s_law) (by decide +kernel)) (fun A outer s H E f c' hr2 => pe_callB (call_lenO FL (hr2.mono (by omega)) eL bL) (by rfl) T.m_len (by decide +kernel) (pa_cons (pe_mkX N_SampleX0 hr2 (by decide) (Passes.of (takes_of rfl rfl rfl rfl)) (by rfl) (pa_cons (pv 4) pa_nil)) pa_nil))) (pa_cons (pe_tup (pa_cons pe_str (pa_cons (pv 4) pa_nil))) pa_nil))))) (pss_one (ps_ret pe_bl)) pss_nil)
      (pss_cons (ps_if (pt_not (pt_val (pe_callD D_same (by first | exact hr | exact hr.mono (by decide) | exact hr.mono (by omega)) (by rfl) (pa_cons (pe_end (k := 7) DE (by rfl) rfl (hr.mono (by omega)) (LamX.lamS_by (sc := defScope s_law) (by decide +kernel)) (fun A outer s H E f c' hr2 => pe_callB (call_lenO FL (hr2.mono (by omega)) eL bL) (by rfl) T.m_len (by decide +kernel) (pa_cons (pe_mkX N_SampleX hr2 (by decide) (Passes.of (takes_of rfl rfl rfl rfl)) (by rfl) (pa_cons (pv 4) (pa_cons (pe_lst (pa_cons pe_int pa_nil)) pa_nil))) pa_nil))) (pa_cons (pe_tup (pa_cons pe_str (pa_cons (pv 4) pa_nil))) pa_nil))))) (pss_one (ps_ret pe_bl)) pss_nil)
      (pss_cons (ps_set (i := 5) sc_law.nd rfl (by first | exact Or.inl rfl | exact Or.inr rfl) (pe_callD D_rows (by first | exact hr | exact hr.mono (by decide) | exact hr.mono (by omega)) (by rfl) (pa_cons (pv 2) (pa_cons (pv 3) (pa_cons pe_int (pa_cons pe_int pa_nil))))))
      (pss_cons (ps_setLc (i := 6) (own := [("_law_k", 14)]) (g := gName 14) (tt := tYes) (te := tCallD spDraw (tCons (tVar 2) (tCons (tOp (rI0 fun i j => .int (i + j)) (tCB (Evl.rLenS K) (tCons (tVar 5) tNil)) (tC (.int 1))) tNil))) (by rfl) sc_law.nd rfl rfl (sw_true rfl rfl rfl (by decide +kernel)) (pi_range1 (by rfl) T.m_range (pa_cons (pe_callD D_draw (by first | exact hr | exact hr.mono (by decide) | exact hr.mono (by omega)) (by rfl) (pa_cons (pv 2) (pa_cons pe_int pa_nil))) pa_nil)) (blkOk_by (N := sc_law_N) (sc := defScope s_law) (by decide +kernel)) (fun _ _ _ _ _ => (pg_name (i := 14) sc_law.nd rfl (by first | exact Or.inl rfl | exact Or.inr rfl))) (fun _ _ _ _ _ => pts_nil) (fun _ _ _ _ _ => (pe_callD D_draw (by first | exact hr | exact hr.mono (by decide) | exact hr.mono (by omega)) (by rfl) (pa_cons (pv 2) (pa_cons (pe_op op_add (pe_callB call_len_seq (by rfl) T.m_len (by decide +kernel) (pa_cons (pv 5) pa_nil)) pe_int) pa_nil)))))
      (pss_cons (ps_for PassesOwn.never rfl (pi_list (pe_callB cr_sorted (by rfl) T.m_sorted (by decide +kernel) (pa_cons (pv 6) pa_nil))) (pg_name (i := 7) sc_law.nd rfl (by first | exact Or.inl rfl | exact Or.inr rfl))
        (pss_one (ps_expr (pe_bm PySem.F.plainAttrs_list PySem.F.slot_list_insert PySem.F.type_list_insert mt_insert (pv 5) (pa_cons (pv 7) (pa_cons (pe_callD D_odd_example (by first | exact hr | exact hr.mono (by decide) | exact hr.mono (by omega)) (by rfl) (pa_cons (pv 2) (pa_cons (pv 3) pa_nil))) pa_nil))))))
      (pss_cons (ps_set (i := 8) sc_law.nd rfl (by first | exact Or.inl rfl | exact Or.inr rfl) (pe_ifExp (pt_cmpR (op_eqD hr.units) (pv 6) (pe_lst pa_nil) (nomark _)) (pe_tup (pa_cons pe_str (pa_cons (pe_callB call_len_seq (by rfl) T.m_len (by decide +kernel) (pa_cons (pv 5) pa_nil)) pa_nil))) (pe_tup (pa_cons pe_str (pa_cons (pe_callB (cr_min rfl) (by rfl) T.m_min (by decide +kernel) (pa_cons (pv 6) pa_nil)) pa_nil)))))
      (pss_cons (ps_if (pt_not (pt_val (pe_callD D_same (by first | exact hr | exact hr.mono (by decide) | exact hr.mono (by omega)) (by rfl) (pa_cons (pe_end (k := 7) DE (by rfl) rfl (hr.mono (by omega)) (LamX.lamS_by (sc := defScope s_law) (by decide +kernel)) (fun A outer s H E f c' hr2 => pe_callB (call_lenO FL (hr2.mono (by omega)) eL bL) (by rfl) T.m_len (by decide +kernel) (pa_cons (pe_mkX N_SampleX hr2 (by decide) (Passes.of (takes_of rfl rfl rfl rfl)) (by rfl) (pa_cons (pv 3) (pa_cons (pv 5) pa_nil))) pa_nil))) (pa_cons (pv 8) pa_nil))))) (pss_one (ps_ret pe_bl)) pss_nil)
      (pss_cons (ps_set (i := 9) sc_law.nd rfl (by first | exact Or.inl rfl | exact Or.inr rfl) (pe_callD D_pick (by first | exact hr | exact hr.mono (by decide) | exact hr.mono (by omega)) (by rfl) (pa_cons (pv 2) (pa_cons (pe_lst (pa_cons pe_non (pa_cons pe_int (pa_cons pe_str (pa_cons (pe_dnewK) (pa_cons pe_bl pa_nil)))))) pa_nil))))
      (pss_cons (ps_if (pt_not (pt_val (pe_callD D_same (by first | exact hr | exact hr.mono (by decide) | exact hr.mono (by omega)) (by rfl) (pa_cons (pe_end (k := 7) DE (by rfl) rfl (hr.mono (by omega)) (LamX.lamS_by (sc := defScope s_law) (by decide +kernel)) (fun A outer s H E f c' hr2 => pe_callB (call_lenO FL (hr2.mono (by omega)) eL bL) (by rfl) T.m_len (by decide +kernel) (pa_cons (pe_mkX N_SampleX hr2 (by decide) (Passes.of (takes_of rfl rfl rfl rfl)) (by rfl) (pa_cons (pv 3) (pa_cons (pv 9) pa_nil))) pa_nil))) (pa_cons (pe_tup (pa_cons pe_str (pa_cons pe_int pa_nil))) pa_nil))))) (pss_one (ps_ret pe_bl)) pss_nil)
      (pss_cons (ps_set (i := 5) sc_law.nd rfl (by first | exact Or.inl rfl | exact Or.inr rfl) (pe_callD D_rows (by first | exact hr | exact hr.mono (by decide) | exact hr.mono (by omega)) (by rfl) (pa_cons (pv 2) (pa_cons (pv 3) (pa_cons pe_int (pa_cons pe_int pa_nil))))))
      (pss_cons (ps_set (i := 10) sc_law.nd rfl (by first | exact Or.inl rfl | exact Or.inr rfl) (pe_mk N_Sample hr (by decide) (by rfl) (pa_cons (pv 3) (pa_cons (pv 5) pa_nil))))
      (pss_cons (ps_set (i := 11) sc_law.nd rfl (by first | exact Or.inl rfl | exact Or.inr rfl) (pe_lc (own := [("_law_k", 14)]) (g := gName 14) (tt := tYes) (by rfl) sc_law.nd (pi_range1 (by rfl) T.m_range (pa_cons (pe_callD D_draw (by first | exact hr | exact hr.mono (by decide) | exact hr.mono (by omega)) (by rfl) (pa_cons (pv 2) (pa_cons pe_int pa_nil))) pa_nil)) (blkOk_by (N := sc_law_N) (sc := defScope s_law) (by decide +kernel)) (fun _ _ _ _ _ => (pg_name (i := 14) sc_law.nd rfl (by first | exact Or.inl rfl | exact Or.inr rfl))) (fun _ _ _ _ _ => pts_nil) (fun _ _ _ _ _ => (pe_callD D_draw (by first | exact hr | exact hr.mono (by decide) | exact hr.mono (by omega)) (by rfl) (pa_cons (pv 2) (pa_cons pe_int pa_nil))))))
      (pss_cons (ps_if (pt_cmpR op_eq (pe_callD D_draw (by first | exact hr | exact hr.mono (by decide) | exact hr.mono (by omega)) (by rfl) (pa_cons (pv 2) (pa_cons pe_int pa_nil))) pe_int (nomark _)) (pss_cons (ps_set (i := 9) sc_law.nd rfl (by first | exact Or.inl rfl | exact Or.inr rfl) (pe_callD D_pick (by first | exact hr | exact hr.mono (by decide) | exact hr.mono (by omega)) (by rfl) (pa_cons (pv 2) (pa_cons (pe_lst (pa_cons pe_non (pa_cons (pe_un un_neg pe_int) (pa_cons pe_bl (pa_cons pe_bl (pa_cons pe_str (pa_cons (pe_tup (pa_cons pe_int pa_nil)) (pa_cons (pe_callB call_len_seq (by rfl) T.m_len (by decide +kernel) (pa_cons (pv 5) pa_nil)) pa_nil)))))))) pa_nil))))
        (pss_one (ps_expr (pe_bm PySem.F.plainAttrs_list PySem.F.slot_list_insert PySem.F.type_list_insert mt_insert (pv 11) (pa_cons (pe_callD D_draw (by first | exact hr | exact hr.mono (by decide) | exact hr.mono (by omega)) (by rfl) (pa_cons (pv 2) (pa_cons (pe_op op_add (pe_callB call_len_seq (by rfl) T.m_len (by decide +kernel) (pa_cons (pv 11) pa_nil)) pe_int) pa_nil))) (pa_cons (pv 9) pa_nil)))))) pss_nil)
      (pss_cons (ps_set (i := 8) sc_law.nd rfl (by first | exact Or.inl rfl | exact Or.inr rfl) (pe_callD D_first_odd (by first | exact hr | exact hr.mono (by decide) | exact hr.mono (by omega)) (by rfl) (pa_cons (pv 11) (pa_cons (pe_callB call_len_seq (by rfl) T.m_len (by decide +kernel) (pa_cons (pv 5) pa_nil)) pa_nil))))
      (pss_cons (ps_set (i := 12) sc_law.nd rfl (by first | exact Or.inl rfl | exact Or.inr rfl) (pe_end (k := 7) DE (by rfl) rfl (hr.mono (by omega)) (LamX.lamS_by (sc := defScope s_law) (by decide +kernel)) (fun A outer s H E f c' hr2 => pe_callB (call_lenO FL (hr2.mono (by omega)) eL bL) (by rfl) T.m_len (by decide +kernel) (pa_cons (pe_mtX M_part hr2 (by decide) (Passes.of (takes_of rfl rfl rfl rfl)) (pv 10) (pa_cons (pv 11) pa_nil)) pa_nil))))
      (pss_cons (ps_set (i := 13) sc_law.nd rfl (by first | exact Or.inl rfl | exact Or.inr rfl) (pe_end (k := 7) (t := fun E => tCB (rLenO C (spLen K C)) (tCons (tMeth C "without" (spPartX K C CI cOut) [] E (tVar 10) (tCons (tTupOf K (tVar 11)) tNil)) tNil)) DE (by rfl) rfl (hr.mono (by omega)) (LamX.lamS_by (sc := defScope s_law) (by decide +kernel)) (fun A outer s H E f c' hr2 => pe_callB (call_lenO FL (hr2.mono (by omega)) eL bL) (by rfl) T.m_len (by decide +kernel) (pa_cons (pe_mtX M_without hr2 (by decide) (Passes.of (takes_of rfl rfl rfl rfl)) (pv 10) (pa_cons (pe_callTy (T := "tuple") call_tuple_of (by rfl) T.m_tuple (by decide +kernel) (pa_cons (pv 11) pa_nil)) pa_nil)) pa_nil))))
      (pss_cons (ps_if (pt_not (pt_val (pe_callD D_same (by first | exact hr | exact hr.mono (by decide) | exact hr.mono (by omega)) (by rfl) (pa_cons (pe_lst (pa_cons (pv 12) (pa_cons (pv 13) pa_nil))) (pa_cons (pe_lst (pa_cons (pe_orT (pv 8) (pe_one (pe_tup (pa_cons pe_str (pa_cons (pe_callB call_len_seq (by rfl) T.m_len (by decide +kernel) (pa_cons (pv 11) pa_nil)) pa_nil))))) (pa_cons (pe_orT (pv 8) (pe_one (pe_tup (pa_cons pe_str (pa_cons (pe_op op_sub (pe_callB call_len_seq (by rfl) T.m_len (by decide +kernel) (pa_cons (pv 5) pa_nil)) (pe_callB call_len_seq (by rfl) T.m_len (by decide +kernel) (pa_cons (pv 11) pa_nil))) pa_nil))))) pa_nil))) pa_nil))))) (pss_one (ps_ret pe_bl)) pss_nil)
      (pss_one (ps_if (pt_not (pt_val (pe_callD D_same (by first | exact hr | exact hr.mono (by decide) | exact hr.mono (by omega)) (by rfl) (pa_cons (pe_mt0 M_examples hr (by decide) (pv 10)) (pa_cons (pv 5) pa_nil))))) (pss_one (ps_ret pe_bl)) pss_nil)))))))))))))))))))))))
    (pss_one (ps_ret pe_bl))), ?_⟩
  refine Evl.q_forR1 (n := 5) (Evl.ea_cons Evl.ev_c Evl.ea_nil) (by decide) (fun _ σ' H' => LamX.ExtN H H' ∧ LamX.Tabs [(PT, lawQ)] H' ∧ ∃ o1 o2 o3 o4 o5 o6 o7 o8 o9 o10 o11 o12 o13 o14, σ' = [some (.ref a), o1, o2, o3, o4, o5, o6, o7, o8, o9, o10, o11, o12, o13, o14])
    (fun H1 e => ⟨LamX.ExtN.of e, ht0.ext e, _, _, _, _, _, _, _, _, _, _, _, _, _, _, rfl⟩) ?_ ?_
  · rintro i σ' H1 hi ⟨x1, t1, o1, o2, o3, o4, o5, o6, o7, o8, o9, o10, o11, o12, o13, o14, rfl⟩
    refine ⟨_, rfl, _, rfl, a, ns, i, rfl, sqL_extN hS x1, hlen, by omega, fun l o hl hd => ?_⟩
    have ml : l ∈ [l] := List.mem_singleton.mpr rfl
    have hid0 : ∀ H : Hp, Hid [] H := fun H a m => nomatch m
    have s2 : Sg [(PT, lawQ)] l H 0 (upd H1 l o) := ⟨x1.trans (LamX.ExtN.of (Ex.new hl)), t1.ext (Ex.new hl), hd, ntb_of x1 hl⟩
    generalize upd H1 l o = H2 at hd s2 ⊢
    clear hd x1 t1
    -- the places
    refine draw_runJ (j := 2) (n := 0) (l := l) (many := 3) (by rfl) s2.d (by decide) Evl.ev_c (by decide) (by decide) fun r1 H3 r10 r11 d3 b3 => ?_
    refine ⟨_, _, rfl, rfl, ?_⟩
    obtain ⟨p, hp⟩ : ∃ p : Int, p = 1 + r1 := ⟨_, rfl⟩
    show tSeq _ _ _ (List.set _ 3 (some (.int (1 + r1)))) H3
    rw [← hp]
    have p1 : 1 ≤ p := by omega
    have p3 : p ≤ 3 := by omega
    have s3 := s2.b b3 d3
    -- an odd number of places
    refine pickq_run (K := K) (L := [l]) (j := 2) (n := 1) (ds := oddPl) rfl s3.d (by decide) ml (evq_lst s3.hid (evqs_cons evq_int (evqs_cons evq_int (evqs_cons (evq_evI (fun H1 e Q q => ⟨1, rfl, q H1 (Ex.refl _)⟩)) (evqs_cons evq_non (evqs_cons evq_bl (evqs_cons evq_str (evqs_cons (evq_tup s3.hid (evqs_cons evq_int evqs_nil) (by simp)) (evqs_cons (evq_lst s3.hid evqs_nil (by simp)) (evqs_cons (evq_evI (Evl.ev_op Evl.ev_c Evl.ev_c (Evl.rv_I (g := fun i j => .int (i ^ j.toNat)) (i := 10) (j := 20) ⟨by decide, by decide, by decide⟩))) (evqs_cons (evq_dnew s3.hid) evqs_nil)))))))))) (by show 10 ≤ 100000; omega)) (by show 0 < 10; decide) (by show 10 < 1000000; decide) fun v4 d4 H4 hm4 b4 dr4 hv4 => ?_
    obtain ⟨hN4, hf4⟩ := oddPl_ok hm4
    have s4 := s3.b b4 dr4
    have dq4 : ∀ {H1 : Hp}, LamX.ExtN H4 H1 → Dq K H1 v4 d4 := fun e => (dq_exN hv4 (ExN.ofN e) ml).up w_sub
    have due4 : ∀ {σ : L2.St} H1, σ[4]? = some (some v4) → LamX.ExtN H4 H1 → EvQ K [] (tTup (tCons (tC (.str "places")) (tCons (tVar 4) tNil))) σ H1 (.tuple [.str "places", d4]) := fun H1 h e => evq_tup (hid0 _) (evqs_cons evq_str (evqs_cons (evq_of (Evl.ev_var h) (by rw [w_nil]; exact dq4 e)) evqs_nil)) (by show 2 ≤ 100000; omega)
    refine same_run (K := K) (d := .tuple [.str "places", d4]) (endq_bad (K := K) (C := C) (X := fun E => tMake C (spInitX K C CP CE) [.ref T0] E (tCons (tVar 4) tNil)) .p M s4.t (fun H1 e => dq4 e) (fun H1 e1 E k hE => mkX_places0 hT (Evl.ev_var rfl) (dq4 e1) hN4 hE)) (fun H1 e => due4 H1 rfl e) (fits_two (fits_up (by decide) hf4)) (fun H5 x5 t5 => ?_)
    refine same_run (K := K) (d := .tuple [.str "places", d4]) (endq_bad (K := K) (C := C) (X := fun E => tMake C (spInitX K C CP CE) [] E (tCons (tVar 4) (tCons (tLst (tCons (tC (.int 5)) tNil)) tNil))) .p M t5 (fun H1 e => dq4 (x5.trans e)) (fun H1 e1 E k hE => mkX_places (de := .list [.int 5]) (Evl.ev_var rfl) (dq4 (x5.trans e1)) hN4 (evq_lst (hid0 _) (evqs_cons evq_int evqs_nil) (by simp)) ⟨2, by show 1 ≤ 40000; omega, fun e he => by rw [List.mem_singleton.mp he]; trivial⟩ hE)) (fun H1 e => due4 H1 rfl (x5.trans e)) (fits_two (fits_up (by decide) hf4)) (fun H6 x6 t6 => ?_)
    have s6 := (s4.x' x5 t5).x' x6 t6
    clear dq4 due4 hv4 x5 t5 x6 t6 s4 b4 dr4 s3 b3 d3 s2 hm4 hN4 hf4
    -- the rows
    refine ⟨.ref l, rfl, .int p, rfl, l, p, 6, 9, 2, [l], rfl, s6.d, by decide, ml, s6.hid, p1, p3, by decide, by decide, by decide, by decide, fun tr ds H7 htr b7 d7 g7 hz7 hw7 => ?_⟩
    have s7 := s6.b b7 d7
    have htr0 : NTb H tr := ntb_of s6.x htr
    have hRw : Rws p ds := ⟨by omega, hw7⟩
    have htrl : tr ≠ l := fun e => g7.1 (by rw [e]; exact ml)
    obtain ⟨_, xs7, hx7, hxa7⟩ := id g7
    have lx7 := dpa_len hxa7
    -- where the odd ones go
    dsimp only [gName, List.set]
    refine draws_asg (n := 703) (iS := 6) rfl (c := 3) (many := (ds.length : Int) + 1) (by decide) (by decide) (by omega) (by omega) ?h0 ?h2 ?hw s7.d (by decide) (fun x H1 b => ?hm) fun D6 sp H8 hD6 b8 d8 h8x hl8 hb8 => ?_
    case h0 => rfl
    case h2 => intro x; rfl
    case hw => intro x; rfl
    case hm => exact Evl.ev_op (Evl.ev_is (ev_lenS (a := tr) (xs := xs7) (Evl.ev_var (v := .ref tr) rfl) (.inl (SqL.of (b _ _ htrl hx7)))) (by rw [lx7])) Evl.ev_c (Evl.rv_I0 (g := fun i j => .int (i + j)))
    have s8 := s7.b b8 d8
    have g8 := g7.exB b8 ml
    have D6l : D6 ≠ l := fun e => s7.d.ne (by rw [← e]; exact hD6)
    have D6t : D6 ≠ tr := fun e => g7.ne (by rw [← e]; exact hD6)
    refine ins_run (K := K) (p := p) (n := 805) (ds0 := ds) (sp := sp) (t5 := tr) (t6 := D6) s8.d (by decide) p1 p3 g8 (fun d hd => ⟨rw_isX (hw7 d hd), rw_fits (hw7 d hd)⟩) (by omega) h8x (by omega) (fun s hs => hb8 s hs) (fun σ' => ∃ o7, σ' = [some (.ref a), some (.int (i : Int)), some (.ref l), some (.int p), some v4, some (.ref tr), some (.ref D6), o7, o8, o9, o10, o11, o12, o13, o14]) ⟨_, rfl⟩ (by rintro σ' x ⟨_, rfl⟩; exact ⟨_, rfl⟩) (by rintro σ' ⟨_, rfl⟩; exact ⟨rfl, rfl, rfl, rfl⟩) (by rintro σ' x ⟨_, rfl⟩; rfl) ?_
    rintro σ' H9 ds9 ⟨o7', rfl⟩ c9 d9 g9 hl9 hf9 he9 hne9
    have s9 : Sg [(PT, lawQ)] l H 1305 H9 := s8.c c9 (fun b m => by
      rcases List.mem_cons.mp m with z | m
      · rw [z]; exact s8.nl
      · rw [List.mem_singleton.mp m]; exact htr0) (fun b m => by
      rcases List.mem_cons.mp m with z | m
      · rw [z]; exact s8.d.lst
      · rw [List.mem_singleton.mp m]
        obtain ⟨_, ys, q, _⟩ := g8
        exact ⟨ys, q⟩) d9
    have h9x : H9 D6 = some (.lst (sp.map V.int)) := c9 _ _ (fun m => by
      rcases List.mem_cons.mp m with z | m
      · exact D6l z
      · exact D6t (List.mem_singleton.mp m)) h8x
    obtain ⟨_, ys9, hy9, hya9⟩ := id g9
    have ly9 := dqa_len hya9
    have hl3 : sp.length ≤ 2 := by omega
    -- what is due
    obtain ⟨d8, hdue, hend, hf8⟩ : ∃ d8, EvQ K [l] (tIf (tTest (tOp (rEqD K) (tVar 6) (tLst tNil))) (tTup (tCons (tC (.str "told")) (tCons (tCB (Evl.rLenS K) (tCons (tVar 5) tNil)) tNil))) (tTup (tCons (tC (.str "example")) (tCons (tCB (rMin K) (tCons (tVar 6) tNil)) tNil)))) [some (.ref a), some (.int (i : Int)), some (.ref l), some (.int p), some v4, some (.ref tr), some (.ref D6), o7', o8, o9, o10, o11, o12, o13, o14] H9 d8 ∧
        (∀ v8 H10, LamX.ExtN H9 H10 → LamX.Tabs [(PT, lawQ)] H10 → EndQ K [(PT, lawQ)] (LamX.tLam [(PT, lawQ)] (TEnd K (clsE CP CE CI)) (fun E => tCB (rLenO C (spLen K C)) (tCons (tMake C (spInitX K C CP CE) [] E (tCons (tVar 3) (tCons (tVar 5) tNil))) tNil))) [some (.ref a), some (.int (i : Int)), some (.ref l), some (.int p), some v4, some (.ref tr), some (.ref D6), o7', some v8, o9, o10, o11, o12, o13, o14] H10 d8) ∧ fits 5 d8 := by
      have tst : Evl.EvT (tTest (tOp (rEqD K) (tVar 6) (tLst tNil))) [some (.ref a), some (.int (i : Int)), some (.ref l), some (.int p), some v4, some (.ref tr), some (.ref D6), o7', o8, o9, o10, o11, o12, o13, o14] H9 (decide (sp = [])) := fun H1 e1 Q q => ⟨.ref D6, rfl, by show 0 ≤ sizeLine; exact Nat.zero_le _, fun r hr => ⟨.list (sp.map .int), .list [], .lst (SqL.of ((e1.trans (Ex.new hr)) _ _ h9x)) (dpa_ints sp), .lst (SqL.of upd_same) .nil, by
        have h := lay_ints sp
        refine Bool.and_eq_true_iff.mpr ⟨h.1, decide_eq_true ?_⟩
        show PyData.depthAll (sp.map .int) + 1 ≤ 64
        rw [h.2]
        decide, rfl, _, rfl, by
        have e : PyData.eqv (.list (sp.map .int)) (.list []) = decide (sp = []) := by
          cases sp with
          | nil => rfl
          | cons _ _ => rfl
        rw [e]
        exact q _ (Ex.new hr)⟩⟩
      by_cases hsp : sp = []
      · obtain ⟨e9, g9r⟩ := he9 hsp
        subst e9
        refine ⟨.tuple [.str "told", .int (ds9.length : Nat)], fun H1 e1 Q q => tst H1 e1 _ fun H2 e2 => ?_, fun v8 H10 x10 t10 => ?_, fits_two trivial⟩
        · rw [decide_eq_true hsp, if_pos rfl]
          exact (evq_tup (hid_ex (e1.trans e2) s9.hid) (evqs_cons evq_str (evqs_cons (evq_evI (Evl.ev_is (ev_lenS (a := tr) (xs := ys9) (Evl.ev_var rfl) (.inl (SqL.of ((e1.trans e2) _ _ hy9)))) (by rw [ly9]))) evqs_nil)) (by show 2 ≤ 100000; omega)) H2 (Ex.refl _) Q fun v H3 e3 hv => q v H3 (e2.trans e3) hv
        · exact endq_told (K := K) (C := C) (n := ds9.length) (X := fun E => tMake C (spInitX K C CP CE) [] E (tCons (tVar 3) (tCons (tVar 5) tNil))) t10 (fun H1 e1 E k hk => mkX_ok (p := p) (ds := ds9) (Evl.ev_var rfl) p1 p3 (evd_of (Evl.ev_var (v := .ref tr) rfl) (by rw [w_nil]; exact ((g9r.exN (ExN.ofN (x10.trans e1)) ml).dp).up w_sub)) hRw.toM.1 (fun y H2 e2 hS2 => hk y p _ H2 e2 hS2 (by rw [List.length_map]))) (by omega)
      · obtain ⟨ix, ix1, ix2, ix3, ix4, ix5⟩ := hne9 hsp
        refine ⟨.tuple [.str "example", .int (ix : Int)], fun H1 e1 Q q => tst H1 e1 _ fun H2 e2 => ?_, fun v8 H10 x10 t10 => ?_, fits_two trivial⟩
        · rw [decide_eq_false hsp, if_neg Bool.false_ne_true]
          have mn : Evl.Ev (tCB (rMin K) (tCons (tVar 6) tNil)) [some (.ref a), some (.int (i : Int)), some (.ref l), some (.int p), some v4, some (.ref tr), some (.ref D6), o7', o8, o9, o10, o11, o12, o13, o14] H2 (.int (ix : Int)) := fun H3 e3 Q q => ⟨_, rfl, D6, sp, rfl, SqL.of (((e1.trans e2).trans e3) _ _ h9x), List.length_pos_iff.mpr hsp, fun m hm hmin => by
            have e : m = (ix : Int) := Int.le_antisymm (hmin _ ix1) (ix2 m hm)
            rw [e]
            exact q H3 (Ex.refl _)⟩
          exact (evq_tup (hid_ex (e1.trans e2) s9.hid) (evqs_cons evq_str (evqs_cons (evq_evI mn) evqs_nil)) (by show 2 ≤ 100000; omega)) H2 (Ex.refl _) Q fun v H3 e3 hv => q v H3 (e2.trans e3) hv
        · refine endq_bad (K := K) (C := C) (v := .int (ix : Int)) (d := .int (ix : Int)) (X := fun E => tMake C (spInitX K C CP CE) [] E (tCons (tVar 3) (tCons (tVar 5) tNil))) .e M t10 (fun _ _ => .int _) (fun H1 e1 E k hE => mkX_odd (p := p) (ds := ds9) (Evl.ev_var rfl) p1 p3 (evq_of (Evl.ev_var (v := .ref tr) rfl) (by rw [w_nil]; exact ((g9.exN (ExN.ofN (x10.trans e1)) ml).dp).up w_sub)) ⟨7, by show ds9.length ≤ 40000; omega, hf9⟩ ix3 ix4 ix5 hE)
    refine qq_asg hdue fun v8 H10 e10 hv8 => ?_
    have s10 := s9.e e10
    refine same_run (K := K) (d := d8) (hend v8 H10 (LamX.ExtN.of e10) s10.t) (fun H1 e => evq_of (Evl.ev_var rfl) (by rw [w_nil]; exact (dq_exN hv8 (ExN.ofN e) ml).up w_sub)) hf8 (fun H11 x11 t11 => ?_)
    have s11 := s10.x' x11 t11
    clear hdue hend hf8 he9 hne9 hf9 g9 hy9 hya9 ly9 h9x c9 d9 s8 s9 s10 x11 t11 hv8 e10 h8x hb8 hl8 b8 d8 g8 hx7 hxa7 lx7 g7 b7 d7 s7 s6 hw7 hz7 hRw
    -- no rows at all
    refine pickq_run (K := K) (L := [l]) (j := 2) (n := 1305) (ds := oddTh) rfl s11.d (by decide) ml (evq_lst s11.hid (evqs_cons evq_non (evqs_cons evq_int (evqs_cons evq_str (evqs_cons (evq_dnew s11.hid) (evqs_cons evq_bl evqs_nil))))) (by show 5 ≤ 100000; omega)) (by show 0 < 5; decide) (by show 5 < 1000000; decide) fun v9 dv9 H12 hm9 b12 dr12 hv9 => ?_
    have s12 := s11.b b12 dr12
    obtain ⟨hR9, hf9⟩ := oddTh_ok hm9
    have dq9 : ∀ {H1 : Hp}, LamX.ExtN H12 H1 → Dq K H1 v9 dv9 := fun e => (dq_exN hv9 (ExN.ofN e) ml).up w_sub
    refine same_run (K := K) (d := .tuple [.str "example", .int 0]) (endq_bad (K := K) (C := C) (v := .int 0) (d := .int 0) (X := fun E => tMake C (spInitX K C CP CE) [] E (tCons (tVar 3) (tCons (tVar 9) tNil))) .e M s12.t (fun _ _ => .int _) (fun H1 e1 E k hE => mkX_none (p := p) (Evl.ev_var rfl) p1 p3 (evq_of (Evl.ev_var (v := v9) rfl) (by rw [w_nil]; exact dq9 e1)) ⟨3, hf9⟩ hR9 hE)) (fun H1 e => evq_tup (hid0 _) (evqs_cons evq_str (evqs_cons evq_int evqs_nil)) (by show 2 ≤ 100000; omega)) (fits_two trivial) (fun H13 x13 t13 => ?_)
    have s13 := s12.x' x13 t13
    clear dq9 hv9 hR9 hf9 hm9 x13 t13 s12 b12 dr12 s11
    -- a sample
    refine ⟨.ref l, rfl, .int p, rfl, l, p, 6, 9, 1306, [l], rfl, s13.d, by decide, ml, s13.hid, p1, p3, by decide, by decide, by decide, by decide, fun tq dq H14 htq b14 d14 g14 hz14 hw14 => ?_⟩
    have s14 := s13.b b14 d14
    have hRq : Rws p dq := ⟨by omega, hw14⟩
    have tql : tq ≠ l := fun e => g14.1 (by rw [e]; exact ml)
    dsimp only [gName, List.set]
    refine q_asgS (K := K) (C := C) (L := [l]) (p := p) (ds := dq.map cpy) ?hmk fun y H15 e15 hS15 => ?_
    case hmk => exact mk_runM (K := K) (C := C) (L := [l]) (Evl.ev_var (v := .int p) rfl) (.inl (evd_of (L := []) (Evl.ev_var (v := .ref tq) rfl) (by rw [w_nil]; exact g14.dp.up w_sub))) (fun b m => by rw [List.mem_singleton.mp m]; exact s14.d.lst) p1 p3 hRq.toM.1
    rw [hRq.toM.2] at hS15
    have s15 := s14.e e15
    have g15 := g14.up e15
    have yl : y ≠ l := fun e => by
      obtain ⟨dx, v0, q, _⟩ := id hS15
      obtain ⟨xs, q2⟩ := s15.d.lst
      rw [e, q2] at q
      cases q
    -- some numbers
    dsimp only [gName, List.set]
    refine draws_asg (n := 2007) (iS := 11) rfl (c := 4) (many := 8) (by decide) (by decide) (by decide) (by decide) ?h0 ?h2 ?hw s15.d (by decide) (fun x H1 b => ?hm) fun D11 ms H16 hD11 b16 d16 h16x hl16 hb16 => ?_
    case h0 => rfl
    case h2 => intro x; rfl
    case hw => intro x; rfl
    case hm => exact Evl.ev_c
    have s16 := s15.b b16 d16
    have g16 := g15.exB b16 ml
    have D11l : D11 ≠ l := fun e => s15.d.ne (by rw [← e]; exact hD11)
    obtain ⟨_, xs16, hx16, hxa16⟩ := id g16
    have lx16 := dpa_len hxa16
    refine some_run (K := K) (l := l) (x := D11) (t := tq) (n := 2109) (m := dq.length) (ms := ms) (xr := xs16) (fun σ' => ∃ o9', σ' = [some (.ref a), some (.int (i : Int)), some (.ref l), some (.int p), some v4, some (.ref tq), some (.ref D6), o7', some v8, o9', some (.ref y), some (.ref D11), o12, o13, o14]) ⟨_, rfl⟩ (by rintro σ' x ⟨_, rfl⟩; exact ⟨_, rfl⟩) (by rintro σ' ⟨_, rfl⟩; exact ⟨rfl, rfl, rfl⟩) (by rintro σ' x ⟨_, rfl⟩; rfl) s16.d (by decide) h16x D11l (by omega) hx16 tql lx16 (by omega) ?_
    rintro σ' H17 us es ⟨o9', rfl⟩ c17 d17 h17x hu17 hf17 hz17
    have s17 : Sg [(PT, lawQ)] l H 2119 H17 := s16.c c17 (fun b m => by
      rcases List.mem_cons.mp m with z | m
      · rw [z]; exact s16.nl
      · rw [List.mem_singleton.mp m]; exact ntb_of s15.x hD11) (fun b m => by
      rcases List.mem_cons.mp m with z | m
      · rw [z]; exact s16.d.lst
      · rw [List.mem_singleton.mp m]; exact ⟨_, h16x⟩) d17
    have b1517 : ExB l H15 H17 := fun b o nb h => c17 b o (fun m => by
      rcases List.mem_cons.mp m with z | m
      · exact nb z
      · rw [List.mem_singleton.mp m, hD11] at h; cases h) (b16 b o nb h)
    have hS17 := hS15.exN (ExN.ofB b1517) ml yl
    have g17 := g15.exB b1517 ml
    obtain ⟨_, xs17, hx17, hxa17⟩ := id g17
    have lx17 := dpa_len hxa17
    clear hS15 g15 g14 s13 s14 s15 s16 g16 hx16 hxa16 lx16 c17 d17 b1517 b16 d16 h16x b14 d14 hb16 hl16 hD11
    -- the first odd one
    refine first_run (K := K) (L := [D11, l]) (x := D11) (m := dq.length) (us := us) (Evl.ev_var (v := .ref D11) rfl) (Evl.ev_is (ev_lenS (a := tq) (xs := xs17) (Evl.ev_var (v := .ref tq) rfl) (.inl (SqL.of hx17))) (by rw [lx17])) h17x hu17 hf17 (by omega) fun w8 H18 e18 hdue => ?_
    have s18 := s17.e e18
    have hS18 : Smp K [] H18 y C p dq := (hS17.low (L := []) (fun _ m => nomatch m)).up e18
    have g18 := g17.up e18
    have h18x := e18 _ _ h17x
    have hx18 := e18 _ _ hx17
    clear hS17 g17 h17x hu17 hxa17 s17 e18 hx17
    dsimp only [gName, List.set]
    have exS : ∀ {H1 : Hp}, LamX.ExtN H18 H1 → Smp K [] H1 y C p dq := fun e => by
      obtain ⟨dx, v0, q1, q2⟩ := id hS18
      rw [w_nil] at q2
      exact ⟨dx, v0, e _ _ q1 (fun _ z => by cases z), by rw [w_nil]; exact dp_to (sqto_of e) _ _ q2⟩
    have exL : ∀ {H1 : Hp} {b : Addr} {xs : List V}, LamX.ExtN H18 H1 → H18 b = some (.lst xs) → H1 b = some (.lst xs) := fun e h => e _ _ h (fun _ z => by cases z)
    have lnS : ∀ {H1 : Hp} {q12 q13 q14 : Option V}, LamX.ExtN H18 H1 → Evl.Ev (tCB (Evl.rLenS K) (tCons (tVar 11) tNil)) [some (.ref a), some (.int (i : Int)), some (.ref l), some (.int p), some v4, some (.ref tq), some (.ref D6), o7', some w8, o9', some (.ref y), some (.ref D11), q12, q13, q14] H1 (.int (us.length : Int)) := fun e => ev_lenS (a := D11) (xs := us) (Evl.ev_var (v := .ref D11) rfl) (.inl (SqL.of (exL e h18x)))
    have lnR : ∀ {H1 : Hp} {q12 q13 q14 : Option V}, LamX.ExtN H18 H1 → Evl.Ev (tCB (Evl.rLenS K) (tCons (tVar 5) tNil)) [some (.ref a), some (.int (i : Int)), some (.ref l), some (.int p), some v4, some (.ref tq), some (.ref D6), o7', some w8, o9', some (.ref y), some (.ref D11), q12, q13, q14] H1 (.int (dq.length : Int)) := fun e => Evl.ev_is (ev_lenS (a := tq) (xs := xs17) (Evl.ev_var (v := .ref tq) rfl) (.inl (SqL.of (exL e hx18)))) (by rw [lx17])
    obtain ⟨dF, dM, hF, hM, oF, oM, fF, fM⟩ : ∃ dF dM,
        (∀ q12 q13 q14 H1, LamX.ExtN H18 H1 → LamX.Tabs [(PT, lawQ)] H1 → EndQ K [(PT, lawQ)] (LamX.tLam [(PT, lawQ)] (TEnd K (clsE CP CE CI)) (fun E => tCB (rLenO C (spLen K C)) (tCons (tMeth C "part" (spPartX K C CI cIn) [] E (tVar 10) (tCons (tVar 11) tNil)) tNil))) [some (.ref a), some (.int (i : Int)), some (.ref l), some (.int p), some v4, some (.ref tq), some (.ref D6), o7', some w8, o9', some (.ref y), some (.ref D11), q12, q13, q14] H1 dF) ∧
        (∀ q12 q13 q14 H1, LamX.ExtN H18 H1 → LamX.Tabs [(PT, lawQ)] H1 → EndQ K [(PT, lawQ)] (LamX.tLam [(PT, lawQ)] (TEnd K (clsE CP CE CI)) (fun E => tCB (rLenO C (spLen K C)) (tCons (tMeth C "without" (spPartX K C CI cOut) [] E (tVar 10) (tCons (tTupOf K (tVar 11)) tNil)) tNil))) [some (.ref a), some (.int (i : Int)), some (.ref l), some (.int p), some v4, some (.ref tq), some (.ref D6), o7', some w8, o9', some (.ref y), some (.ref D11), q12, q13, q14] H1 dM) ∧
        (∀ q12 q13 q14 H1, LamX.ExtN H18 H1 → EvQ K [] (tOrT K (tVar 8) (tTup (tCons (tC (.str "told")) (tCons (tCB (Evl.rLenS K) (tCons (tVar 11) tNil)) tNil)))) [some (.ref a), some (.int (i : Int)), some (.ref l), some (.int p), some v4, some (.ref tq), some (.ref D6), o7', some w8, o9', some (.ref y), some (.ref D11), q12, q13, q14] H1 dF) ∧
        (∀ q12 q13 q14 H1, LamX.ExtN H18 H1 → EvQ K [] (tOrT K (tVar 8) (tTup (tCons (tC (.str "told")) (tCons (tOp (rI0 fun i j => .int (i - j)) (tCB (Evl.rLenS K) (tCons (tVar 5) tNil)) (tCB (Evl.rLenS K) (tCons (tVar 11) tNil))) tNil)))) [some (.ref a), some (.int (i : Int)), some (.ref l), some (.int p), some v4, some (.ref tq), some (.ref D6), o7', some w8, o9', some (.ref y), some (.ref D11), q12, q13, q14] H1 dM) ∧ fits 4 dF ∧ fits 4 dM := by
      have f2 : ∀ {z : Str} {d : PyData}, fits 3 d → fits 4 (.tuple [.str z, d]) := fun {z d} h => ⟨by show 2 ≤ 40000; omega, fun e he => by
        simp only [List.mem_cons, List.not_mem_nil, or_false] at he
        rcases he with rfl | rfl
        · trivial
        · exact h⟩
      rcases hdue with ⟨rfl, nn, rfl, hnd, hin, hlen2⟩ | ⟨bv, t8, rfl, ht8, hbad⟩
      · have cI := cnt_in hnd hin
        have cO := cnt_out hnd hin
        have hsI : (sel (cIn nn) dq dq.length).length = nn.length := by rw [sel_count _ (Nat.le_refl _), cI]
        have hsO : (sel (cOut nn) dq dq.length).length = dq.length - nn.length := by rw [sel_count _ (Nat.le_refl _)]; omega
        refine ⟨.tuple [.str "told", .int ((nn.length : Nat) : Int)], .tuple [.str "told", .int ((dq.length - nn.length : Nat) : Int)], fun q12 q13 q14 H1 e1 t1 => ?_, fun q12 q13 q14 H1 e1 t1 => ?_, fun q12 q13 q14 H1 e1 H2 e2 Q q => ?_, fun q12 q13 q14 H1 e1 H2 e2 Q q => ?_, f2 trivial, f2 trivial⟩
        · exact endq_told (K := K) (C := C) (n := nn.length) (X := fun E => tMeth C "part" (spPartX K C CI cIn) [] E (tVar 10) (tCons (tVar 11) tNil)) t1 (fun H2 e2 E k hk => part_ok (fun _ => rfl) (Evl.ev_var (v := .ref y) rfl) (Evl.ev_var (v := .ref D11) rfl) (exS (e1.trans e2)) p1 p3 hRq ⟨.inl (SqL.of (exL (e1.trans e2) h18x)), hnd, hin, hlen2⟩ (fun y2 H3 e3 hS2 => hk y2 p _ H3 e3 hS2 hsI)) (by omega)
        · exact endq_told (K := K) (C := C) (n := dq.length - nn.length) (X := fun E => tMeth C "without" (spPartX K C CI cOut) [] E (tVar 10) (tCons (tTupOf K (tVar 11)) tNil)) t1 (fun H2 e2 E k hk => partT_ok (fun _ => rfl) (Evl.ev_var (v := .ref y) rfl) (Evl.ev_var (v := .ref D11) rfl) (exS (e1.trans e2)) p1 p3 hRq ⟨SqL.of (exL (e1.trans e2) h18x), hnd, hin, hlen2⟩ (fun y2 H3 e3 hS2 => hk y2 p _ H3 e3 hS2 hsO)) (by omega)
        · refine ⟨.non, rfl, .inl ⟨rfl, ?_⟩⟩
          exact evq_tup (K := K) (L := []) (H := H2) (hid0 _) (evqs_cons evq_str (evqs_cons (evq_evI (Evl.ev_is (lnS (e1.trans (LamX.ExtN.of e2))) (by rw [List.length_map]))) evqs_nil)) (by show 2 ≤ 100000; omega) H2 (Ex.refl _) Q q
        · refine ⟨.non, rfl, .inl ⟨rfl, ?_⟩⟩
          exact evq_tup (K := K) (L := []) (H := H2) (hid0 _) (evqs_cons evq_str (evqs_cons (evq_evI (Evl.ev_is (Evl.ev_op (lnR (e1.trans (LamX.ExtN.of e2))) (lnS (e1.trans (LamX.ExtN.of e2))) (Evl.rv_I0 (g := fun i j => .int (i - j)))) (by rw [List.length_map]; congr 1; omega))) evqs_nil)) (by show 2 ≤ 100000; omega) H2 (Ex.refl _) Q q
      · obtain ⟨nb, bd, brest, hb0, hb1, hb2, hb3, hb4, hb5, hb6⟩ := id hbad
        have bdq : ∀ {H1 : Hp}, LamX.ExtN H18 H1 → Dq K H1 bv bd := fun e => dq_to (sqto_of e) _ _ hb4
        have t8q : ∀ {H1 : Hp}, LamX.ExtN H18 H1 → H1 t8 = some (.tup [.str "index", bv]) := fun e => e _ _ ht8 (fun _ z => by cases z)
        have orE : ∀ (te : TE) q12 q13 q14 H1, LamX.ExtN H18 H1 → EvQ K [] (tOrT K (tVar 8) te) [some (.ref a), some (.int (i : Int)), some (.ref l), some (.int p), some v4, some (.ref tq), some (.ref D6), o7', some (.ref t8), o9', some (.ref y), some (.ref D11), q12, q13, q14] H1 (.tuple [.str "index", bd]) := fun te q12 q13 q14 H1 e1 H2 e2 Q q => by
          have e12 := e1.trans (LamX.ExtN.of e2)
          refine ⟨.ref t8, rfl, .inr ⟨t8, _, rfl, SqT.of (t8q e12), by simp, q _ H2 (Ex.refl _) ?_⟩⟩
          rw [w_nil]
          exact .tup (SqT.of (t8q e12)) (.cons (.str _) (.cons (bdq e12) .nil))
        refine ⟨.tuple [.str "index", bd], .tuple [.str "index", bd], fun q12 q13 q14 H1 e1 t1 => ?_, fun q12 q13 q14 H1 e1 t1 => ?_, orE _, orE _, f2 hb5, f2 hb5⟩
        · exact endq_bad (K := K) (C := C) (v := bv) (d := bd) (X := fun E => tMeth C "part" (spPartX K C CI cIn) [] E (tVar 10) (tCons (tVar 11) tNil)) .i M t1 (fun H2 e2 => bdq (e1.trans e2)) (fun H2 e2 E k hE => part_bad (us := us) (fun _ => rfl) (Evl.ev_var (v := .ref y) rfl) (Evl.ev_var (v := .ref D11) rfl) (exS (e1.trans e2)) hRq (.inl (SqL.of (exL (e1.trans e2) h18x))) (hbad.ext (e1.trans e2)) hE)
        · exact endq_bad (K := K) (C := C) (v := bv) (d := bd) (X := fun E => tMeth C "without" (spPartX K C CI cOut) [] E (tVar 10) (tCons (tTupOf K (tVar 11)) tNil)) .i M t1 (fun H2 e2 => bdq (e1.trans e2)) (fun H2 e2 E k hE => partT_bad (us := us) (fun _ => rfl) (Evl.ev_var (v := .ref y) rfl) (Evl.ev_var (v := .ref D11) rfl) (exS (e1.trans e2)) hRq (SqL.of (exL (e1.trans e2) h18x)) (hbad.ext (e1.trans e2)) hE)
    clear hdue
    refine (hF _ _ _ _ (LamX.ExtN.refl _) s18.t) _ fun w12 H19 x19 t19 hw12 => ?_
    refine (hM _ _ _ _ x19 t19) _ fun w13 H20 x20 t20 hw13 => ?_
    have x1820 := x19.trans x20
    have hw12' : Dq K H20 w12 dF := dq_to (sqto_of x20) _ _ hw12
    have s20 := (s18.x' x19 t19).x' x20 t20
    dsimp only [gName, List.set]
    have fpair : fits 5 (.list [dF, dM]) := ⟨by show 2 ≤ 40000; omega, fun e he => by
      simp only [List.mem_cons, List.not_mem_nil, or_false] at he
      rcases he with rfl | rfl
      · exact fF
      · exact fM⟩
    refine Evl.q_when (b := false) (Evl.et_is (Evl.et_not (a := true) (Evl.et_B (sameq_ev (K := K) (d := .list [dF, dM]) (evq_lst (hid0 _) (evqs_cons (evq_of (Evl.ev_var (v := w12) rfl) (by rw [w_nil]; exact hw12')) (evqs_cons (evq_of (Evl.ev_var (v := w13) rfl) (by rw [w_nil]; exact hw13)) evqs_nil)) (by show 2 ≤ 100000; omega)) (evq_lst (hid0 _) (evqs_cons (oF _ _ _ _ x1820) (evqs_cons (oM _ _ _ _ x1820) evqs_nil)) (by show 2 ≤ 100000; omega)) fpair))) rfl) (fun z => nomatch z) (fun _ H21 e21 => ?_)
    have s21 := s20.e e21
    have x1821 := x1820.trans (LamX.ExtN.of e21)
    have gq : Dq K H21 (.ref tq) (.list dq) := dq_to (sqto_of x1821) _ _ (((gr_q g18).dp).up w_sub)
    refine Evl.s_when (b := false) (Evl.et_is (Evl.et_not (a := true) (Evl.et_B (sameq_ev (K := K) (d := .list dq) (EvD.q (EvG.dat (eg_exX (C := C) (p := p) (Evl.ev_var (v := .ref y) rfl) (exS x1821)))) (evq_of (Evl.ev_var (v := .ref tq) rfl) (by rw [w_nil]; exact gq)) (fits_up (by decide) hRq.fit.1)))) rfl) (fun z => nomatch z) (fun _ H22 e22 => ?_)
    have s22 := s21.e e22
    exact ⟨s22.x, s22.t, _, _, _, _, _, _, _, _, _, _, _, _, _, _, rfl⟩
  · rintro σ' H' _
    exact Evl.s_ret Evl.ev_c fun _ _ => k0 _
end
end U

set_option Elab.async false
set_option linter.all false
set_option maxRecDepth 100000
set_option maxHeartbeats 4000000
namespace U
open PySem PySem.Spec PyProof.Rows L2
open Evl (Ex)
section
variable {P : Program} {w : World} {K : PySem.W.Frag} {mg : Str → Option Value} {base : Heap}
theorem ok_is_index_below {f : Addr} {fd : FuncData} (F : Fun K "is_index_below" "is_index_below" s_is_index_below f fd) (T : TxF mg) (D_is_integer : DefAt P w K mg base "is_integer" 1 ["thing"] (spB K isI)) : FnOk P w K mg base CX0 2 f fd ["thing", "many"] (spBp K isIx) := by
  refine F.ok sc_is_index_below (fun vs H Q E h => ?_) (fun cdv A outer s H vs Q E hr h => ?_)
  · obtain ⟨_, _, _, rfl, _⟩ := h
    rfl
  · obtain ⟨v, d, p, rfl, hd, hw, k⟩ := h
    refine ⟨_, (pss_one (ps_ret (pe_and (pe_callD D_is_integer (by first | exact hr | exact hr.mono (by decide) | exact hr.mono (by omega)) (by rfl) (pa_cons (pv 0) pa_nil)) (pe_one (pe_chain op_le op_lt pe_int (pv 0) (pv 1)))))), ?_⟩
    have v0 : Evl.Ev (tVar 0) (start sc_is_index_below_N [v, .int p]) H v := Evl.ev_var rfl
    have v1 : Evl.Ev (tVar 1) (start sc_is_index_below_N [v, .int p]) H (.int p) := Evl.ev_var rfl
    have e : isI d = true → ∃ i, d = .int i := fun z => by
      cases d <;> first | exact ⟨_, rfl⟩ | cases z
    have q : (isI d && isIx p d) = isIx p d := by
      cases d <;> rfl
    refine Evl.s_ret (v := .bl (isIx p d)) (Evl.ev_is (Evl.ev_andV (a := isI d) (b := isIx p d) (ev_spBq v0 hd) fun z => ?_) (congrArg V.bl q)) k
    obtain ⟨i, rfl⟩ := e z
    cases hd
    refine ev_chain (k := decide (0 ≤ i)) Evl.ev_c v0 (Evl.rv_I0 (g := fun a b => .bl (decide (a ≤ b)))) (fun _ => v1) (fun _ => ?_) (fun z => ?_)
    · have e : (isIx p (.int i)) = decide (i < p) := by
        show (decide (0 ≤ i) && decide (i < p)) = _
        rw [‹decide (0 ≤ i) = true›]
        rfl
      rw [e]
      exact Evl.rv_I0 (g := fun a b => .bl (decide (a < b)))
    · show (decide (0 ≤ i) && decide (i < p)) = false
      rw [z]
      rfl
end
end U

set_option Elab.async false
set_option linter.all false
set_option maxRecDepth 100000
set_option maxHeartbeats 8000000
namespace U
open PySem L2
open Evl (Ex)
/-! ### a class of errors -/
abbrev veL : List Value := [.type "ValueError", .type "Exception", .type "BaseException", .type "object"]
theorem clsIn_of {K : PySem.W.Frag} {nm q : Str} {C N : Addr} {bs bm : List Value} {hd : Bool} {sn : List Str} {sub : List Value} {ab : Bool} {col : Option Bool} {dd : Option Addr} {k0 k1 k2 k3 k5 : Option Value} {nid : String}
    (l : K.lookup C = some (excClassObj nm q C N bs bm hd sn sub ab col dd k0 k1 k2 k3 k5 nid)) : PySem.W.clsIn K C = some { name := nm, bases := bs, mro := .ref C :: bm, ns := N, qualname := q, hasDict := hd, slotNames := sn, subclasses := sub, abstract := ab, collection := col, hasDel := false } := by
  unfold PySem.W.clsIn
  rw [l]
/-- at C a class of errors whose bases' row is bm -/
def IsErr (K : PySem.W.Frag) (C : Addr) (bm : List Value) : Prop := ∃ (nm q : Str) (N : Addr) (bs : List Value) (sn : List Str) (sub : List Value) (ab : Bool) (col : Option Bool) (dd : Option Addr) (k0 k1 k2 k3 k5 : Option Value),
  K.lookup C = some (excClassObj nm q C N bs bm true sn sub ab col dd k0 k1 k2 k3 k5 "ValueError.__new__")
section
variable {K : PySem.W.Frag} {C D : Addr} {bm bm2 : List Value}
theorem IsErr.mro (h : IsErr K C bm) (c : Value) : PySem.W.mroIn K C c = some ((Value.ref C :: bm).contains c) := by
  obtain ⟨nm, q, N, bs, sn, sub, ab, col, dd, k0, k1, k2, k3, k5, l⟩ := h
  unfold PySem.W.mroIn
  rw [clsIn_of l]
  rfl
theorem IsErr.ty (h : IsErr K C bm) : PySem.W.typeIn K (.ref C) = some (.type "type") := by
  obtain ⟨nm, q, N, bs, sn, sub, ab, col, dd, k0, k1, k2, k3, k5, l⟩ := h
  show (K.lookup C).map (fun o => o.cls) = some (.type "type")
  rw [l]
  rfl
theorem IsErr.isSm (h : IsErr K C bm) : (PySem.W.clsIn K C).isSome = true := by
  obtain ⟨nm, q, N, bs, sn, sub, ab, col, dd, k0, k1, k2, k3, k5, l⟩ := h
  rw [clsIn_of l]
  rfl
theorem IsErr.dct (h : IsErr K C bm) : PySem.W.hasDictIn K C = true := by
  obtain ⟨nm, q, N, bs, sn, sub, ab, col, dd, k0, k1, k2, k3, k5, l⟩ := h
  unfold PySem.W.hasDictIn
  rw [clsIn_of l]
  rfl
theorem IsErr.kit (h : IsErr K C bm) (h2 : IsErr K D bm2) : PySem.W.kitOne K (.ref C) (.ref D) = some ((Value.ref C :: bm).contains (.ref D)) := by
  unfold PySem.W.kitOne
  by_cases e : C = D
  · subst e
    rw [if_pos (by simp)]
    simp
  · rw [if_neg (by simpa using e)]
    unfold PySem.W.kitCls
    have z : ((PySem.W.clsIn K D).isSome && PySem.W.typeIn K (.ref D) == some (.type "type")) = true := by
      rw [h2.isSm, h2.ty]
      rfl
    show (if _ then _ else _) = _
    rw [if_pos z]
    exact h.mro _
theorem IsErr.kitV (h : IsErr K C bm) : PySem.W.kitOne K (.ref C) (.type "ValueError") = some ((Value.ref C :: bm).contains (.type "ValueError")) := by
  unfold PySem.W.kitOne
  rw [if_neg (by simp)]
  unfold PySem.W.kitCls
  show (if _ then _ else _) = _
  rw [if_pos (by decide +kernel)]
  exact h.mro _
/-- what the look at the written part gives of such a class -/
structure ErrF (K : PySem.W.Frag) (C : Addr) : Prop where
  sa : PySem.W.findIn K (.ref C) "__setattr__" = some (some (.builtin "object.__setattr__"))
  ga : PySem.W.findIn K (.ref C) "__getattribute__" = some (some (.builtin "BaseException.__getattribute__"))
  gg : PySem.W.findIn K (.ref C) "__getattr__" = some none
  ha : PySem.W.findIn K (.ref C) "__class__" = some (some (.builtin "object.__class__"))
  kC : PySem.W.keepIn K (.ref C) = true
theorem isi_of (h : IsErr K C bm) (F : ErrF K C) (hv : PySem.HandSPX.refsVE bm = true) (hn : PySem.W.specialIn K (.builtin "object.__class__") "__get__" = some (some (.builtin "getset_descriptor.__get__"))) (ht : PySem.W.takesIn K (.builtin "object.__class__") = some true) : IsiC K C :=
  { cl := h.isSm, hg := F.ga, hk := F.gg, hs := (h.mro _).trans (congrArg _ ((List.contains_cons ..).trans (by rw [PySem.HandSPX.refsVE_contains _ _ hv]; exact (Bool.or_eq_true_iff.mpr (.inr (by decide +kernel)))))), ha := F.ha, hn := hn, ht := ht,
    hm := (h.mro _).trans (congrArg _ ((List.contains_cons ..).trans (by rw [PySem.HandSPX.refsVE_contains _ _ hv]; exact (Bool.or_eq_true_iff.mpr (.inr (by decide +kernel)))))) }
theorem oex_of (h : IsErr K C bm) (F : ErrF K C) (hv : PySem.HandSPX.refsVE bm = true) (Z : IsiC K C) : OexC K C := by
  obtain ⟨nm, q, N, bs, sn, sub, ab, col, dd, k0, k1, k2, k3, k5, l⟩ := id h
  exact { cls := ⟨nm, q, N, bs, bm, sn, sub, ab, col, dd, k0, k1, k2, k3, k5, l, hv⟩, sa := F.sa, exC := Z.hs, tyC := h.ty, kC := F.kC }
theorem xf_of (h : IsErr K C bm) (F : ErrF K C) (Z : IsiC K C) : XfC K C := { ga := F.ga, gg := F.gg, exC := Z.hs, hdC := h.dct }
end
theorem exm_of {K : PySem.W.Frag} {A B : Addr} {b : Bool} (h1 : PySem.W.subIn K (.ref B) (.type "BaseException") = some true) (h2 : PySem.W.isClsIn K B = true) (h3 : PySem.W.typeIn K (.ref B) = some (.type "type")) (h4 : PySem.W.subIn K (.ref A) (.ref B) = some b) : PySem.W.exmOne K (.ref A) (.ref B) = some b := by
  have a : (PySem.W.subIn K (.ref B) (.type "BaseException") == some true) = true := by rw [h1]; rfl
  have h2' : (PySem.W.clsIn K B).isSome = true := h2
  have c : ((PySem.W.clsIn K B).isSome && PySem.W.typeIn K (.ref B) == some (.type "type")) = true := by rw [h2', h3]; rfl
  unfold PySem.W.exmOne
  simp only [a, if_true]
  show (if ((PySem.W.clsIn K B).isSome && PySem.W.typeIn K (.ref B) == some (.type "type")) = true then PySem.W.subIn K (.ref A) (.ref B) else none) = _
  rw [if_pos c]
  exact h4
abbrev s_BadPlaces_init : Stmt := inClass (top 3) 0
abbrev sc_BadPlaces_init_N : List Str := ["self", "places"]
theorem sc_BadPlaces_init : FnScope sc_BadPlaces_init_N ["self", "places"] (defScope s_BadPlaces_init) := ⟨rfl, rfl, rfl, by decide +kernel, rfl, by decide +kernel, by decide +kernel⟩
theorem ok_BadPlaces {P : Program} {w : World} {K : PySem.W.Frag} {mg : Str → Option Value} {base : Heap} {C fI : Addr} {fd : FuncData} (gC : mg "BadPlaces" = some (.ref C)) (T : OexC K C) (x : XfC K C) (no : PySem.W.findIn K (.ref C) "places" = some none) (iC : PySem.W.findIn K (.ref C) "__init__" = some (some (.ref fI))) (tI : PySem.W.typeIn K (.ref fI) = some (.type "function"))
    (F : Fun K "__init__" "BadPlaces.__init__" s_BadPlaces_init fI fd) (hb : Binds K fd ["self", "places"] []) (hi : ∀ (s : Shared) (u v : Value), BindsTo s fd ⟨[u], [("places", v)]⟩ [("self", u), ("places", v)]) : ErrC P w K mg base "BadPlaces" C "places" := by
  refine ⟨T, gC, x, no, fI, _, iC, tI, ?_, hb, hi⟩
  refine F.ok sc_BadPlaces_init (fun vs H Q E h => ?_) (fun cdv A outer s H vs Q E hr h => ?_)
  · obtain ⟨_, _, rfl, _⟩ := h
    rfl
  · obtain ⟨a, v, rfl, ha, k⟩ := h
    exact ⟨_, pss_one (ps_ost (pv 0) (pv 1)), ⟨_, rfl, _, rfl, a, C, rfl, T, no, .inl ⟨ha, fun dx hd n => k dx hd n⟩⟩⟩
abbrev s_BadExample_init : Stmt := inClass (top 4) 0
abbrev sc_BadExample_init_N : List Str := ["self", "index"]
theorem sc_BadExample_init : FnScope sc_BadExample_init_N ["self", "index"] (defScope s_BadExample_init) := ⟨rfl, rfl, rfl, by decide +kernel, rfl, by decide +kernel, by decide +kernel⟩
theorem ok_BadExample {P : Program} {w : World} {K : PySem.W.Frag} {mg : Str → Option Value} {base : Heap} {C fI : Addr} {fd : FuncData} (gC : mg "BadExample" = some (.ref C)) (T : OexC K C) (x : XfC K C) (no : PySem.W.findIn K (.ref C) "index" = some none) (iC : PySem.W.findIn K (.ref C) "__init__" = some (some (.ref fI))) (tI : PySem.W.typeIn K (.ref fI) = some (.type "function"))
    (F : Fun K "__init__" "BadExample.__init__" s_BadExample_init fI fd) (hb : Binds K fd ["self", "index"] []) (hi : ∀ (s : Shared) (u v : Value), BindsTo s fd ⟨[u], [("index", v)]⟩ [("self", u), ("index", v)]) : ErrC P w K mg base "BadExample" C "index" := by
  refine ⟨T, gC, x, no, fI, _, iC, tI, ?_, hb, hi⟩
  refine F.ok sc_BadExample_init (fun vs H Q E h => ?_) (fun cdv A outer s H vs Q E hr h => ?_)
  · obtain ⟨_, _, rfl, _⟩ := h
    rfl
  · obtain ⟨a, v, rfl, ha, k⟩ := h
    exact ⟨_, pss_one (ps_ost (pv 0) (pv 1)), ⟨_, rfl, _, rfl, a, C, rfl, T, no, .inl ⟨ha, fun dx hd n => k dx hd n⟩⟩⟩
abbrev s_BadIndex_init : Stmt := inClass (top 5) 0
abbrev sc_BadIndex_init_N : List Str := ["self", "index"]
theorem sc_BadIndex_init : FnScope sc_BadIndex_init_N ["self", "index"] (defScope s_BadIndex_init) := ⟨rfl, rfl, rfl, by decide +kernel, rfl, by decide +kernel, by decide +kernel⟩
theorem ok_BadIndex {P : Program} {w : World} {K : PySem.W.Frag} {mg : Str → Option Value} {base : Heap} {C fI : Addr} {fd : FuncData} (gC : mg "BadIndex" = some (.ref C)) (T : OexC K C) (x : XfC K C) (no : PySem.W.findIn K (.ref C) "index" = some none) (iC : PySem.W.findIn K (.ref C) "__init__" = some (some (.ref fI))) (tI : PySem.W.typeIn K (.ref fI) = some (.type "function"))
    (F : Fun K "__init__" "BadIndex.__init__" s_BadIndex_init fI fd) (hb : Binds K fd ["self", "index"] []) (hi : ∀ (s : Shared) (u v : Value), BindsTo s fd ⟨[u], [("index", v)]⟩ [("self", u), ("index", v)]) : ErrC P w K mg base "BadIndex" C "index" := by
  refine ⟨T, gC, x, no, fI, _, iC, tI, ?_, hb, hi⟩
  refine F.ok sc_BadIndex_init (fun vs H Q E h => ?_) (fun cdv A outer s H vs Q E hr h => ?_)
  · obtain ⟨_, _, rfl, _⟩ := h
    rfl
  · obtain ⟨a, v, rfl, ha, k⟩ := h
    exact ⟨_, pss_one (ps_ost (pv 0) (pv 1)), ⟨_, rfl, _, rfl, a, C, rfl, T, no, .inl ⟨ha, fun dx hd n => k dx hd n⟩⟩⟩
end U

set_option Elab.async false
set_option linter.all false
set_option maxRecDepth 100000
set_option maxHeartbeats 8000000
namespace U
open PySem PySem.Spec PyProof.Rows L2
open Evl (Ex)
open C8 (Met Mak)
theorem kit_self {K : PySem.W.Frag} {C : Addr} : PySem.W.kitOne K (.ref C) (.ref C) = some true := by
  unfold PySem.W.kitOne
  rw [if_pos (by simp)]
def spLaw03 (K : PySem.W.Frag) (PT : Addr) : Sp := fun vs H Q _ => ∃ (a : Addr) (ns : List Int), vs = [.ref a] ∧ SqL K H a (ns.map V.int) ∧ ns.length ≤ 63 ∧ LamX.Tabs [(PT, lawQ)] H ∧ ∀ H', Q (.bl true) H'
theorem all_mk {l : PySem.W.OpenLaw} {w : World} {K : PySem.W.Frag} {h : Heap} {mg : Str → Option Value} {fa C T0 E0 cA PT fF_is_integer fF_is_label fF_is_row fF_is_row_of fF_is_index_below fF_is_number_of_places fF_is_point fF_is_example fF_copied_example fL_source fL_draw fL_pick fL_same fL_point fL_rows fL_odd_point fL_odd_example fL_end fL_first_odd fL_law CP NCP fCP CE NCE fCE CI NCI fCI Tc fM_init fM_examples fM_part fM_without fM_checked fM_len : Addr} {ocT eA : Value} {odT odE dA : Option Addr} {nT nE : Nat} {slT slE slA : Array (Option Value)} {vsA : Array Value} {tL tM : Tok}
   {ocF_is_integer kVF_is_integer dcF_is_integer pmF_is_integer cdF_is_integer ctF_is_integer : Value} {odF_is_integer anF_is_integer : Option Addr} {slF_is_integer : Array (Option Value)} {ocF_is_label kVF_is_label dcF_is_label pmF_is_label cdF_is_label ctF_is_label : Value} {odF_is_label anF_is_label : Option Addr} {slF_is_label : Array (Option Value)} {ocF_is_row kVF_is_row dcF_is_row pmF_is_row cdF_is_row ctF_is_row : Value} {odF_is_row anF_is_row : Option Addr} {slF_is_row : Array (Option Value)} {ocF_is_row_of kVF_is_row_of dcF_is_row_of pmF_is_row_of cdF_is_row_of ctF_is_row_of : Value} {odF_is_row_of anF_is_row_of : Option Addr} {slF_is_row_of : Array (Option Value)} {ocF_is_index_below kVF_is_index_below dcF_is_index_below pmF_is_index_below cdF_is_index_below ctF_is_index_below : Value} {odF_is_index_below anF_is_index_below : Option Addr} {slF_is_index_below : Array (Option Value)} {ocF_is_number_of_places kVF_is_number_of_places dcF_is_number_of_places pmF_is_number_of_places cdF_is_number_of_places ctF_is_number_of_places : Value} {odF_is_number_of_places anF_is_number_of_places : Option Addr} {slF_is_number_of_places : Array (Option Value)} {ocF_is_point kVF_is_point dcF_is_point pmF_is_point cdF_is_point ctF_is_point : Value} {odF_is_point anF_is_point : Option Addr} {slF_is_point : Array (Option Value)} {ocF_is_example kVF_is_example dcF_is_example pmF_is_example cdF_is_example ctF_is_example : Value} {odF_is_example anF_is_example : Option Addr} {slF_is_example : Array (Option Value)} {ocF_copied_example kVF_copied_example dcF_copied_example pmF_copied_example cdF_copied_example ctF_copied_example : Value} {odF_copied_example anF_copied_example : Option Addr} {slF_copied_example : Array (Option Value)} {ocL_source kVL_source dcL_source pmL_source cdL_source ctL_source : Value} {odL_source anL_source : Option Addr} {slL_source : Array (Option Value)} {ocL_draw kVL_draw dcL_draw pmL_draw cdL_draw ctL_draw : Value} {odL_draw anL_draw : Option Addr} {slL_draw : Array (Option Value)} {ocL_pick kVL_pick dcL_pick pmL_pick cdL_pick ctL_pick : Value} {odL_pick anL_pick : Option Addr} {slL_pick : Array (Option Value)} {ocL_same kVL_same dcL_same pmL_same cdL_same ctL_same : Value} {odL_same anL_same : Option Addr} {slL_same : Array (Option Value)} {ocL_point kVL_point dcL_point pmL_point cdL_point ctL_point : Value} {odL_point anL_point : Option Addr} {slL_point : Array (Option Value)} {ocL_rows kVL_rows dcL_rows pmL_rows cdL_rows ctL_rows : Value} {odL_rows anL_rows : Option Addr} {slL_rows : Array (Option Value)} {ocL_odd_point kVL_odd_point dcL_odd_point pmL_odd_point cdL_odd_point ctL_odd_point : Value} {odL_odd_point anL_odd_point : Option Addr} {slL_odd_point : Array (Option Value)} {ocL_odd_example kVL_odd_example dcL_odd_example pmL_odd_example cdL_odd_example ctL_odd_example : Value} {odL_odd_example anL_odd_example : Option Addr} {slL_odd_example : Array (Option Value)} {ocL_end kVL_end dcL_end pmL_end cdL_end ctL_end : Value} {odL_end anL_end : Option Addr} {slL_end : Array (Option Value)} {ocL_first_odd kVL_first_odd dcL_first_odd pmL_first_odd cdL_first_odd ctL_first_odd : Value} {odL_first_odd anL_first_odd : Option Addr} {slL_first_odd : Array (Option Value)} {ocL_law kVL_law dcL_law pmL_law ctL_law : Value} {odL_law anL_law : Option Addr} {slL_law : Array (Option Value)} {nmCP qnCP : Str} {bsCP : List Value} {snCP : List Str} {sbCP : List Value} {abCP : Bool} {coCP : Option Bool} {ddCP : Option Addr} {p0CP p1CP p2CP p3CP p5CP : Option Value} {ocCP kVCP dcCP pmCP cdCP ctCP : Value} {odCP anCP : Option Addr} {slCP : Array (Option Value)} {nmCE qnCE : Str} {bsCE : List Value} {snCE : List Str} {sbCE : List Value} {abCE : Bool} {coCE : Option Bool} {ddCE : Option Addr} {p0CE p1CE p2CE p3CE p5CE : Option Value} {ocCE kVCE dcCE pmCE cdCE ctCE : Value} {odCE anCE : Option Addr} {slCE : Array (Option Value)} {nmCI qnCI : Str} {bsCI : List Value} {snCI : List Str} {sbCI : List Value} {abCI : Bool} {coCI : Option Bool} {ddCI : Option Addr} {p0CI p1CI p2CI p3CI p5CI : Option Value} {ocCI kVCI dcCI pmCI cdCI ctCI : Value} {odCI anCI : Option Addr} {slCI : Array (Option Value)} {ocM_init kVM_init dcM_init pmM_init cdM_init ctM_init : Value} {odM_init anM_init : Option Addr} {slM_init : Array (Option Value)} {ocM_examples kVM_examples dcM_examples pmM_examples cdM_examples ctM_examples : Value} {odM_examples anM_examples : Option Addr} {slM_examples : Array (Option Value)} {ocM_part kVM_part dcM_part pmM_part cdM_part ctM_part : Value} {odM_part anM_part : Option Addr} {slM_part : Array (Option Value)} {ocM_without kVM_without dcM_without pmM_without cdM_without ctM_without : Value} {odM_without anM_without : Option Addr} {slM_without : Array (Option Value)} {ocM_checked kVM_checked dcM_checked pmM_checked cdM_checked ctM_checked : Value} {odM_checked anM_checked : Option Addr} {slM_checked : Array (Option Value)} {ocM_len kVM_len dcM_len pmM_len cdM_len ctM_len : Value} {odM_len anM_len : Option Addr} {slM_len : Array (Option Value)} (X : K.In h) (G : h.Ns mainGlobals mg) (hfa : mg "law" = some (.ref fa)) (own : LamX.OwnTab K fa h)
    (aF_is_integer : PySem.W.nsIn K mainGlobals "is_integer" = some (some (.ref fF_is_integer)))
    (lF_is_integer : K.lookup fF_is_integer = some ⟨ocF_is_integer, odF_is_integer, .func (PySem.W.fnOf "is_integer" "is_integer" (defArgs s_is_integer) (defBody s_is_integer) (defScope s_is_integer) .none kVF_is_integer dcF_is_integer pmF_is_integer anF_is_integer cdF_is_integer ctF_is_integer), slF_is_integer⟩)
    (cF_is_integer : PySem.W.codeIn K cdF_is_integer "is_integer" = true)
    (kF_is_integer : PySem.W.keepIn K (.ref fF_is_integer) = true)
    (aF_is_label : PySem.W.nsIn K mainGlobals "is_label" = some (some (.ref fF_is_label)))
    (lF_is_label : K.lookup fF_is_label = some ⟨ocF_is_label, odF_is_label, .func (PySem.W.fnOf "is_label" "is_label" (defArgs s_is_label) (defBody s_is_label) (defScope s_is_label) .none kVF_is_label dcF_is_label pmF_is_label anF_is_label cdF_is_label ctF_is_label), slF_is_label⟩)
    (cF_is_label : PySem.W.codeIn K cdF_is_label "is_label" = true)
    (kF_is_label : PySem.W.keepIn K (.ref fF_is_label) = true)
    (aF_is_row : PySem.W.nsIn K mainGlobals "is_row" = some (some (.ref fF_is_row)))
    (lF_is_row : K.lookup fF_is_row = some ⟨ocF_is_row, odF_is_row, .func (PySem.W.fnOf "is_row" "is_row" (defArgs s_is_row) (defBody s_is_row) (defScope s_is_row) .none kVF_is_row dcF_is_row pmF_is_row anF_is_row cdF_is_row ctF_is_row), slF_is_row⟩)
    (cF_is_row : PySem.W.codeIn K cdF_is_row "is_row" = true)
    (kF_is_row : PySem.W.keepIn K (.ref fF_is_row) = true)
    (aF_is_row_of : PySem.W.nsIn K mainGlobals "is_row_of" = some (some (.ref fF_is_row_of)))
    (lF_is_row_of : K.lookup fF_is_row_of = some ⟨ocF_is_row_of, odF_is_row_of, .func (PySem.W.fnOf "is_row_of" "is_row_of" (defArgs s_is_row_of) (defBody s_is_row_of) (defScope s_is_row_of) .none kVF_is_row_of dcF_is_row_of pmF_is_row_of anF_is_row_of cdF_is_row_of ctF_is_row_of), slF_is_row_of⟩)
    (cF_is_row_of : PySem.W.codeIn K cdF_is_row_of "is_row_of" = true)
    (kF_is_row_of : PySem.W.keepIn K (.ref fF_is_row_of) = true)
    (aF_is_index_below : PySem.W.nsIn K mainGlobals "is_index_below" = some (some (.ref fF_is_index_below)))
    (lF_is_index_below : K.lookup fF_is_index_below = some ⟨ocF_is_index_below, odF_is_index_below, .func (PySem.W.fnOf "is_index_below" "is_index_below" (defArgs s_is_index_below) (defBody s_is_index_below) (defScope s_is_index_below) .none kVF_is_index_below dcF_is_index_below pmF_is_index_below anF_is_index_below cdF_is_index_below ctF_is_index_below), slF_is_index_below⟩)
    (cF_is_index_below : PySem.W.codeIn K cdF_is_index_below "is_index_below" = true)
    (kF_is_index_below : PySem.W.keepIn K (.ref fF_is_index_below) = true)
    (aF_is_number_of_places : PySem.W.nsIn K mainGlobals "is_number_of_places" = some (some (.ref fF_is_number_of_places)))
    (lF_is_number_of_places : K.lookup fF_is_number_of_places = some ⟨ocF_is_number_of_places, odF_is_number_of_places, .func (PySem.W.fnOf "is_number_of_places" "is_number_of_places" (defArgs s_is_number_of_places) (defBody s_is_number_of_places) (defScope s_is_number_of_places) .none kVF_is_number_of_places dcF_is_number_of_places pmF_is_number_of_places anF_is_number_of_places cdF_is_number_of_places ctF_is_number_of_places), slF_is_number_of_places⟩)
    (cF_is_number_of_places : PySem.W.codeIn K cdF_is_number_of_places "is_number_of_places" = true)
    (kF_is_number_of_places : PySem.W.keepIn K (.ref fF_is_number_of_places) = true)
    (aF_is_point : PySem.W.nsIn K mainGlobals "is_point" = some (some (.ref fF_is_point)))
    (lF_is_point : K.lookup fF_is_point = some ⟨ocF_is_point, odF_is_point, .func (PySem.W.fnOf "is_point" "is_point" (defArgs s_is_point) (defBody s_is_point) (defScope s_is_point) .none kVF_is_point dcF_is_point pmF_is_point anF_is_point cdF_is_point ctF_is_point), slF_is_point⟩)
    (cF_is_point : PySem.W.codeIn K cdF_is_point "is_point" = true)
    (kF_is_point : PySem.W.keepIn K (.ref fF_is_point) = true)
    (aF_is_example : PySem.W.nsIn K mainGlobals "is_example" = some (some (.ref fF_is_example)))
    (lF_is_example : K.lookup fF_is_example = some ⟨ocF_is_example, odF_is_example, .func (PySem.W.fnOf "is_example" "is_example" (defArgs s_is_example) (defBody s_is_example) (defScope s_is_example) .none kVF_is_example dcF_is_example pmF_is_example anF_is_example cdF_is_example ctF_is_example), slF_is_example⟩)
    (cF_is_example : PySem.W.codeIn K cdF_is_example "is_example" = true)
    (kF_is_example : PySem.W.keepIn K (.ref fF_is_example) = true)
    (aF_copied_example : PySem.W.nsIn K mainGlobals "copied_example" = some (some (.ref fF_copied_example)))
    (lF_copied_example : K.lookup fF_copied_example = some ⟨ocF_copied_example, odF_copied_example, .func (PySem.W.fnOf "copied_example" "copied_example" (defArgs s_copied_example) (defBody s_copied_example) (defScope s_copied_example) .none kVF_copied_example dcF_copied_example pmF_copied_example anF_copied_example cdF_copied_example ctF_copied_example), slF_copied_example⟩)
    (cF_copied_example : PySem.W.codeIn K cdF_copied_example "copied_example" = true)
    (kF_copied_example : PySem.W.keepIn K (.ref fF_copied_example) = true)
    (aL_source : PySem.W.nsIn K mainGlobals "_law_source" = some (some (.ref fL_source)))
    (lL_source : K.lookup fL_source = some ⟨ocL_source, odL_source, .func (PySem.W.fnOf "_law_source" "_law_source" (defArgs s_source) (defBody s_source) (defScope s_source) .none kVL_source dcL_source pmL_source anL_source cdL_source ctL_source), slL_source⟩)
    (cL_source : PySem.W.codeIn K cdL_source "_law_source" = true)
    (kL_source : PySem.W.keepIn K (.ref fL_source) = true)
    (aL_draw : PySem.W.nsIn K mainGlobals "_law_draw" = some (some (.ref fL_draw)))
    (lL_draw : K.lookup fL_draw = some ⟨ocL_draw, odL_draw, .func (PySem.W.fnOf "_law_draw" "_law_draw" (defArgs s_draw) (defBody s_draw) (defScope s_draw) .none kVL_draw dcL_draw pmL_draw anL_draw cdL_draw ctL_draw), slL_draw⟩)
    (cL_draw : PySem.W.codeIn K cdL_draw "_law_draw" = true)
    (kL_draw : PySem.W.keepIn K (.ref fL_draw) = true)
    (aL_pick : PySem.W.nsIn K mainGlobals "_law_pick" = some (some (.ref fL_pick)))
    (lL_pick : K.lookup fL_pick = some ⟨ocL_pick, odL_pick, .func (PySem.W.fnOf "_law_pick" "_law_pick" (defArgs s_pick) (defBody s_pick) (defScope s_pick) .none kVL_pick dcL_pick pmL_pick anL_pick cdL_pick ctL_pick), slL_pick⟩)
    (cL_pick : PySem.W.codeIn K cdL_pick "_law_pick" = true)
    (kL_pick : PySem.W.keepIn K (.ref fL_pick) = true)
    (aL_same : PySem.W.nsIn K mainGlobals "_law_same" = some (some (.ref fL_same)))
    (lL_same : K.lookup fL_same = some ⟨ocL_same, odL_same, .func (PySem.W.fnOf "_law_same" "_law_same" (defArgs s_same) (defBody s_same) (defScope s_same) .none kVL_same dcL_same pmL_same anL_same cdL_same ctL_same), slL_same⟩)
    (cL_same : PySem.W.codeIn K cdL_same "_law_same" = true)
    (kL_same : PySem.W.keepIn K (.ref fL_same) = true)
    (aL_point : PySem.W.nsIn K mainGlobals "_law_point" = some (some (.ref fL_point)))
    (lL_point : K.lookup fL_point = some ⟨ocL_point, odL_point, .func (PySem.W.fnOf "_law_point" "_law_point" (defArgs s_point) (defBody s_point) (defScope s_point) .none kVL_point dcL_point pmL_point anL_point cdL_point ctL_point), slL_point⟩)
    (cL_point : PySem.W.codeIn K cdL_point "_law_point" = true)
    (kL_point : PySem.W.keepIn K (.ref fL_point) = true)
    (aL_rows : PySem.W.nsIn K mainGlobals "_law_rows" = some (some (.ref fL_rows)))
    (lL_rows : K.lookup fL_rows = some ⟨ocL_rows, odL_rows, .func (PySem.W.fnOf "_law_rows" "_law_rows" (defArgs s_rows) (defBody s_rows) (defScope s_rows) .none kVL_rows dcL_rows pmL_rows anL_rows cdL_rows ctL_rows), slL_rows⟩)
    (cL_rows : PySem.W.codeIn K cdL_rows "_law_rows" = true)
    (kL_rows : PySem.W.keepIn K (.ref fL_rows) = true)
    (aL_odd_point : PySem.W.nsIn K mainGlobals "_law_odd_point" = some (some (.ref fL_odd_point)))
    (lL_odd_point : K.lookup fL_odd_point = some ⟨ocL_odd_point, odL_odd_point, .func (PySem.W.fnOf "_law_odd_point" "_law_odd_point" (defArgs s_odd_point) (defBody s_odd_point) (defScope s_odd_point) .none kVL_odd_point dcL_odd_point pmL_odd_point anL_odd_point cdL_odd_point ctL_odd_point), slL_odd_point⟩)
    (cL_odd_point : PySem.W.codeIn K cdL_odd_point "_law_odd_point" = true)
    (kL_odd_point : PySem.W.keepIn K (.ref fL_odd_point) = true)
    (aL_odd_example : PySem.W.nsIn K mainGlobals "_law_odd_example" = some (some (.ref fL_odd_example)))
    (lL_odd_example : K.lookup fL_odd_example = some ⟨ocL_odd_example, odL_odd_example, .func (PySem.W.fnOf "_law_odd_example" "_law_odd_example" (defArgs s_odd_example) (defBody s_odd_example) (defScope s_odd_example) .none kVL_odd_example dcL_odd_example pmL_odd_example anL_odd_example cdL_odd_example ctL_odd_example), slL_odd_example⟩)
    (cL_odd_example : PySem.W.codeIn K cdL_odd_example "_law_odd_example" = true)
    (kL_odd_example : PySem.W.keepIn K (.ref fL_odd_example) = true)
    (aL_end : PySem.W.nsIn K mainGlobals "_law_end" = some (some (.ref fL_end)))
    (lL_end : K.lookup fL_end = some ⟨ocL_end, odL_end, .func (PySem.W.fnOf "_law_end" "_law_end" (defArgs s_end) (defBody s_end) (defScope s_end) .none kVL_end dcL_end pmL_end anL_end cdL_end ctL_end), slL_end⟩)
    (cL_end : PySem.W.codeIn K cdL_end "_law_end" = true)
    (kL_end : PySem.W.keepIn K (.ref fL_end) = true)
    (aL_first_odd : PySem.W.nsIn K mainGlobals "_law_first_odd" = some (some (.ref fL_first_odd)))
    (lL_first_odd : K.lookup fL_first_odd = some ⟨ocL_first_odd, odL_first_odd, .func (PySem.W.fnOf "_law_first_odd" "_law_first_odd" (defArgs s_first_odd) (defBody s_first_odd) (defScope s_first_odd) .none kVL_first_odd dcL_first_odd pmL_first_odd anL_first_odd cdL_first_odd ctL_first_odd), slL_first_odd⟩)
    (cL_first_odd : PySem.W.codeIn K cdL_first_odd "_law_first_odd" = true)
    (kL_first_odd : PySem.W.keepIn K (.ref fL_first_odd) = true)
    (aL_law : PySem.W.nsIn K mainGlobals "law" = some (some (.ref fL_law)))
    (lL_law : K.lookup fL_law = some ⟨ocL_law, odL_law, .func (PySem.W.fnOf "law" "law" (defArgs s_law) (defBody s_law) (defScope s_law) .none kVL_law dcL_law pmL_law anL_law (.ref cA) ctL_law), slL_law⟩)
    (cL_law : PySem.W.codeIn K (.ref cA) "law" = true)
    (kL_law : PySem.W.keepIn K (.ref fL_law) = true)
    (lA : K.lookup cA = some ⟨eA, dA, .fields vsA, slA⟩)
    (v11 : vsA[11]? = some (.ref PT))
    (hdA : PySem.W.codeHdIn K cA PT = true)
    (nPT : K.lookup PT = none)
    (aC : PySem.W.nsIn K mainGlobals "Sample" = some (some (.ref C)))
    (pg : PySem.W.plainGet K C Str.empty = true)
    (hd : PySem.W.hasDictIn K C = true)
    (po : PySem.W.plainOver K C = true)
    (sa : PySem.W.findIn K (.ref C) "__setattr__" = some (some (.builtin "object.__setattr__")))
    (mk : PySem.W.makesIn K C = true)
    (kc : PySem.W.keepIn K (.ref C) = true)
    (nP : PySem.W.findIn K (.ref C) "places" = some none)
    (nQ : PySem.W.findIn K (.ref C) "_pairs" = some none)
    (ha : PySem.W.findIn K (.ref C) "__class__" = some (some (.builtin "object.__class__")))
    (hn : PySem.W.specialIn K (.builtin "object.__class__") "__get__" = some (some (.builtin "getset_descriptor.__get__")))
    (ht : PySem.W.takesIn K (.builtin "object.__class__") = some true)
    (hm : PySem.W.mroIn K C (.type "object") = some true)
    (cL : PySem.W.nsIn K mainGlobals "LEAST_PLACES" = some (some (.int 1 tL)))
    (cM : PySem.W.nsIn K mainGlobals "MOST_PLACES" = some (some (.int 3 tM)))
    (aCP : PySem.W.nsIn K mainGlobals "BadPlaces" = some (some (.ref CP)))
    (xLCP : K.lookup CP = some (excClassObj nmCP qnCP CP NCP bsCP (.ref Tc :: veL) true snCP sbCP abCP coCP ddCP p0CP p1CP p2CP p3CP p5CP "ValueError.__new__"))
    (saCP : PySem.W.findIn K (.ref CP) "__setattr__" = some (some (.builtin "object.__setattr__")))
    (gaCP : PySem.W.findIn K (.ref CP) "__getattribute__" = some (some (.builtin "BaseException.__getattribute__")))
    (ggCP : PySem.W.findIn K (.ref CP) "__getattr__" = some none)
    (haCP : PySem.W.findIn K (.ref CP) "__class__" = some (some (.builtin "object.__class__")))
    (kCCP : PySem.W.keepIn K (.ref CP) = true)
    (nbCP : PySem.W.findIn K (.ref CP) "places" = some none)
    (aiCP : PySem.W.findIn K (.ref CP) "__init__" = some (some (.ref fCP)))
    (tiCP : PySem.W.typeIn K (.ref fCP) = some (.type "function"))
    (exCP : PySem.W.subIn K (.ref CP) (.type "BaseException") = some true)
    (icCP : PySem.W.isClsIn K CP = true)
    (tyCP : PySem.W.typeIn K (.ref CP) = some (.type "type"))
    (lCP : K.lookup fCP = some ⟨ocCP, odCP, .func (PySem.W.fnOf "__init__" "BadPlaces.__init__" (defArgs s_BadPlaces_init) (defBody s_BadPlaces_init) (defScope s_BadPlaces_init) .none kVCP dcCP pmCP anCP cdCP ctCP), slCP⟩)
    (cCP : PySem.W.codeIn K cdCP "BadPlaces.__init__" = true)
    (kCP : PySem.W.keepIn K (.ref fCP) = true)
    (aCE : PySem.W.nsIn K mainGlobals "BadExample" = some (some (.ref CE)))
    (xLCE : K.lookup CE = some (excClassObj nmCE qnCE CE NCE bsCE (.ref Tc :: veL) true snCE sbCE abCE coCE ddCE p0CE p1CE p2CE p3CE p5CE "ValueError.__new__"))
    (saCE : PySem.W.findIn K (.ref CE) "__setattr__" = some (some (.builtin "object.__setattr__")))
    (gaCE : PySem.W.findIn K (.ref CE) "__getattribute__" = some (some (.builtin "BaseException.__getattribute__")))
    (ggCE : PySem.W.findIn K (.ref CE) "__getattr__" = some none)
    (haCE : PySem.W.findIn K (.ref CE) "__class__" = some (some (.builtin "object.__class__")))
    (kCCE : PySem.W.keepIn K (.ref CE) = true)
    (nbCE : PySem.W.findIn K (.ref CE) "index" = some none)
    (aiCE : PySem.W.findIn K (.ref CE) "__init__" = some (some (.ref fCE)))
    (tiCE : PySem.W.typeIn K (.ref fCE) = some (.type "function"))
    (exCE : PySem.W.subIn K (.ref CE) (.type "BaseException") = some true)
    (icCE : PySem.W.isClsIn K CE = true)
    (tyCE : PySem.W.typeIn K (.ref CE) = some (.type "type"))
    (lCE : K.lookup fCE = some ⟨ocCE, odCE, .func (PySem.W.fnOf "__init__" "BadExample.__init__" (defArgs s_BadExample_init) (defBody s_BadExample_init) (defScope s_BadExample_init) .none kVCE dcCE pmCE anCE cdCE ctCE), slCE⟩)
    (cCE : PySem.W.codeIn K cdCE "BadExample.__init__" = true)
    (kCE : PySem.W.keepIn K (.ref fCE) = true)
    (aCI : PySem.W.nsIn K mainGlobals "BadIndex" = some (some (.ref CI)))
    (xLCI : K.lookup CI = some (excClassObj nmCI qnCI CI NCI bsCI (.ref Tc :: veL) true snCI sbCI abCI coCI ddCI p0CI p1CI p2CI p3CI p5CI "ValueError.__new__"))
    (saCI : PySem.W.findIn K (.ref CI) "__setattr__" = some (some (.builtin "object.__setattr__")))
    (gaCI : PySem.W.findIn K (.ref CI) "__getattribute__" = some (some (.builtin "BaseException.__getattribute__")))
    (ggCI : PySem.W.findIn K (.ref CI) "__getattr__" = some none)
    (haCI : PySem.W.findIn K (.ref CI) "__class__" = some (some (.builtin "object.__class__")))
    (kCCI : PySem.W.keepIn K (.ref CI) = true)
    (nbCI : PySem.W.findIn K (.ref CI) "index" = some none)
    (aiCI : PySem.W.findIn K (.ref CI) "__init__" = some (some (.ref fCI)))
    (tiCI : PySem.W.typeIn K (.ref fCI) = some (.type "function"))
    (exCI : PySem.W.subIn K (.ref CI) (.type "BaseException") = some true)
    (icCI : PySem.W.isClsIn K CI = true)
    (tyCI : PySem.W.typeIn K (.ref CI) = some (.type "type"))
    (lCI : K.lookup fCI = some ⟨ocCI, odCI, .func (PySem.W.fnOf "__init__" "BadIndex.__init__" (defArgs s_BadIndex_init) (defBody s_BadIndex_init) (defScope s_BadIndex_init) .none kVCI dcCI pmCI anCI cdCI ctCI), slCI⟩)
    (cCI : PySem.W.codeIn K cdCI "BadIndex.__init__" = true)
    (kCI : PySem.W.keepIn K (.ref fCI) = true)
    (sCPCP : PySem.W.subIn K (.ref CP) (.ref CP) = some true)
    (sCECP : PySem.W.subIn K (.ref CE) (.ref CP) = some false)
    (sCECE : PySem.W.subIn K (.ref CE) (.ref CE) = some true)
    (sCICP : PySem.W.subIn K (.ref CI) (.ref CP) = some false)
    (sCICE : PySem.W.subIn K (.ref CI) (.ref CE) = some false)
    (sCICI : PySem.W.subIn K (.ref CI) (.ref CI) = some true)
    (aM_init : PySem.W.findIn K (.ref C) "__init__" = some (some (.ref fM_init)))
    (iM_init : PySem.W.isFn K (.ref fM_init) = true)
    (lM_init : K.lookup fM_init = some ⟨ocM_init, odM_init, .func (PySem.W.fnOf "__init__" "Sample.__init__" (defArgs s_Sample_init) (defBody s_Sample_init) (defScope s_Sample_init) (.ref T0) kVM_init dcM_init pmM_init anM_init cdM_init ctM_init), slM_init⟩)
    (cM_init : PySem.W.codeIn K cdM_init "Sample.__init__" = true)
    (kM_init : PySem.W.keepIn K (.ref fM_init) = true)
    (aM_examples : PySem.W.findIn K (.ref C) "examples" = some (some (.ref fM_examples)))
    (iM_examples : PySem.W.isFn K (.ref fM_examples) = true)
    (lM_examples : K.lookup fM_examples = some ⟨ocM_examples, odM_examples, .func (PySem.W.fnOf "examples" "Sample.examples" (defArgs s_Sample_examples) (defBody s_Sample_examples) (defScope s_Sample_examples) .none kVM_examples dcM_examples pmM_examples anM_examples cdM_examples ctM_examples), slM_examples⟩)
    (cM_examples : PySem.W.codeIn K cdM_examples "Sample.examples" = true)
    (kM_examples : PySem.W.keepIn K (.ref fM_examples) = true)
    (aM_part : PySem.W.findIn K (.ref C) "part" = some (some (.ref fM_part)))
    (iM_part : PySem.W.isFn K (.ref fM_part) = true)
    (lM_part : K.lookup fM_part = some ⟨ocM_part, odM_part, .func (PySem.W.fnOf "part" "Sample.part" (defArgs s_Sample_part) (defBody s_Sample_part) (defScope s_Sample_part) .none kVM_part dcM_part pmM_part anM_part cdM_part ctM_part), slM_part⟩)
    (cM_part : PySem.W.codeIn K cdM_part "Sample.part" = true)
    (kM_part : PySem.W.keepIn K (.ref fM_part) = true)
    (aM_without : PySem.W.findIn K (.ref C) "without" = some (some (.ref fM_without)))
    (iM_without : PySem.W.isFn K (.ref fM_without) = true)
    (lM_without : K.lookup fM_without = some ⟨ocM_without, odM_without, .func (PySem.W.fnOf "without" "Sample.without" (defArgs s_Sample_without) (defBody s_Sample_without) (defScope s_Sample_without) .none kVM_without dcM_without pmM_without anM_without cdM_without ctM_without), slM_without⟩)
    (cM_without : PySem.W.codeIn K cdM_without "Sample.without" = true)
    (kM_without : PySem.W.keepIn K (.ref fM_without) = true)
    (aM_checked : PySem.W.findIn K (.ref C) "_checked" = some (some (.ref fM_checked)))
    (iM_checked : PySem.W.isFn K (.ref fM_checked) = true)
    (lM_checked : K.lookup fM_checked = some ⟨ocM_checked, odM_checked, .func (PySem.W.fnOf "_checked" "Sample._checked" (defArgs s_Sample_checked) (defBody s_Sample_checked) (defScope s_Sample_checked) .none kVM_checked dcM_checked pmM_checked anM_checked cdM_checked ctM_checked), slM_checked⟩)
    (cM_checked : PySem.W.codeIn K cdM_checked "Sample._checked" = true)
    (kM_checked : PySem.W.keepIn K (.ref fM_checked) = true)
    (aM_len : PySem.W.findIn K (.ref C) "__len__" = some (some (.ref fM_len)))
    (iM_len : PySem.W.isFn K (.ref fM_len) = true)
    (lM_len : K.lookup fM_len = some ⟨ocM_len, odM_len, .func (PySem.W.fnOf "__len__" "Sample.__len__" (defArgs s_Sample_len) (defBody s_Sample_len) (defScope s_Sample_len) .none kVM_len dcM_len pmM_len anM_len cdM_len ctM_len), slM_len⟩)
    (cM_len : PySem.W.codeIn K cdM_len "Sample.__len__" = true)
    (kM_len : PySem.W.keepIn K (.ref fM_len) = true)
    (lT : K.lookup T0 = some ⟨ocT, odT, .seq #[.ref E0] nT, slT⟩)
    (lE : K.lookup E0 = some ⟨.type "tuple", odE, .seq #[] nE, slE⟩)
    (z_len : PySem.W.nsIn K mainGlobals "len" = some none)
    (z_int : PySem.W.nsIn K mainGlobals "int" = some none)
    (z_isinstance : PySem.W.nsIn K mainGlobals "isinstance" = some none)
    (z_list : PySem.W.nsIn K mainGlobals "list" = some none)
    (z_tuple : PySem.W.nsIn K mainGlobals "tuple" = some none)
    (z_bool : PySem.W.nsIn K mainGlobals "bool" = some none)
    (z_all : PySem.W.nsIn K mainGlobals "all" = some none)
    (z_zip : PySem.W.nsIn K mainGlobals "zip" = some none)
    (z_range : PySem.W.nsIn K mainGlobals "range" = some none)
    (z_enumerate : PySem.W.nsIn K mainGlobals "enumerate" = some none)
    (z_sorted : PySem.W.nsIn K mainGlobals "sorted" = some none)
    (z_min : PySem.W.nsIn K mainGlobals "min" = some none) :
    LamX.LawAtS l w K CX0 12 63 "_law_script" mg fa h := by
  have e := hfa.symm.trans (PySem.W.mg_of X G aL_law)
  cases e
  have M : ∀ {x : Str} {f : Addr}, PySem.W.nsIn K mainGlobals x = some (some (.ref f)) → mg x = some (.ref f) := fun q => PySem.W.mg_of X G q
  have TS : TxS mg := { m_len := PySem.W.mg_none_of X G z_len, m_int := PySem.W.mg_none_of X G z_int, m_isinstance := PySem.W.mg_none_of X G z_isinstance, m_list := PySem.W.mg_none_of X G z_list, m_tuple := PySem.W.mg_none_of X G z_tuple, m_bool := PySem.W.mg_none_of X G z_bool, m_all := PySem.W.mg_none_of X G z_all, m_zip := PySem.W.mg_none_of X G z_zip, m_range := PySem.W.mg_none_of X G z_range, m_enumerate := PySem.W.mg_none_of X G z_enumerate, m_sorted := PySem.W.mg_none_of X G z_sorted, m_min := PySem.W.mg_none_of X G z_min, c_LEAST_PLACES := ⟨_, PySem.W.mg_of X G cL⟩, c_MOST_PLACES := ⟨_, PySem.W.mg_of X G cM⟩ }
  have c : Cls K C := ⟨pg, hd, po, sa⟩
  have S : SmpC K C := ⟨c, nP, nQ, kit_self, ha, hn, ht, hm⟩
  have T := TS.toTxF
  have GF_is_integer := fun_mk (st := s_is_integer) lF_is_integer cF_is_integer kF_is_integer
  have bF_is_integer := GF_is_integer.binds (ps := ["thing"]) fun _ _ _ _ _ _ us hl => match us, hl with | [_], _ => rfl
  have GF_is_label := fun_mk (st := s_is_label) lF_is_label cF_is_label kF_is_label
  have bF_is_label := GF_is_label.binds (ps := ["thing"]) fun _ _ _ _ _ _ us hl => match us, hl with | [_], _ => rfl
  have GF_is_row := fun_mk (st := s_is_row) lF_is_row cF_is_row kF_is_row
  have bF_is_row := GF_is_row.binds (ps := ["thing"]) fun _ _ _ _ _ _ us hl => match us, hl with | [_], _ => rfl
  have GF_is_row_of := fun_mk (st := s_is_row_of) lF_is_row_of cF_is_row_of kF_is_row_of
  have bF_is_row_of := GF_is_row_of.binds (ps := ["thing", "many"]) fun _ _ _ _ _ _ us hl => match us, hl with | [_, _], _ => rfl
  have GF_is_index_below := fun_mk (st := s_is_index_below) lF_is_index_below cF_is_index_below kF_is_index_below
  have bF_is_index_below := GF_is_index_below.binds (ps := ["thing", "many"]) fun _ _ _ _ _ _ us hl => match us, hl with | [_, _], _ => rfl
  have GF_is_number_of_places := fun_mk (st := s_is_number_of_places) lF_is_number_of_places cF_is_number_of_places kF_is_number_of_places
  have bF_is_number_of_places := GF_is_number_of_places.binds (ps := ["thing"]) fun _ _ _ _ _ _ us hl => match us, hl with | [_], _ => rfl
  have GF_is_point := fun_mk (st := s_is_point) lF_is_point cF_is_point kF_is_point
  have bF_is_point := GF_is_point.binds (ps := ["thing", "places"]) fun _ _ _ _ _ _ us hl => match us, hl with | [_, _], _ => rfl
  have GF_is_example := fun_mk (st := s_is_example) lF_is_example cF_is_example kF_is_example
  have bF_is_example := GF_is_example.binds (ps := ["thing", "places"]) fun _ _ _ _ _ _ us hl => match us, hl with | [_, _], _ => rfl
  have GF_copied_example := fun_mk (st := s_copied_example) lF_copied_example cF_copied_example kF_copied_example
  have bF_copied_example := GF_copied_example.binds (ps := ["example"]) fun _ _ _ _ _ _ us hl => match us, hl with | [_], _ => rfl
  have GL_source := fun_mk (st := s_source) lL_source cL_source kL_source
  have bL_source := GL_source.binds (ps := ["_law_script", "_law_at"]) fun _ _ _ _ _ _ us hl => match us, hl with | [_, _], _ => rfl
  have GL_draw := fun_mk (st := s_draw) lL_draw cL_draw kL_draw
  have bL_draw := GL_draw.binds (ps := ["_law_draws", "_law_many"]) fun _ _ _ _ _ _ us hl => match us, hl with | [_, _], _ => rfl
  have GL_pick := fun_mk (st := s_pick) lL_pick cL_pick kL_pick
  have bL_pick := GL_pick.binds (ps := ["_law_draws", "_law_things"]) fun _ _ _ _ _ _ us hl => match us, hl with | [_, _], _ => rfl
  have GL_same := fun_mk (st := s_same) lL_same cL_same kL_same
  have bL_same := GL_same.binds (ps := ["_law_found", "_law_due"]) fun _ _ _ _ _ _ us hl => match us, hl with | [_, _], _ => rfl
  have GL_point := fun_mk (st := s_point) lL_point cL_point kL_point
  have bL_point := GL_point.binds (ps := ["_law_draws", "_law_places", "_law_wide"]) fun _ _ _ _ _ _ us hl => match us, hl with | [_, _, _], _ => rfl
  have GL_rows := fun_mk (st := s_rows) lL_rows cL_rows kL_rows
  have bL_rows := GL_rows.binds (ps := ["_law_draws", "_law_places", "_law_most", "_law_wide"]) fun _ _ _ _ _ _ us hl => match us, hl with | [_, _, _, _], _ => rfl
  have GL_odd_point := fun_mk (st := s_odd_point) lL_odd_point cL_odd_point kL_odd_point
  have bL_odd_point := GL_odd_point.binds (ps := ["_law_draws", "_law_places"]) fun _ _ _ _ _ _ us hl => match us, hl with | [_, _], _ => rfl
  have GL_odd_example := fun_mk (st := s_odd_example) lL_odd_example cL_odd_example kL_odd_example
  have bL_odd_example := GL_odd_example.binds (ps := ["_law_draws", "_law_places"]) fun _ _ _ _ _ _ us hl => match us, hl with | [_, _], _ => rfl
  have GL_end := fun_mk (st := s_end) lL_end cL_end kL_end
  have bL_end := GL_end.binds (ps := ["_law_ask"]) fun _ _ _ _ _ _ us hl => match us, hl with | [_], _ => rfl
  have GL_first_odd := fun_mk (st := s_first_odd) lL_first_odd cL_first_odd kL_first_odd
  have bL_first_odd := GL_first_odd.binds (ps := ["_law_some", "_law_size"]) fun _ _ _ _ _ _ us hl => match us, hl with | [_, _], _ => rfl
  have GM_examples := fun_mk (st := s_Sample_examples) lM_examples cM_examples kM_examples
  have bM_examples := GM_examples.binds (ps := ["self"]) fun _ _ _ _ _ _ us hl => match us, hl with | [_], _ => rfl
  have GM_part := fun_mk (st := s_Sample_part) lM_part cM_part kM_part
  have bM_part := GM_part.binds (ps := ["self", "indexes"]) fun _ _ _ _ _ _ us hl => match us, hl with | [_, _], _ => rfl
  have GM_without := fun_mk (st := s_Sample_without) lM_without cM_without kM_without
  have bM_without := GM_without.binds (ps := ["self", "indexes"]) fun _ _ _ _ _ _ us hl => match us, hl with | [_, _], _ => rfl
  have GM_checked := fun_mk (st := s_Sample_checked) lM_checked cM_checked kM_checked
  have bM_checked := GM_checked.binds (ps := ["self", "indexes"]) fun _ _ _ _ _ _ us hl => match us, hl with | [_, _], _ => rfl
  have GM_len := fun_mk (st := s_Sample_len) lM_len cM_len kM_len
  have bM_len := GM_len.binds (ps := ["self"]) fun _ _ _ _ _ _ us hl => match us, hl with | [_], _ => rfl
  have GCP := fun_mk (st := s_BadPlaces_init) lCP cCP kCP
  have bCP := GCP.binds (ps := ["self", "places"]) fun _ _ _ _ _ _ us hl => match us, hl with | [_, _], _ => rfl
  have EBCP : IsErr K CP (.ref Tc :: veL) := ⟨_, _, _, _, _, _, _, _, _, _, _, _, _, _, xLCP⟩
  have FBCP : ErrF K CP := ⟨saCP, gaCP, ggCP, haCP, kCCP⟩
  have ZBCP : IsiC K CP := isi_of EBCP FBCP rfl hn ht
  have RCP : ∀ base : Heap, ErrC l.prog w K mg base "BadPlaces" CP "places" := fun base => ok_BadPlaces (M aCP) (oex_of EBCP FBCP rfl ZBCP) (xf_of EBCP FBCP ZBCP) nbCP aiCP tiCP GCP bCP fun s u v => .of_eq rfl
  have GCE := fun_mk (st := s_BadExample_init) lCE cCE kCE
  have bCE := GCE.binds (ps := ["self", "index"]) fun _ _ _ _ _ _ us hl => match us, hl with | [_, _], _ => rfl
  have EBCE : IsErr K CE (.ref Tc :: veL) := ⟨_, _, _, _, _, _, _, _, _, _, _, _, _, _, xLCE⟩
  have FBCE : ErrF K CE := ⟨saCE, gaCE, ggCE, haCE, kCCE⟩
  have ZBCE : IsiC K CE := isi_of EBCE FBCE rfl hn ht
  have RCE : ∀ base : Heap, ErrC l.prog w K mg base "BadExample" CE "index" := fun base => ok_BadExample (M aCE) (oex_of EBCE FBCE rfl ZBCE) (xf_of EBCE FBCE ZBCE) nbCE aiCE tiCE GCE bCE fun s u v => .of_eq rfl
  have GCI := fun_mk (st := s_BadIndex_init) lCI cCI kCI
  have bCI := GCI.binds (ps := ["self", "index"]) fun _ _ _ _ _ _ us hl => match us, hl with | [_, _], _ => rfl
  have EBCI : IsErr K CI (.ref Tc :: veL) := ⟨_, _, _, _, _, _, _, _, _, _, _, _, _, _, xLCI⟩
  have FBCI : ErrF K CI := ⟨saCI, gaCI, ggCI, haCI, kCCI⟩
  have ZBCI : IsiC K CI := isi_of EBCI FBCI rfl hn ht
  have RCI : ∀ base : Heap, ErrC l.prog w K mg base "BadIndex" CI "index" := fun base => ok_BadIndex (M aCI) (oex_of EBCI FBCI rfl ZBCI) (xf_of EBCI FBCI ZBCI) nbCI aiCI tiCI GCI bCI fun s u v => .of_eq rfl
  have XM : ExM K CP CE CI := ⟨exm_of exCP icCP tyCP sCPCP, exm_of exCP icCP tyCP sCECP, exm_of exCE icCE tyCE sCECE, exm_of exCP icCP tyCP sCICP, exm_of exCE icCE tyCE sCICE, exm_of exCI icCI tyCI sCICI⟩
  have GD : FunD K "__init__" "Sample.__init__" (defArgs s_Sample_init) (defBody s_Sample_init) (defScope s_Sample_init) [.ref E0] [] fM_init _ := ⟨⟨_, _, _, _, _, _, _, _, _, _, rfl, lM_init, cM_init, .inr ⟨by simp, T0, _, [.ref E0], nT, rfl, lT, rfl, .cons rfl .nil⟩, .inl rfl⟩, kM_init⟩
  obtain ⟨dsv, hdv, bInit⟩ := GD.binds1 (ps := ["self", "places", "examples"]) 3 1 (by simp) rfl (fun T kV doc pm an cdv ct us its h1 h2 => match us, its, h1, h2 with | [_, _, _], [_], _, _ => ⟨_, rfl, rfl⟩)
  cases hdv
  obtain ⟨dsv0, hdv0, bInit0⟩ := GD.binds1 (ps := ["self", "places", "examples"]) 2 0 (by simp) rfl (fun T kV doc pm an cdv ct us its h1 h2 => match us, its, h1, h2 with | [_, _], [_], _, _ => ⟨_, rfl, rfl⟩)
  have hT : ∀ H, Dp K H (.ref E0) (.tuple []) := fun H => .tup (.inr ⟨_, #[], nE, lE, rfl, rfl, by simp, .nil⟩) .nil
  refine ⟨PySem.W.fnOf "law" "law" (defArgs s_law) (defBody s_law) (defScope s_law) .none kVL_law dcL_law pmL_law anL_law (.ref cA) ctL_law, [(cA, PT)], spLaw03 K PT, fun p hp => ?_, fun p hp => ?_, fun p hp => ?_, fun s v => .of_eq rfl, fun H a ns hl _ hTb hS => ⟨a, ns, rfl, hS, hl, fun p hp => ?_, fun _ => rfl⟩, fun base _ _ hTB => ?_⟩
  · rw [List.mem_singleton.mp hp]
    exact own cA PT _ _ _ _ _ _ lL_law rfl rfl lA v11
  · rw [List.mem_singleton.mp hp]
    exact nPT
  · rw [List.mem_singleton.mp hp]
    exact PySem.W.codeHd_of_K X hdA
  · rw [List.mem_singleton.mp hp]
    exact LamX.TabS.nil (hTb (cA, PT) (List.mem_singleton.mpr rfl))
  have TB := hTB (cA, PT) (List.mem_singleton.mpr rfl)
  have R1 := RCP base
  have R2 := RCE base
  have R3 := RCI base
  have D_is_integer : DefAt l.prog w K mg base "is_integer" 1 ["thing"] (spB K isI) := ⟨_, _, ok_is_integer GF_is_integer T, M aF_is_integer, kF_is_integer, bF_is_integer⟩
  have D_is_label : DefAt l.prog w K mg base "is_label" 1 ["thing"] (spB K isL) := ⟨_, _, ok_is_label GF_is_label T, M aF_is_label, kF_is_label, bF_is_label⟩
  have D_is_row : DefAt l.prog w K mg base "is_row" 1 ["thing"] (spB K isR) := ⟨_, _, ok_is_row GF_is_row T, M aF_is_row, kF_is_row, bF_is_row⟩
  have D_is_row_of : DefAt l.prog w K mg base "is_row_of" 2 ["thing", "many"] (spBp K isO) := ⟨_, _, ok_is_row_of GF_is_row_of T D_is_row, M aF_is_row_of, kF_is_row_of, bF_is_row_of⟩
  have D_ix : DefAt l.prog w K mg base "is_index_below" 2 ["thing", "many"] (spBp K isIx) := ⟨_, _, ok_is_index_below GF_is_index_below T D_is_integer, M aF_is_index_below, kF_is_index_below, bF_is_index_below⟩
  have D_num : DefAt l.prog w K mg base "is_number_of_places" 2 ["thing"] (spB K isN) := ⟨_, _, ok_is_number_of_places GF_is_number_of_places T D_is_integer, M aF_is_number_of_places, kF_is_number_of_places, bF_is_number_of_places⟩
  have D_is_point : DefAt l.prog w K mg base "is_point" 3 ["thing", "places"] (spBp K isP) := ⟨_, _, ok_is_point GF_is_point T D_is_integer D_is_row_of, M aF_is_point, kF_is_point, bF_is_point⟩
  have D_is_example : DefAt l.prog w K mg base "is_example" 4 ["thing", "places"] (spBp K isX) := ⟨_, _, ok_is_example GF_is_example T D_is_row_of D_is_point D_is_label, M aF_is_example, kF_is_example, bF_is_example⟩
  have D_copied : DefAt l.prog w K mg base "copied_example" 1 ["example"] (spCopyM K) := ⟨_, _, ok_copiedM GF_copied_example T, M aF_copied_example, kF_copied_example, bF_copied_example⟩
  have FI := ok_SinitM GD T S D_num D_is_row D_is_example D_copied
  have FB := ok_SinitBad GD T R1 R2 D_num D_is_row D_is_example D_copied
  have N_Sample : Mak l.prog w K mg base 5 "Sample" C (spInitM K C) [] := ⟨_, _, _, _, ⟨mk, aM_init, iM_init, kc⟩, FI, M aC, bInit, .nil⟩
  have N_SampleX : MakX l.prog w K mg base 5 "Sample" C (spInitX K C CP CE) [] := ⟨_, _, _, _, ⟨mk, aM_init, iM_init, kc⟩, fn_or FI FB, M aC, bInit, .nil⟩
  have N_SampleX0 : MakX l.prog w K mg base 5 "Sample" C (spInitX K C CP CE) [.ref E0] := ⟨_, _, _, _, ⟨mk, aM_init, iM_init, kc⟩, fn_or FI FB, M aC, bInit0, hdv0⟩
  have M_examples : Met l.prog w K mg base 1 C "examples" (spExamples K C) [] := ⟨_, _, _, _, c, ⟨aM_examples, iM_examples, kM_examples⟩, ok_Sexamples GM_examples T S, bM_examples, .nil⟩
  have M_checked : Met l.prog w K mg base 3 C "_checked" (spChecked K C) [] := ⟨_, _, _, _, c, ⟨aM_checked, iM_checked, kM_checked⟩, ok_Schecked GM_checked T S D_ix, bM_checked, .nil⟩
  have M_checkedX : MetX l.prog w K mg base 3 C "_checked" (spCheckedBad K C CI) [] := ⟨_, _, _, _, c, ⟨aM_checked, iM_checked, kM_checked⟩, ok_ScheckedBad GM_checked T S R3 D_ix, bM_checked, .nil⟩
  have M_part : MetX l.prog w K mg base 7 C "part" (spPartX K C CI cIn) [] := ⟨_, _, _, _, c, ⟨aM_part, iM_part, kM_part⟩, fn_or (ok_Spart GM_part T S M_checked N_Sample) (ok_SpartBad GM_part T S M_checkedX N_Sample), bM_part, .nil⟩
  have M_without : MetX l.prog w K mg base 7 C "without" (spPartX K C CI cOut) [] := ⟨_, _, _, _, c, ⟨aM_without, iM_without, kM_without⟩, fn_or (ok_Swithout GM_without T S M_checked N_Sample) (ok_SwithoutBad GM_without T S M_checkedX N_Sample), bM_without, .nil⟩
  have FL : FnOk l.prog w K mg base CX0 1 fM_len _ ["self"] (spLen K C) := ok_Slen GM_len T S
  have eL : SpM K C fM_len "__len__" := ⟨aM_len, iM_len⟩
  have DE : EndL l.prog w K mg base cA PT CP CE CI := ⟨⟨_, _, _, _, _, _, _, _, _, _, _, M aL_end, kL_end, lL_end, cL_end, bL_end⟩, R1, R2, R3, TB⟩
  have D0 : DefAt l.prog w K mg base "_law_source" 1 ["_law_script", "_law_at"] (spSource K) := ⟨_, _, ok_source GL_source T.toTxB, M aL_source, kL_source, bL_source⟩
  have D1 : DefAt l.prog w K mg base "_law_draw" 1 ["_law_draws", "_law_many"] spDraw := ⟨_, _, ok_draw GL_draw T.toTxB, M aL_draw, kL_draw, bL_draw⟩
  have D2 : DefAt l.prog w K mg base "_law_pick" 2 ["_law_draws", "_law_things"] (spPickV K) := ⟨_, _, ok_pickV GL_pick T.toTxB D1, M aL_pick, kL_pick, bL_pick⟩
  have D3 : ∀ n, DefAt l.prog w K mg base "_law_same" n ["_law_found", "_law_due"] (spPrevQ K n) := fun n => by
    induction n with
    | zero => exact ⟨_, _, ⟨fun _ _ _ _ h => h.elim, fun _ _ _ _ _ _ _ _ _ _ _ _ _ h => h.elim⟩, M aL_same, kL_same, bL_same⟩
    | succ n ih => exact ⟨_, _, same_bodyQ GL_same T.toTxB n ih, M aL_same, kL_same, bL_same⟩
  have D4 : DefAt l.prog w K mg base "_law_point" 2 ["_law_draws", "_law_places", "_law_wide"] (spPoint K) := ⟨_, _, ok_point GL_point T D1, M aL_point, kL_point, bL_point⟩
  have D5 : DefAt l.prog w K mg base "_law_rows" 3 ["_law_draws", "_law_places", "_law_most", "_law_wide"] (spRows K) := ⟨_, _, ok_rows GL_rows T D1 D2 D4, M aL_rows, kL_rows, bL_rows⟩
  have D6 : DefAt l.prog w K mg base "_law_odd_point" 3 ["_law_draws", "_law_places"] (spOdd K isP) := ⟨_, _, ok_odd_point GL_odd_point T D2 D4, M aL_odd_point, kL_odd_point, bL_odd_point⟩
  have D7 : DefAt l.prog w K mg base "_law_odd_example" 4 ["_law_draws", "_law_places"] (spOdd2 K isX) := ⟨_, _, ok_odd_example GL_odd_example T D2 D4 D6, M aL_odd_example, kL_odd_example, bL_odd_example⟩
  have D8 : DefAt l.prog w K mg base "_law_first_odd" 1 ["_law_some", "_law_size"] (spFirst K) := ⟨_, _, ok_first_odd GL_first_odd T, M aL_first_odd, kL_first_odd, bL_first_odd⟩
  refine FnOk.mono (j := 10) (ok_code (N := sc_law_N) lL_law cL_law sc_law (fun vs H Q E h => ?_) (fun A outer s H vs Q E hr h => ?_)) (by decide)
  · obtain ⟨_, _, rfl, _⟩ := h
    rfl
  · obtain ⟨a, ns, rfl, hS, hlen, ht0, k0⟩ := h
    exact law_try TS S XM hr hT DE FL eL bM_len N_Sample N_SampleX N_SampleX0 M_part M_without M_examples D0 D1 D5 D2 (D3 6) D7 D8 hS hlen ht0 k0
theorem walk {l : PySem.W.OpenLaw} {q : Program} {loose : List Str} {XP : (Str → Option Value) → Heap → Prop} {YP : World → Heap → Prop} {d : DefRec} {K : Params → PySem.W.Frag} (hn : l.most = some 63) (hdf : d.params.defaults = []) (hrec : ((recsOf q).any fun e => e.name == d.name) = true)
    (hY : ∀ (w : World) (h : Heap), YP w h → (K w.params).In h)
    (F : ∀ (w : World) (mg : Str → Option Value) (fa : Addr) (h : Heap), (K w.params).In h → h.Ns mainGlobals mg → mg d.name = some (.ref fa) → LamX.OwnTab (K w.params) fa h →
      LamX.LawAtS l w (K w.params) CX0 12 63 "_law_script" mg fa h) :
    PySem.W.WalkO q loose XP YP l.row.toRowW d [] (fun f vs => PySem.call f vs) :=
  LamX.walk_ofOwn (n := 63) (k := 12) (x := "_law_script") (CX := fun _ => CX0) hn (by decide) hdf ⟨rfl, by decide, by decide⟩ hrec hY (fun w mg fa h _ => F w mg fa h) fun _ _ _ _ _ z => z
end U

set_option Elab.async false
open PySem PySem.W PyProof.Rows in
set_option maxRecDepth 100000 in
set_option maxHeartbeats 0 in
theorem PySem.Challenge.cw_toldenough_k03_samples_refused_holds : PySem.Challenge.rw_toldenough_k03_samples_refused.Holds := by
  w_on; o_law; k_head; (case hw => w_witness2)
  k_fill
  refine U.walk (l := PySem.Challenge.rw_toldenough_k03_samples_refused) rfl rfl (by decide +kernel) (fun w h Y => PySem.W.km_in_of Y) ?F
  case F =>
    intro w mg fa h KX G hmg own
    refine' U.all_mk KX G hmg own ?aF_is_integer ?lF_is_integer ?cF_is_integer ?kF_is_integer ?aF_is_label ?lF_is_label ?cF_is_label ?kF_is_label ?aF_is_row ?lF_is_row ?cF_is_row ?kF_is_row ?aF_is_row_of ?lF_is_row_of ?cF_is_row_of ?kF_is_row_of ?aF_is_index_below ?lF_is_index_below ?cF_is_index_below ?kF_is_index_below ?aF_is_number_of_places ?lF_is_number_of_places ?cF_is_number_of_places ?kF_is_number_of_places ?aF_is_point ?lF_is_point ?cF_is_point ?kF_is_point ?aF_is_example ?lF_is_example ?cF_is_example ?kF_is_example ?aF_copied_example ?lF_copied_example ?cF_copied_example ?kF_copied_example ?aL_source ?lL_source ?cL_source ?kL_source ?aL_draw ?lL_draw ?cL_draw ?kL_draw ?aL_pick ?lL_pick ?cL_pick ?kL_pick ?aL_same ?lL_same ?cL_same ?kL_same ?aL_point ?lL_point ?cL_point ?kL_point ?aL_rows ?lL_rows ?cL_rows ?kL_rows ?aL_odd_point ?lL_odd_point ?cL_odd_point ?kL_odd_point ?aL_odd_example ?lL_odd_example ?cL_odd_example ?kL_odd_example ?aL_end ?lL_end ?cL_end ?kL_end ?aL_first_odd ?lL_first_odd ?cL_first_odd ?kL_first_odd ?aL_law ?lL_law ?cL_law ?kL_law ?lA ?v11 ?hdA ?nPT ?aC ?pg ?hd ?po ?sa ?mk ?kc ?nP ?nQ ?ha ?hn ?ht ?hm ?cL ?cM ?aCP ?xLCP ?saCP ?gaCP ?ggCP ?haCP ?kCCP ?nbCP ?aiCP ?tiCP ?exCP ?icCP ?tyCP ?lCP ?cCP ?kCP ?aCE ?xLCE ?saCE ?gaCE ?ggCE ?haCE ?kCCE ?nbCE ?aiCE ?tiCE ?exCE ?icCE ?tyCE ?lCE ?cCE ?kCE ?aCI ?xLCI ?saCI ?gaCI ?ggCI ?haCI ?kCCI ?nbCI ?aiCI ?tiCI ?exCI ?icCI ?tyCI ?lCI ?cCI ?kCI ?sCPCP ?sCECP ?sCECE ?sCICP ?sCICE ?sCICI ?aM_init ?iM_init ?lM_init ?cM_init ?kM_init ?aM_examples ?iM_examples ?lM_examples ?cM_examples ?kM_examples ?aM_part ?iM_part ?lM_part ?cM_part ?kM_part ?aM_without ?iM_without ?lM_without ?cM_without ?kM_without ?aM_checked ?iM_checked ?lM_checked ?cM_checked ?kM_checked ?aM_len ?iM_len ?lM_len ?cM_len ?kM_len ?lT ?lE ?z_len ?z_int ?z_isinstance ?z_list ?z_tuple ?z_bool ?z_all ?z_zip ?z_range ?z_enumerate ?z_sorted ?z_min
    (case aF_is_integer => k_is)
    (case lF_is_integer => k_is)
    (case cF_is_integer => k_is)
    (case kF_is_integer => k_is)
    (case aF_is_label => k_is)
    (case lF_is_label => k_is)
    (case cF_is_label => k_is)
    (case kF_is_label => k_is)
    (case aF_is_row => k_is)
    (case lF_is_row => k_is)
    (case cF_is_row => k_is)
    (case kF_is_row => k_is)
    (case aF_is_row_of => k_is)
    (case lF_is_row_of => k_is)
    (case cF_is_row_of => k_is)
    (case kF_is_row_of => k_is)
    (case aF_is_index_below => k_is)
    (case lF_is_index_below => k_is)
    (case cF_is_index_below => k_is)
    (case kF_is_index_below => k_is)
    (case aF_is_number_of_places => k_is)
    (case lF_is_number_of_places => k_is)
    (case cF_is_number_of_places => k_is)
    (case kF_is_number_of_places => k_is)
    (case aF_is_point => k_is)
    (case lF_is_point => k_is)
    (case cF_is_point => k_is)
    (case kF_is_point => k_is)
    (case aF_is_example => k_is)
    (case lF_is_example => k_is)
    (case cF_is_example => k_is)
    (case kF_is_example => k_is)
    (case aF_copied_example => k_is)
    (case lF_copied_example => k_is)
    (case cF_copied_example => k_is)
    (case kF_copied_example => k_is)
    (case aL_source => k_is)
    (case lL_source => k_is)
    (case cL_source => k_is)
    (case kL_source => k_is)
    (case aL_draw => k_is)
    (case lL_draw => k_is)
    (case cL_draw => k_is)
    (case kL_draw => k_is)
    (case aL_pick => k_is)
    (case lL_pick => k_is)
    (case cL_pick => k_is)
    (case kL_pick => k_is)
    (case aL_same => k_is)
    (case lL_same => k_is)
    (case cL_same => k_is)
    (case kL_same => k_is)
    (case aL_point => k_is)
    (case lL_point => k_is)
    (case cL_point => k_is)
    (case kL_point => k_is)
    (case aL_rows => k_is)
    (case lL_rows => k_is)
    (case cL_rows => k_is)
    (case kL_rows => k_is)
    (case aL_odd_point => k_is)
    (case lL_odd_point => k_is)
    (case cL_odd_point => k_is)
    (case kL_odd_point => k_is)
    (case aL_odd_example => k_is)
    (case lL_odd_example => k_is)
    (case cL_odd_example => k_is)
    (case kL_odd_example => k_is)
    (case aL_end => k_is)
    (case lL_end => k_is)
    (case cL_end => k_is)
    (case kL_end => k_is)
    (case aL_first_odd => k_is)
    (case lL_first_odd => k_is)
    (case cL_first_odd => k_is)
    (case kL_first_odd => k_is)
    (case aL_law => k_is)
    (case lL_law => k_is)
    (case cL_law => k_is)
    (case kL_law => k_is)
    (case lA => k_is)
    (case v11 => rfl)
    (case hdA => kernel_rfl)
    (case nPT => kernel_rfl)
    (case aC => k_is)
    (case pg => k_is)
    (case hd => k_is)
    (case po => k_is)
    (case sa => k_is)
    (case mk => k_is)
    (case kc => k_is)
    (case nP => k_is)
    (case nQ => k_is)
    (case ha => k_is)
    (case hn => k_is)
    (case ht => k_is)
    (case hm => k_is)
    (case cL => k_is)
    (case cM => k_is)
    (case aCP => k_is)
    (case xLCP => k_is)
    (case saCP => k_is)
    (case gaCP => k_is)
    (case ggCP => k_is)
    (case haCP => k_is)
    (case kCCP => k_is)
    (case nbCP => k_is)
    (case aiCP => k_is)
    (case tiCP => k_is)
    (case exCP => k_is)
    (case icCP => k_is)
    (case tyCP => k_is)
    (case lCP => k_is)
    (case cCP => k_is)
    (case kCP => k_is)
    (case aCE => k_is)
    (case xLCE => k_is)
    (case saCE => k_is)
    (case gaCE => k_is)
    (case ggCE => k_is)
    (case haCE => k_is)
    (case kCCE => k_is)
    (case nbCE => k_is)
    (case aiCE => k_is)
    (case tiCE => k_is)
    (case exCE => k_is)
    (case icCE => k_is)
    (case tyCE => k_is)
    (case lCE => k_is)
    (case cCE => k_is)
    (case kCE => k_is)
    (case aCI => k_is)
    (case xLCI => k_is)
    (case saCI => k_is)
    (case gaCI => k_is)
    (case ggCI => k_is)
    (case haCI => k_is)
    (case kCCI => k_is)
    (case nbCI => k_is)
    (case aiCI => k_is)
    (case tiCI => k_is)
    (case exCI => k_is)
    (case icCI => k_is)
    (case tyCI => k_is)
    (case lCI => k_is)
    (case cCI => k_is)
    (case kCI => k_is)
    (case sCPCP => k_is)
    (case sCECP => k_is)
    (case sCECE => k_is)
    (case sCICP => k_is)
    (case sCICE => k_is)
    (case sCICI => k_is)
    (case aM_init => k_is)
    (case iM_init => k_is)
    (case lM_init => k_is)
    (case cM_init => k_is)
    (case kM_init => k_is)
    (case aM_examples => k_is)
    (case iM_examples => k_is)
    (case lM_examples => k_is)
    (case cM_examples => k_is)
    (case kM_examples => k_is)
    (case aM_part => k_is)
    (case iM_part => k_is)
    (case lM_part => k_is)
    (case cM_part => k_is)
    (case kM_part => k_is)
    (case aM_without => k_is)
    (case iM_without => k_is)
    (case lM_without => k_is)
    (case cM_without => k_is)
    (case kM_without => k_is)
    (case aM_checked => k_is)
    (case iM_checked => k_is)
    (case lM_checked => k_is)
    (case cM_checked => k_is)
    (case kM_checked => k_is)
    (case aM_len => k_is)
    (case iM_len => k_is)
    (case lM_len => k_is)
    (case cM_len => k_is)
    (case kM_len => k_is)
    (case lT => k_is)
    (case lE => k_is)
    (case z_len => k_is)
    (case z_int => k_is)
    (case z_isinstance => k_is)
    (case z_list => k_is)
    (case z_tuple => k_is)
    (case z_bool => k_is)
    (case z_all => k_is)
    (case z_zip => k_is)
    (case z_range => k_is)
    (case z_enumerate => k_is)
    (case z_sorted => k_is)
    (case z_min => k_is)


import PyProof.Rows.All
import Wide.All
import OpenK.AllK
import Wide.FinOn
import PyProof.EqAt
import PyProof.EqKinds
import PyProof.TupleCall
import HandS.Base
import HandS.Call
import HandS.List
import HandS.Comp
import HandS.Ends
import HandS.Dict
import HandS.Iter
import HandS.Words
import HandS.WordsList
import HandS.Evl
import HandS.Zip
import HandS.IsInst
import HandS.Walk
import KE.GoesEnum
import KE.GoesMore
import HandS.Exc
import HandS.ExcOwn
import HandS.ExcInit
import HandS.ExcValue
import KE.KExcIs
import HandS.ExcField
import HandS.OwnEq
import HandS.TupAny
import HandS.Codes
import HandS.TryOnly
import HandS.WordsExc
import PySem.Challenge.RW_toldenough_k18_certificates_by_any_numbe
import KE.KOpsOwn
import HandS.Defaults
import HandS.Steps
import PyProof.InstEq
import HandS.Deep
import PyProof.P3In
import OpenK.KOps
import OpenK.KMeth
import PyProof.DictUpdate
import PyProof.DictDisplay
import HandS.DictComp
import HandS.Star
import KE.KDictZip
import KE.GoesZip
import HandS.ListItems
import HandS.Sort
import HandS.Style
import KE.KStateDown
import HandS.Head0
import HandS.Head1
import HandS.Head2
import HandS.HeadEnd
import HandS.HeadHook1
import HandS.HeadHook2
set_option Elab.async false
set_option linter.all false
set_option maxRecDepth 100000
set_option maxHeartbeats 2000000
namespace U
open PySem L2
open Evl (Ex)
/-! ### heaps with hidden cells -/
/-- H without the cells of L -/
def W (L : List Addr) (H : Hp) : Hp := fun a => if a ∈ L then none else H a
/-- the hidden cells stand in H -/
def Hid (L : List Addr) (H : Hp) : Prop := ∀ a ∈ L, H a ≠ none
section
variable {L : List Addr} {H H' H2 : Hp} {a p : Addr} {o u : HO}
theorem w_in (h : W L H a = some o) : H a = some o ∧ a ∉ L := by
  unfold W at h
  by_cases e : a ∈ L
  · rw [if_pos e] at h
    cases h
  · rw [if_neg e] at h
    exact ⟨h, e⟩
theorem w_of (n : a ∉ L) (h : H a = some o) : W L H a = some o := by
  unfold W
  rw [if_neg n]
  exact h
theorem w_sub : Ex (W L H) H := fun a o h => (w_in h).1
theorem w_ex (e : Ex H H') : Ex (W L H) (W L H') := fun a o h => w_of (w_in h).2 (e a o (w_in h).1)
theorem w_nil : W [] H = H := by
  funext a
  unfold W
  rw [if_neg (by simp)]
theorem hid_nil : Hid [] H := fun _ h => by cases h
theorem hid_ex (e : Ex H H') (h : Hid L H) : Hid L H' := fun a m z => by
  cases q : H a with
  | none => exact h a m q
  | some o =>
    have r := e a o q
    rw [z] at r
    cases r
theorem hid_not (h : Hid L H) (n : H p = none) : p ∉ L := fun m => h p m n
theorem w_new (h : Hid L H) (n : H p = none) : W L (upd H p o) p = some o := w_of (hid_not h n) upd_same
theorem w_upd_in (m : p ∈ L) : W L (upd H p o) = W L H := by
  funext a
  unfold W
  by_cases e : a ∈ L
  · rw [if_pos e, if_pos e]
  · rw [if_neg e, if_neg e, upd_ne (fun z => e (by rw [z]; exact m))]
theorem w_sub2 {L2 : List Addr} (s : ∀ a ∈ L, a ∈ L2) : Ex (W L2 H) (W L H) := fun a o h => w_of (fun m => (w_in h).2 (s a m)) (w_in h).1
theorem hid_upd (h : Hid L H) : Hid L (upd H p o) := fun a m z => by
  by_cases e : a = p
  · rw [e, upd_same] at z
    cases z
  · rw [upd_ne e] at z
    exact h a m z
end
/-! ### data that stands -/
section
variable {K : PySem.W.Frag} {H H' : Hp}
mutual
theorem dp_mono (e : Ex H H') : ∀ (d : PyData) (v : V), Dp K H v d → Dp K H' v d
  | .none, _, h => by cases h; exact .non
  | .bool _, _, h => by cases h; exact .bl _
  | .int _, _, h => by cases h; exact .int _
  | .str _, _, h => by cases h; exact .str _
  | .list ds, _, h => by
    cases h with
    | lst hs ha => exact .lst (Evl.ex_l e hs) (dpa_mono e ds _ ha)
  | .tuple ds, _, h => by
    cases h with
    | tup hs ha => exact .tup (Evl.ex_t e hs) (dpa_mono e ds _ ha)
  | .dict _, _, h => by cases h
theorem dpa_mono (e : Ex H H') : ∀ (ds : List PyData) (vs : List V), DpAll K H vs ds → DpAll K H' vs ds
  | [], _, h => by cases h; exact .nil
  | d :: ds, _, h => by
    cases h with
    | cons h1 h2 => exact .cons (dp_mono e d _ h1) (dpa_mono e ds _ h2)
end
theorem _root_.L2.Dp.up {v : V} {d : PyData} (h : Dp K H v d) (e : Ex H H') : Dp K H' v d := dp_mono e d v h
theorem _root_.L2.DpAll.up {vs : List V} {ds : List PyData} (h : DpAll K H vs ds) (e : Ex H H') : DpAll K H' vs ds := dpa_mono e ds vs h
theorem dpa_len : ∀ {vs : List V} {ds : List PyData}, DpAll K H vs ds → vs.length = ds.length
  | _, _, .nil => rfl
  | _, _, .cons _ t => congrArg Nat.succ (dpa_len t)
theorem dpa_get : ∀ {vs : List V} {ds : List PyData} {i : Nat} {v : V}, DpAll K H vs ds → vs[i]? = some v → ∃ d, ds[i]? = some d ∧ Dp K H v d
  | _, _, _, _, .nil, e => by simp at e
  | _, _, 0, _, .cons r _, e => by simp at e; subst e; exact ⟨_, rfl, r⟩
  | _, _, i + 1, x, .cons _ t, e => by
    obtain ⟨d, h1, h2⟩ := dpa_get (i := i) (v := x) t (by simpa using e)
    exact ⟨d, by simpa using h1, h2⟩
theorem dpa_app : ∀ {vs ws : List V} {ds es : List PyData}, DpAll K H vs ds → DpAll K H ws es → DpAll K H (vs ++ ws) (ds ++ es)
  | _, _, _, _, .nil, h => h
  | _, _, _, _, .cons r t, h => .cons r (dpa_app t h)
/-- the type's name -/
def tyOf : PyData → String
  | .none => "NoneType"
  | .bool _ => "bool"
  | .int _ => "int"
  | .str _ => "str"
  | .list _ => "list"
  | .tuple _ => "tuple"
  | .dict _ => "dict"
theorem dp_ty {v : V} {d : PyData} (h : Dp K H v d) : TyX K H v (.type (tyOf d)) := by
  cases h with
  | non => exact .base .non
  | bl b => exact .base (.bl b)
  | int i => exact .base (.int i)
  | str x => exact .base (.str x)
  | lst hs ha =>
    rcases hs with (h | ⟨o, h⟩) | ⟨o, its, n, h, c, _⟩
    · exact .base (.lst h)
    · exact .base (.frz h)
    · exact .kList h c
  | tup hs ha =>
    rcases hs with (h | ⟨o, h⟩) | ⟨o, its, n, h, c, _⟩
    · exact .base (.tup h)
    · exact .fTuple h
    · exact .kTuple h c
/-- isinstance of data: one class, several classes -/
def kitsB (a : String) : List String → Option Bool
  | [] => some false
  | n :: ns => match kitB a n with
    | some true => some true
    | some false => kitsB a ns
    | none => none
theorem kitsB_ok {a : String} : ∀ {ns : List String} {b : Bool}, kitsB a ns = some b → PySem.W.kitAny K (.type a) (ns.map Value.type) = some b
  | [], _, h => h
  | n :: ns, b, h => by
    unfold kitsB at h
    cases q : kitB a n with
    | none => rw [q] at h; cases h
    | some c =>
      rw [q] at h
      cases c with
      | true =>
        cases h
        exact kitAny_cons (kit_ty q) (fun z => by cases z) fun _ => rfl
      | false => exact kitAny_cons (kit_ty q) (fun _ => kitsB_ok h) fun z => by cases z
theorem tys_cls : ∀ {ns : List String}, Paired ClsV (ns.map V.ty) (ns.map Value.type)
  | [] => .nil
  | n :: _ => .cons (.ty n) tys_cls
end
/-! ### what isinstance answers -/
theorem isi_NoneType_bool : kitB "NoneType" "bool" = some false := by decide +kernel
theorem isi_NoneType_int : kitB "NoneType" "int" = some false := by decide +kernel
theorem isi_NoneType_list_tuple : kitsB "NoneType" ["list", "tuple"] = some false := by decide +kernel
theorem isi_NoneType_bool_int : kitsB "NoneType" ["bool", "int"] = some false := by decide +kernel
theorem isi_NoneType_bool_int_list_tuple : kitsB "NoneType" ["bool", "int", "list", "tuple"] = some false := by decide +kernel
theorem isi_bool_bool : kitB "bool" "bool" = some true := by decide +kernel
theorem isi_bool_int : kitB "bool" "int" = some true := by decide +kernel
theorem isi_bool_list_tuple : kitsB "bool" ["list", "tuple"] = some false := by decide +kernel
theorem isi_bool_bool_int : kitsB "bool" ["bool", "int"] = some true := by decide +kernel
theorem isi_int_bool : kitB "int" "bool" = some false := by decide +kernel
theorem isi_int_int : kitB "int" "int" = some true := by decide +kernel
theorem isi_int_list_tuple : kitsB "int" ["list", "tuple"] = some false := by decide +kernel
theorem isi_int_bool_int : kitsB "int" ["bool", "int"] = some true := by decide +kernel
theorem isi_str_bool : kitB "str" "bool" = some false := by decide +kernel
theorem isi_str_int : kitB "str" "int" = some false := by decide +kernel
theorem isi_str_str : kitB "str" "str" = some true := by decide +kernel
theorem isi_str_list_tuple : kitsB "str" ["list", "tuple"] = some false := by decide +kernel
theorem isi_str_bool_int : kitsB "str" ["bool", "int"] = some false := by decide +kernel
theorem isi_str_bool_int_list_tuple : kitsB "str" ["bool", "int", "list", "tuple"] = some false := by decide +kernel
theorem isi_list_list : kitB "list" "list" = some true := by decide +kernel
theorem isi_list_tuple : kitB "list" "tuple" = some false := by decide +kernel
theorem isi_list_bool : kitB "list" "bool" = some false := by decide +kernel
theorem isi_list_int : kitB "list" "int" = some false := by decide +kernel
theorem isi_list_list_tuple : kitsB "list" ["list", "tuple"] = some true := by decide +kernel
theorem isi_tuple_list : kitB "tuple" "list" = some false := by decide +kernel
theorem isi_tuple_tuple : kitB "tuple" "tuple" = some true := by decide +kernel
theorem isi_tuple_bool : kitB "tuple" "bool" = some false := by decide +kernel
theorem isi_tuple_int : kitB "tuple" "int" = some false := by decide +kernel
theorem isi_tuple_list_tuple : kitsB "tuple" ["list", "tuple"] = some true := by decide +kernel
theorem isi_dict_bool : kitB "dict" "bool" = some false := by decide +kernel
theorem isi_dict_int : kitB "dict" "int" = some false := by decide +kernel
theorem isi_dict_list_tuple : kitsB "dict" ["list", "tuple"] = some false := by decide +kernel
/-! ### readings -/
section
variable {K : PySem.W.Frag} {σ : L2.St} {H : Hp} {te tb : TE} {v w : V} {d e : PyData} {b : Bool}
theorem ev_isi {n : String} (h : Evl.Ev te σ H v) (hd : Dp K H v d) (hb : kitB (tyOf d) n = some b) : Evl.Ev (tCB (rIsi K) (tCons te (tCons (tC (.ty n)) tNil))) σ H (.bl b) := fun H1 e1 Q q =>
  h H1 e1 _ fun H2 e2 => ⟨v, .ty n, _, _, b, rfl, .ty n, dp_ty (Dp.up hd (e1.trans e2)), kit_ty hb, q H2 e2⟩
theorem ev_isi2 {m n : String} (h : Evl.Ev te σ H v) (hd : Dp K H v d) (hb : kitsB (tyOf d) [m, n] = some b) : Evl.Ev (tCB (rIsiT K) (tCons te (tCons (tTup (tCons (tC (.ty m)) (tCons (tC (.ty n)) tNil))) tNil))) σ H (.bl b) := fun H1 e1 Q q =>
  h H1 e1 _ fun H2 e2 => ⟨by show 2 ≤ sizeLine; decide, fun p hp => ⟨v, p, _, _, _, b, rfl, upd_same, tys_cls (ns := [m, n]), dp_ty (Dp.up hd ((e1.trans e2).trans (Ex.new hp))), kitsB_ok hb, q _ (e2.trans (Ex.new hp))⟩⟩
theorem ev_isi4 {m n k l : String} (h : Evl.Ev te σ H v) (hd : Dp K H v d) (hb : kitsB (tyOf d) [m, n, k, l] = some b) :
    Evl.Ev (tCB (rIsiT K) (tCons te (tCons (tTup (tCons (tC (.ty m)) (tCons (tC (.ty n)) (tCons (tC (.ty k)) (tCons (tC (.ty l)) tNil))))) tNil))) σ H (.bl b) := fun H1 e1 Q q =>
  h H1 e1 _ fun H2 e2 => ⟨by show 4 ≤ sizeLine; decide, fun p hp => ⟨v, p, _, _, _, b, rfl, upd_same, tys_cls (ns := [m, n, k, l]), dp_ty (Dp.up hd ((e1.trans e2).trans (Ex.new hp))), kitsB_ok hb, q _ (e2.trans (Ex.new hp))⟩⟩
theorem ev_eqD (h : Evl.Ev te σ H v) (h2 : Evl.Ev tb σ H w) (hd : Dp K H v d) (he : Dp K H w e) (sd : SeqAt.shaped d = true) (se : SeqAt.shaped e = true) : Evl.Ev (tOp (rEqD K) te tb) σ H (.bl (PyData.eqv d e)) := fun H1 e1 Q q =>
  h H1 e1 _ fun H2 e2 => h2 H2 (e1.trans e2) _ fun H3 e3 => ⟨d, e, Dp.up hd ((e1.trans e2).trans e3), Dp.up he ((e1.trans e2).trans e3), sd, se, q H3 (e2.trans e3)⟩
theorem ev_eqB {a c : Bool} (h : Evl.Ev te σ H (.bl a)) (h2 : Evl.Ev tb σ H (.bl c)) : Evl.Ev (tOp rEq te tb) σ H (.bl (decide (V.bl a = V.bl c))) := Evl.ev_op h h2 (Evl.rv_eq rfl)
theorem ev_neB {a c : Bool} (h : Evl.Ev te σ H (.bl a)) (h2 : Evl.Ev tb σ H (.bl c)) : Evl.Ev (tOp rNe te tb) σ H (.bl (!decide (V.bl a = V.bl c))) := Evl.ev_op h h2 (Evl.rv_ne rfl)
theorem ev_lenS {a : Addr} {xs : List V} (ha : Evl.Ev te σ H (.ref a)) (h : SqL K H a xs ∨ SqT K H a xs) : Evl.Ev (tCB (fun xs H Q => ∃ p ys, xs = [.ref p] ∧ (SqL K H p ys ∨ SqT K H p ys) ∧ Q (.int ys.length) H) (tCons te tNil)) σ H (.int (xs.length : Int)) := fun H1 e Q q =>
  ha H1 e _ fun H2 e2 => ⟨a, xs, rfl, h.imp (Evl.ex_l (e.trans e2)) (Evl.ex_t (e.trans e2)), q H2 e2⟩
end
/-! ### defs of the text, found by their names -/
structure DefAt (P : Program) (w : World) (K : PySem.W.Frag) (mg : Str → Option Value) (base : Heap) (x : Str) (k : Nat) (ps : List Str) (sp : Sp) : Prop where
  ex : ∃ f fd, FnOk P w K mg base CX0 k f fd ps sp ∧ mg x = some (.ref f) ∧ PySem.W.keepIn K (.ref f) = true ∧ Binds K fd ps []
theorem DefAt.imp {P : Program} {w : World} {K : PySem.W.Frag} {mg : Str → Option Value} {base : Heap} {x : Str} {k : Nat} {ps : List Str} {sp sp' : Sp} (D : DefAt P w K mg base x k ps sp) (h : ∀ vs H Q E, sp' vs H Q E → sp vs H Q E) : DefAt P w K mg base x k ps sp' := by
  obtain ⟨f, fd, F, r⟩ := D.ex
  exact ⟨f, fd, F.imp h, r⟩
theorem DefAt.mono {P : Program} {w : World} {K : PySem.W.Frag} {mg : Str → Option Value} {base : Heap} {x : Str} {k j : Nat} {ps : List Str} {sp : Sp} (D : DefAt P w K mg base x k ps sp) (h : k ≤ j) : DefAt P w K mg base x j ps sp := by
  obtain ⟨f, fd, F, r⟩ := D.ex
  exact ⟨f, fd, F.mono h, r⟩
def tCallD (sp : Sp) (t : TA) : TE := fun σ H Q => t σ H fun vs H1 => sp vs H1 Q E0
theorem pe_callD {X : Cx} {x : Str} {k : Nat} {ps : List Str} {sp : Sp} {p pos : Pos} {e : Expr} {es : List Expr} {t : TA} (D : DefAt X.prog X.w X.K X.mg X.base x k ps sp) (hr : Room k X.A) (hg : Gl X x) (ha : PA X (e :: es) t)
    (hdb : (x == ("__debug__" : Str)) = false := by decide) (he : starEach (e :: es) X.env = (false, eval e X.env) :: starEach es X.env := by rfl) (hpl : (backTo pos (starEach es X.env)).any (·.1) = false := by rfl) :
    PE X (.Call (.Name x p) (e :: es) [] pos) (tCallD sp t) := by
  obtain ⟨f, fd, F, hm, hk, hb⟩ := D.ex
  refine ⟨fun pins s σ H Q I h => (pe_call (E := E0) F hr hg hm hk hb .nil pass0 ha hdb he hpl).run pins s σ H Q I ?_⟩
  have e1 : (fun (vs : List V) (H1 : Hp) => sp (vs ++ []) H1 Q E0) = fun vs H1 => sp vs H1 Q E0 := by
    funext vs H1
    rw [List.append_nil]
  show t σ H fun vs H1 => sp (vs ++ []) H1 Q E0
  rw [e1]
  exact h
/-! ### draws -/
/-- at l the draws: three numbers; at most n drawn by the second way -/
def Dr (n : Nat) (H : Hp) (l : Addr) : Prop := ∃ x y z : Int, H l = some (.lst [.int x, .int y, .int z]) ∧ 0 ≤ x ∧ 0 ≤ y ∧ y ≤ 1099511627776 ∧ 0 ≤ z ∧ z ≤ (n : Int)
theorem Dr.up {n m : Nat} {H : Hp} {l : Addr} (h : Dr n H l) (e : n ≤ m) : Dr m H l := by
  obtain ⟨x, y, z, h1, h2, h3, h4, h5, h6⟩ := h
  exact ⟨x, y, z, h1, h2, h3, h4, h5, by omega⟩
theorem Dr.ne {n : Nat} {H : Hp} {l : Addr} (h : Dr n H l) : H l ≠ none := by
  obtain ⟨x, y, z, h1, _⟩ := h
  rw [h1]
  simp
theorem Dr.ex {n : Nat} {H H' : Hp} {l : Addr} (h : Dr n H l) (e : Ex H H') : Dr n H' l := by
  obtain ⟨x, y, z, h1, h2⟩ := h
  exact ⟨x, y, z, e _ _ h1, h2⟩
/-- all but the cell l stays -/
def ExB (l : Addr) (H H' : Hp) : Prop := ∀ a o, a ≠ l → H a = some o → H' a = some o
theorem ExB.refl (l : Addr) (H : Hp) : ExB l H H := fun _ _ _ h => h
theorem ExB.of {l : Addr} {H H' : Hp} (e : Ex H H') : ExB l H H' := fun a o _ h => e a o h
theorem ExB.trans {l : Addr} {H H1 H2 : Hp} (a : ExB l H H1) (b : ExB l H1 H2) : ExB l H H2 := fun c o n h => b c o n (a c o n h)
theorem ExB.upd {l : Addr} {H : Hp} {o : HO} : ExB l H (upd H l o) := fun a u n h => by
  rw [upd_ne n]
  exact h
theorem ExB.w {l : Addr} {L : List Addr} {H H' : Hp} (e : ExB l H H') (m : l ∈ L) : Ex (W L H) (W L H') := fun a o h => by
  obtain ⟨h1, n⟩ := w_in h
  exact w_of n (e a o (fun z => n (by rw [z]; exact m)) h1)
theorem ExB.hid {l : Addr} {L : List Addr} {H H' : Hp} (e : ExB l H H') (hl : H' l ≠ none) (h : Hid L H) : Hid L H' := fun a m => by
  by_cases q : a = l
  · rw [q]
    exact hl
  · intro z
    cases r : H a with
    | none => exact h a m r
    | some o =>
      have t := e a o q r
      rw [z] at t
      cases t
def spSource (K : PySem.W.Frag) : Sp := fun vs H Q _ => ∃ (s : Addr) (ns : List Int) (i : Nat), vs = [.ref s, .int (i : Int)] ∧ SqL K H s (ns.map V.int) ∧ ns.length ≤ 63 ∧ i ≤ 100 ∧
  ∀ l o, H l = none → Dr 0 (upd H l o) l → Q (.ref l) (upd H l o)
def spDraw : Sp := fun vs H Q _ => ∃ (l : Addr) (many : Int) (n : Nat), vs = [.ref l, .int many] ∧ Dr n H l ∧ n < 1000000 ∧ 0 < many ∧ many < 1073741824 ∧
  ∀ r o, 0 ≤ r → r < many → Dr (n + 1) (upd H l o) l → Q (.int r) (upd H l o)
end U
set_option Elab.async false
set_option linter.all false
set_option maxRecDepth 100000
set_option maxHeartbeats 2000000
namespace U
open PySem L2
open Evl (Ex)
theorem yes_lc {σ : L2.St} {H : Hp} {A B : Hp → Prop} (h : A H) : tYes σ H (fun b H3 => if b = true then A H3 else B H3) := by
  show (if true = true then A H else B H)
  rw [if_pos rfl]
  exact h
section
variable {K : PySem.W.Frag} {a b : Addr} {xs ys : List V} {σ : L2.St} {H : Hp}
theorem walk_zipT {n : Nat} (hn : n = min xs.length ys.length) : Walk (RZ.ItzT K a b) n (fun H => SqT K H a xs ∧ SqT K H b ys) (YPair (fun i => xs[i]?) (fun i => ys[i]?)) := by
  subst hn
  refine ⟨fun i _ hi q => ?_, fun _ q => ⟨xs, ys, q.1, q.2, by omega⟩, fun i H v H' _ q y => ?_⟩
  · have h1 : i < xs.length := by omega
    have h2 : i < ys.length := by omega
    exact ⟨xs, ys, xs[i], ys[i], q.1, q.2, by simp [h1], by simp [h2]⟩
  · obtain ⟨T, x, z, h1, h2, h3, h4, h5⟩ := y
    exact ⟨T, x, z, h1, h2, h3, h4 xs q.1, h5 ys q.2⟩
/-- what a comprehension of every item has made so far -/
def Cm (H : Hp) (v : Nat → V) (Dl : Addr) (i : Nat) (H' : Hp) : Prop := H Dl = none ∧ Ex H H' ∧ H' Dl = some (.lst ((List.range i).map v))
theorem cm_0 {v : Nat → V} {Dl : Addr} (h : H Dl = none) : Cm H v Dl 0 (upd H Dl (.lst [])) := ⟨h, Ex.new h, upd_same⟩
theorem cm_turn {H' : Hp} {v : Nat → V} {Dl : Addr} {i : Nat} {te : TE} {σ2 : L2.St} (p : Cm H v Dl i H') (hi : i < 50000) (H2 : Hp) (e2 : Ex H' H2) (he : Evl.Ev te σ2 H (v i)) :
    te σ2 H2 fun y H4 => ∃ acc, H4 Dl = some (.lst acc) ∧ acc.length < sizeLine ∧ Cm H v Dl (i + 1) (upd H4 Dl (.lst (acc ++ [y]))) := by
  obtain ⟨p1, p2, p3⟩ := p
  refine he H2 (p2.trans e2) _ fun H4 e4 => ⟨_, e4 Dl _ (e2 Dl _ p3), Evl.sz_lt (by rw [List.length_map, List.length_range]; omega), p1, Evl.Ex.mut ((p2.trans e2).trans e4) p1, ?_⟩
  rw [upd_same, List.range_succ, List.map_append]
  rfl
theorem el_zip {ta : TA} {te : TE} {i1 i2 : Nat} {vs : List Nat} {v : Nat → V} (h : Evl.EvA ta σ H [.ref a, .ref b]) (hx : (SqL K H a xs ∧ SqL K H b ys) ∨ (SqT K H a xs ∧ SqT K H b ys)) (hl : xs.length = ys.length) (hz : xs.length ≤ 40000)
    (hw : ∀ x y, wipe (((wipe σ vs).set i1 (some x)).set i2 (some y)) vs = wipe σ vs)
    (he : ∀ (i : Nat) (x y : V) H1, Ex H H1 → xs[i]? = some x → ys[i]? = some y → Evl.Ev te (((wipe σ vs).set i1 (some x)).set i2 (some y)) H1 (v i)) :
    Evl.EvL (tLc (RZ.iZipA K ta) (gTup K 2 (gCons (gName i1) (gCons (gName i2) gNil))) tYes te vs) σ H ((List.range xs.length).map v) := fun H0 e0 Q q => h H0 e0 _ fun H1 e1 => by
  have turn : ∀ (Dl : Addr) (i : Nat) (x : V) (H2 H3 : Hp), i < xs.length → Cm H1 v Dl i H2 → YPair (fun i => xs[i]?) (fun i => ys[i]?) i H2 x H3 → gTup K 2 (gCons (gName i1) (gCons (gName i2) gNil)) x (wipe σ vs) H3 fun σ2 H2 => wipe σ2 vs = wipe σ vs ∧ tYes σ2 H2 fun b H3 =>
      if b = true then te σ2 H3 fun y H4 => ∃ acc, H4 Dl = some (.lst acc) ∧ acc.length < sizeLine ∧ Cm H1 v Dl (i + 1) (upd H4 Dl (.lst (acc ++ [y]))) else Cm H1 v Dl (i + 1) H3 := by
    intro Dl i x H2 H3 hi p yp
    obtain ⟨T, u, w, rfl, hT, rfl, hu, hw'⟩ := yp
    refine ⟨T, [u, w], rfl, SqT.of upd_same, rfl, u, [w], rfl, w, [], rfl, rfl, hw u w, ?_⟩
    exact yes_lc (A := fun H3 => te ((List.set (wipe σ vs) i1 (some u)).set i2 (some w)) H3 fun y H4 => ∃ acc, H4 Dl = some (.lst acc) ∧ acc.length < sizeLine ∧ Cm H1 v Dl (i + 1) (upd H4 Dl (.lst (acc ++ [y])))) (B := fun H3 => Cm H1 v Dl (i + 1) H3) <| cm_turn p (by omega) _ (Ex.new hT) (he i u w _ (e0.trans e1) hu hw')
  rcases hx with ⟨x1, x2⟩ | ⟨x1, x2⟩
  · refine ⟨a, b, xs, ys, rfl, .inl ⟨Evl.ex_l (e0.trans e1) x1, Evl.ex_l (e0.trans e1) x2, fun Dl hD => ?_⟩⟩
    exact lc_it (walk_zip (n := xs.length) (by omega)) (Cm H1 v Dl) (cm_0 hD) (fun i H2 _ p => ⟨Evl.ex_l ((e0.trans e1).trans p.2.1) x1, Evl.ex_l ((e0.trans e1).trans p.2.1) x2⟩) (fun i x H2 H3 hi p y => turn Dl i x H2 H3 hi p y)
      (fun H2 p => q Dl H2 (Evl.fresh_back e1 p.1) (e1.trans p.2.1) p.2.2)
  · refine ⟨a, b, xs, ys, rfl, .inr ⟨Evl.ex_t (e0.trans e1) x1, Evl.ex_t (e0.trans e1) x2, fun Dl hD => ?_⟩⟩
    exact lc_it (walk_zipT (n := xs.length) (by omega)) (Cm H1 v Dl) (cm_0 hD) (fun i H2 _ p => ⟨Evl.ex_t ((e0.trans e1).trans p.2.1) x1, Evl.ex_t ((e0.trans e1).trans p.2.1) x2⟩) (fun i x H2 H3 hi p y => turn Dl i x H2 H3 hi p y)
      (fun H2 p => q Dl H2 (Evl.fresh_back e1 p.1) (e1.trans p.2.1) p.2.2)
theorem ev_all {te : TE} {bs : List Bool} (h : Evl.EvL te σ H (bs.map V.bl)) : Evl.Ev (tCB (rAll K) (tCons te tNil)) σ H (.bl (bs.all id)) := fun H1 e1 Q q =>
  h H1 e1 _ fun p H2 hp e2 h2 => ⟨p, bs, rfl, SqL.of h2, q H2 e2⟩
theorem ev_any {te : TE} {bs : List Bool} (h : Evl.EvL te σ H (bs.map V.bl)) : Evl.Ev (tCB (rAny K) (tCons te tNil)) σ H (.bl (bs.any id)) := fun H1 e1 Q q =>
  h H1 e1 _ fun p H2 hp e2 h2 => ⟨p, bs, rfl, SqL.of h2, q H2 e2⟩
theorem ev_callD {sp : Sp} {ta : TA} {vs : List V} {z : V} (h : Evl.EvA ta σ H vs) (hs : ∀ H1, Ex H H1 → ∀ Q : VK, (∀ H2, Ex H1 H2 → Q z H2) → sp vs H1 Q E0) : Evl.Ev (tCallD sp ta) σ H z := fun H1 e Q q =>
  h H1 e _ fun H2 e2 => hs H2 (e.trans e2) Q fun H3 e3 => q H3 (e2.trans e3)
end
/-! ### data no deeper than n -/
def fits : Nat → PyData → Prop
  | 0, .list _ => False
  | 0, .tuple _ => False
  | n + 1, .list ds => ds.length ≤ 40000 ∧ ∀ d ∈ ds, fits n d
  | n + 1, .tuple ds => ds.length ≤ 40000 ∧ ∀ d ∈ ds, fits n d
  | _, .dict kvs => kvs = []
  | _, _ => True
theorem fits_up : ∀ {n m : Nat} {d : PyData}, n ≤ m → fits n d → fits m d
  | 0, 0, _, _, h => h
  | 0, m + 1, d, _, h => by
    cases d with
    | list ds => exact h.elim
    | tuple ds => exact h.elim
    | dict _ => exact h
    | _ => trivial
  | n + 1, 0, _, e, _ => by omega
  | n + 1, m + 1, d, e, h => by
    cases d with
    | list ds => exact ⟨h.1, fun z hz => fits_up (by omega) (h.2 z hz)⟩
    | tuple ds => exact ⟨h.1, fun z hz => fits_up (by omega) (h.2 z hz)⟩
    | dict _ => exact h
    | _ => trivial
/-- two readings of the same data: True -/
def spSame (K : PySem.W.Frag) (n : Nat) : Sp := fun vs H Q _ => ∃ (x y : V) (d : PyData), vs = [x, y] ∧ Dp K H x d ∧ Dp K H y d ∧ fits n d ∧ ∀ H', Ex H H' → Q (.bl true) H'
end U
set_option Elab.async false
set_option linter.all false
set_option maxRecDepth 100000
set_option maxHeartbeats 2000000
namespace U
open PySem L2
open Evl (Ex)
/-! ### what evaluates to data -/
section
variable {K : PySem.W.Frag} {L : List Addr} {σ : L2.St} {H H' : Hp} {te tb : TE} {ta tr : TA} {v : V} {d : PyData} {ds : List PyData} {l p : Addr} {o : HO}
def EvD (K : PySem.W.Frag) (L : List Addr) (te : TE) (σ : L2.St) (H : Hp) (d : PyData) : Prop := ∀ H1, Ex H H1 → ∀ Q : VK, (∀ v H2, Ex H1 H2 → Dp K (W L H2) v d → Q v H2) → te σ H1 Q
def EvDs (K : PySem.W.Frag) (L : List Addr) (ta : TA) (σ : L2.St) (H : Hp) (ds : List PyData) : Prop := ∀ H1, Ex H H1 → ∀ Q : List V → Hp → Prop, (∀ vs H2, Ex H1 H2 → DpAll K (W L H2) vs ds → Q vs H2) → ta σ H1 Q
theorem EvD.mono (e : Ex H H') (h : EvD K L te σ H d) : EvD K L te σ H' d := fun H1 a Q q => h H1 (e.trans a) Q q
theorem EvDs.mono (e : Ex H H') (h : EvDs K L ta σ H ds) : EvDs K L ta σ H' ds := fun H1 a Q q => h H1 (e.trans a) Q q
theorem evd_of (h : Evl.Ev te σ H v) (hd : Dp K (W L H) v d) : EvD K L te σ H d := fun H1 e Q q => h H1 e _ fun H2 e2 => q v H2 e2 (hd.up (w_ex (e.trans e2)))
theorem evd_var {i : Nat} (h : σ[i]? = some (some v)) (hd : Dp K (W L H) v d) : EvD K L (tVar i) σ H d := evd_of (Evl.ev_var h) hd
theorem evd_evI {i : Int} (h : Evl.Ev te σ H (.int i)) : EvD K L te σ H (.int i) := evd_of h (.int i)
theorem evd_evB {b : Bool} (h : Evl.Ev te σ H (.bl b)) : EvD K L te σ H (.bool b) := evd_of h (.bl b)
theorem evds_nil : EvDs K L tNil σ H [] := fun H1 _ _ q => q [] H1 (Ex.refl H1) .nil
theorem evds_cons (h : EvD K L te σ H d) (hr : EvDs K L tr σ H ds) : EvDs K L (tCons te tr) σ H (d :: ds) := fun H1 e Q q =>
  h H1 e _ fun v H2 e2 hv => hr H2 (e.trans e2) _ fun vs H3 e3 hvs => q (v :: vs) H3 (e2.trans e3) (.cons (hv.up (w_ex e3)) hvs)
theorem evd_tup (hL : Hid L H) (h : EvDs K L ta σ H ds) (hz : ds.length ≤ 100000) : EvD K L (tTup ta) σ H (.tuple ds) := fun H1 e Q q =>
  h H1 e _ fun vs H2 e2 hv => ⟨Evl.sz_of (by rw [dpa_len hv]; exact hz), fun p hp => q (.ref p) _ (e2.trans (Ex.new hp)) (.tup (SqT.of (w_new (hid_ex (e.trans e2) hL) hp)) (hv.up (w_ex (Ex.new hp))))⟩
theorem w_fresh (hp : H p = none) : Ex (W L H) (W (p :: L) (upd H p o)) := fun a u h => by
  obtain ⟨h1, n⟩ := w_in h
  have ne : a ≠ p := ne_of_none h1 hp
  exact w_of (fun m => (List.mem_cons.mp m).elim ne n) (by rw [upd_ne ne]; exact h1)
theorem w_cons : Ex (W (p :: L) H) (W L H) := w_sub2 fun a m => List.mem_cons_of_mem _ m
/-! ### a list that grows -/
/-- at l a list of the data ds, which do not hang on l -/
def Gr (K : PySem.W.Frag) (L : List Addr) (H : Hp) (l : Addr) (ds : List PyData) : Prop := l ∉ L ∧ ∃ xs, H l = some (.lst xs) ∧ DpAll K (W (l :: L) H) xs ds
theorem Gr.dp (h : Gr K L H l ds) : Dp K (W L H) (.ref l) (.list ds) := by
  obtain ⟨n, xs, h1, h2⟩ := h
  exact .lst (SqL.of (w_of n h1)) (h2.up w_cons)
theorem Gr.up (h : Gr K L H l ds) (e : Ex H H') : Gr K L H' l ds := by
  obtain ⟨n, xs, h1, h2⟩ := h
  exact ⟨n, xs, e _ _ h1, h2.up (w_ex e)⟩
theorem Gr.ne (h : Gr K L H l ds) : H l ≠ none := by
  obtain ⟨n, xs, h1, h2⟩ := h
  rw [h1]
  simp
theorem gr_new {xs : List V} (hL : Hid L H) (hp : H p = none) (h : DpAll K (W L H) xs ds) : Gr K L (upd H p (.lst xs)) p ds := ⟨hid_not hL hp, xs, upd_same, h.up (w_fresh hp)⟩
/-- a heap that differs at l alone, where the list has one more -/
theorem gr_app {xs : List V} (n : l ∉ L) (h1 : H l = some (.lst xs)) (h2 : DpAll K (W (l :: L) H) xs ds) (hv : Dp K (W (l :: L) H) v d) : Gr K L (upd H l (.lst (xs ++ [v]))) l (ds ++ [d]) := by
  refine ⟨n, xs ++ [v], upd_same, ?_⟩
  rw [w_upd_in (List.mem_cons_self ..)]
  exact dpa_app h2 (.cons hv .nil)
/-! ### statements -/
variable {D : Ends} {tz tu : TS} {i : Nat}
theorem d_ret (h : EvD K L te σ H d) (k : ∀ v H1, Ex H H1 → Dp K (W L H1) v d → D.rt v H1) : tRet te D σ H := h H (Ex.refl H) _ fun v H1 e hv => k v H1 e hv
end
end U
set_option Elab.async false
set_option linter.all false
set_option maxRecDepth 100000
set_option maxHeartbeats 4000000
namespace UE
open PySem PySem.Spec PyProof.Rows L2
open AutoSeq1 (wpAny_loadPart')
/-! ### enumerate of a tuple -/
theorem meets_enumT (t : Addr) (its : Array Value) (n : Nat) (dd : Option Addr) (sl : Array (Option Value)) :
    Meets (Builtin.«enumerate.__new__» ⟨[.type "enumerate", .ref t], []⟩) (fun _ R s => s.heap.get? t = some { cls := .type "tuple", dict := dd, data := .seq its n, slots := sl } ∧
      R (.ok (.ret (.ref (s.heap.push { cls := .type "tuple_iterator", data := .fields #[.ref t, .int 0 0] }).objs.size)))
        { s with heap := (s.heap.push { cls := .type "tuple_iterator", data := .fields #[.ref t, .int 0 0] }).push { cls := .type "enumerate", data := .fields #[.none, .bool false, .ref s.heap.objs.size, rawInt 0, .none, .none] } }) :=
  .of_wp fun prog w A R s hyp => by
    obtain ⟨hp, g, d, tk, os⟩ := s
    obtain ⟨ht, hyp⟩ := hyp
    have sub := sub_enumerate
    have hT : Heap.IsTuple (Shared.heap ⟨hp, g, d, tk, os⟩) t its := ⟨_, ht, rfl, n, rfl⟩
    wp_walk using wpAny_loadPart' ht
    refine wpAny_stack_any fun st => wpAny_pure ?_
    split
    · rename_i c _ _ _ _ _
      cases (c == Value.type "enumerate") <;>
      · wp_walk using wpAny_loadPart' ht, wpAny_pyIter_tuple hT
        exact ⟨_, rfl, hyp⟩
    · wp_walk using wpAny_loadPart' ht, wpAny_pyIter_tuple hT
      exact ⟨_, rfl, hyp⟩
section
variable {prog : Program} {w : World} {A : Around} {E : Value → Shared → Prop} {s : Shared}
theorem call_enumT {t : Addr} {its : Array Value} {Q : Value → Shared → Prop} (hT : s.heap.IsTuple t its)
    (hyp : ∀ h', IsEnum h' (s.heap.objs.size + 1) s.heap.objs.size 0 .none → h'.IsTupleIter s.heap.objs.size t 0 → h'.objs.size = s.heap.objs.size + 2 → (∀ b o, s.heap.get? b = some o → h'.get? b = some o) → Q (.ref (s.heap.objs.size + 1)) { s with heap := h' }) :
    wpAny (model prog w) A (call (.type "enumerate") [.ref t]) Q E s := by
  obtain ⟨⟨c, dd, dt, sl⟩, ht, hc, n, hd⟩ := hT
  obtain rfl : c = .type "tuple" := hc
  obtain rfl : dt = .seq its n := hd
  refine callType_new F.called_enumerate (by decide) (F.typeCall_enumerate_1 _) (F.newCall_enumerate_1 _) (fun ob => F.args_object_init_2 ob _) F.entry_enumerate_new (meets_enumT t its n dd sl) ⟨ht, ?_⟩
  have sz : (s.heap.push { cls := .type "tuple_iterator", data := .fields #[.ref t, .int 0 0] }).objs.size = s.heap.objs.size + 1 := Heap.size_push ..
  show _ ∧ _
  rw [sz]
  have he : IsEnum ((s.heap.push { cls := .type "tuple_iterator", data := .fields #[.ref t, .int 0 0] }).push { cls := .type "enumerate", data := .fields #[.none, .bool false, .ref s.heap.objs.size, rawInt 0, .none, .none] }) (s.heap.objs.size + 1) s.heap.objs.size 0 .none := by
    have q := Heap.get?_push_size (s.heap.push { cls := .type "tuple_iterator", data := .fields #[.ref t, .int 0 0] }) (o := { cls := .type "enumerate", data := .fields #[.none, .bool false, .ref s.heap.objs.size, rawInt 0, .none, .none] }) rfl
    rw [sz] at q
    exact q
  exact ⟨⟨_, he, rfl⟩, hyp _ he ⟨_, Heap.get?_push_of_some _ (Heap.get?_push_size _ rfl), rfl, rfl⟩ (by rw [Heap.size_push, sz]) fun b o z => Heap.get?_push_of_some _ (Heap.get?_push_of_some _ z)⟩
end
/-- the tuple at a, each item in a new pair -/
def IteT (K : PySem.W.Frag) (a : Addr) : It :=
  ⟨fun i H => ∃ (xs : List V) (x : V), SqT K H a xs ∧ xs[i]? = some x, fun i H v H' => ∃ T x, v = .ref T ∧ H T = none ∧ H' = upd H T (.tup [.int (i : Nat), x]) ∧ ∀ xs, SqT K H a xs → xs[i]? = some x, fun i H => ∃ xs : List V, SqT K H a xs ∧ xs.length ≤ i⟩
theorem turn_enumT {P : Program} {w : World} {K : PySem.W.Frag} {elts : List Expr} {kk : Nat} {tpos : Pos} (a e it : Addr) :
    Turn P w K (.Tuple elts kk tpos) (IteT K a) [e, it] e (fun i h => (∃ old, IsEnum h e it ((i : Nat) : Int) old) ∧ h.IsTupleIter it a i ∧ e ≠ it ∧ a ≠ it ∧ a ≠ e) where
  mem := by simp
  obj := fun i h st b hb => by
    obtain ⟨⟨old, he⟩, ⟨o, ho, hc, hd⟩, _⟩ := st
    have e' : b = e ∨ b = it := by simpa using hb
    rcases e' with z | z
    · rw [z]
      exact ⟨_, he, fun v q => nomatch q⟩
    · rw [z]
      exact ⟨o, ho, fun v q => by rw [hd] at q; cases q⟩
  keep := fun i h h' st k => by
    obtain ⟨⟨old, he⟩, hi, ne⟩ := st
    exact ⟨⟨old, k e (by simp) _ he⟩, hi.at fun o q => k it (by simp) o q, ne⟩
  item := by
    intro X hP hw hK hc i pins s σ H E I hf st hg
    subst hP hw hK
    obtain ⟨⟨old, he⟩, hit, n1, n2, n3⟩ := st
    obtain ⟨xs, x, hq, hx⟩ := hg
    obtain ⟨its, rv, p, hz⟩ := I.tuple hq
    obtain ⟨u, hu, ru⟩ := rv.get hx
    have le : e < s.heap.objs.size := Heap.lt_size he
    have li : it < s.heap.objs.size := by
      obtain ⟨_, q, _⟩ := hit
      exact Heap.lt_size q
    have hlt : i < its.toArray.size := by
      have z := (List.getElem?_eq_some_iff.mp hu).1
      simpa using z
    have D : Draws X.prog X.w X.A.in1 it [it, a] its.toArray.size (fun i v => its.toArray[i]? = some v) (fun i h => h.IsTupleIter it a i ∧ h.IsTuple a its.toArray) := Draws.tuple (show X.A.in1.handled = none from I.ok.hd hc) it a n2 its.toArray
    refine wpAny_pyNext_enum_itemD D he ⟨hit, p⟩ hlt n1 (by simp [n1, Ne.symm n3]) fun y h' tk hy ho hst hT sz kp => ?_
    obtain rfl : y = u := by
      have z : its.toArray[i]? = some u := by simpa using hu
      rw [hy] at z
      exact Option.some.inj z
    refine ⟨_, rfl, wpAny_letOwnedTupleGo_enum (s := { s with heap := h', toks := tk + 1 }) ho fun h'' he' sb => ?_⟩
    have hT2 : h''.get? s.heap.objs.size = some { cls := .type "tuple", data := .seq #[.int i tk, y] } := (sb.2 _ (Nat.ne_of_gt le)).trans hT
    have new : ObjOk X.prog X.w (upd H s.heap.objs.size (.tup [.int (i : Nat), x])) h'' s.heap.objs.size (.tup [.int (i : Nat), x]) := ⟨by show 2 ≤ sizeLine; decide, [.int i tk, y], .cons ⟨_, rfl⟩ (.cons ru .nil), ⟨_, hT2, rfl, _, rfl⟩⟩
    have I1 : Inv X pins σ (upd H s.heap.objs.size (.tup [.int (i : Nat), x])) { s with heap := h'', toks := tk + 1 } :=
      I.turnedNew (ch := [e, it]) (fun b ob hb q => (sb.2 b (fun z => hb (by simp [z]))).trans (kp b ob (fun z => hb (by simp [z])) (fun z => hb (by simp [z])) q)) hf (Nat.le_refl _) new
    refine ⟨.ref s.heap.objs.size, _, I1, rfl, ⟨_, x, rfl, I.hok.fresh (Nat.le_refl _), rfl, fun ys hy => by rw [I.tuple_inj hy hq]; exact hx⟩, ⟨⟨y, ?_⟩, hst.1.at fun o q => (sb.2 it (Ne.symm n1)).trans q, n1, n2, n3⟩, fun b hb => ?_⟩
    · have e1 : ((i + 1 : Nat) : Int) = (i : Int) + 1 := by omega
      rw [e1]
      exact he'
    · have hb' : b < s.heap.objs.size := by
        have e' : b = e ∨ b = it := by simpa using hb
        rcases e' with z | z
        · rw [z]
          exact le
        · rw [z]
          exact li
      rw [upd_ne (Nat.ne_of_lt hb')]
      exact (hf b hb).1
  done := by
    intro X hP hw hK hc i pins s σ H E I hf st hg
    subst hP hw hK
    obtain ⟨⟨old, he⟩, hit, n1, n2, n3⟩ := st
    obtain ⟨xs, hq, hx⟩ := hg
    obtain ⟨its, rv, p, hz⟩ := I.tuple hq
    obtain ⟨f0, f1, f2, f3, f4, f5⟩ := hf it (by simp)
    have hl := rv.length
    have hA : X.A.in1.handled = none := I.ok.hd hc
    have D : Draws X.prog X.w X.A.in1 it [it, a] i (fun _ _ => True) (fun k h => (h.IsTupleIter it a k ∧ h.IsTuple a its.toArray) ∧ k = i) :=
      { live := fun _ _ st => let ⟨o, ho, _⟩ := st.1.1; ⟨o, ho⟩
        frame := fun _ _ _ st hk => ⟨⟨st.1.1.at fun o e => hk it (by simp) o e, st.1.2.at fun o e => hk a (by simp) o e⟩, st.2⟩
        item := fun k s Q E hi st hQ => absurd st.2 (Nat.ne_of_lt hi)
        done := fun s Q E st hE => wpAny_nextOf_tuple_end hA st.1.1 st.1.2 (by simp; omega) hE }
    exact wpAny_pyNext_enum_endD D he ⟨⟨hit, p⟩, rfl⟩ fun h' eb => ⟨rfl, I.turned (t' := s.toks) (fun b o hb q => eb b o hb q) f0 f1 f3 f4 f5⟩
  self := fun A i s Q E st h => by
    obtain ⟨⟨_, he⟩, _⟩ := st
    exact wpAny_pyIter_enum he h
end UE
set_option Elab.async false
set_option linter.all false
set_option maxRecDepth 100000
set_option maxHeartbeats 4000000
set_option Elab.async false
set_option linter.all false
set_option maxRecDepth 100000
set_option maxHeartbeats 4000000
namespace U
open PySem L2 PyProof.Rows
open Evl (Ex)
/-! ### errors of the text as values -/
/-- at a an error of the class at C whose attribute f is v -/
def ErrAt (H : Hp) (a C : Addr) (f : Str) (v : V) : Prop := ∃ d : Addr, H a = some (exo a C (some d)) ∧ H d = some (exd d [(f, v)])
theorem ErrAt.up {H H' : Hp} {a C : Addr} {f : Str} {v : V} (h : ErrAt H a C f v) (e : Ex H H') : ErrAt H' a C f v := by
  obtain ⟨d, h1, h2⟩ := h
  exact ⟨d, e _ _ h1, e _ _ h2⟩
/-- at a an error of the class at C -/
def ErrOf (H : Hp) (a C : Addr) : Prop := (∃ (d : Addr) (fs : List (Str × V)), H a = some (exo a C (some d)) ∧ H d = some (exd d fs)) ∨ H a = some (ExO (.ref C) a)
theorem ErrOf.up {H H' : Hp} {a C : Addr} (h : ErrOf H a C) (e : Ex H H') : ErrOf H' a C := by
  rcases h with ⟨d, fs, h1, h2⟩ | h1
  · exact .inl ⟨d, fs, e _ _ h1, e _ _ h2⟩
  · exact .inr (e _ _ h1)
theorem ErrAt.of {H : Hp} {a C : Addr} {f : Str} {v : V} (h : ErrAt H a C f v) : ErrOf H a C := by
  obtain ⟨d, h1, h2⟩ := h
  exact .inl ⟨d, _, h1, h2⟩
end U
set_option Elab.async false
set_option linter.all false
set_option maxRecDepth 100000
set_option maxHeartbeats 4000000
namespace U
open PySem PySem.Spec PyProof.Rows L2
open Evl (Ex)
section
variable {X : Cx} {tg : Expr}
/-- a list or a tuple, item by item -/
def iSeq (K : PySem.W.Frag) (tl : TE) : TI := fun σ H R => tl σ H fun x H1 => ∃ a, x = .ref a ∧ (((∃ xs, SqL K H1 a xs) ∧ R (Itl K a) H1) ∨ ((∃ xs, SqT K H1 a xs) ∧ R (Itt K a) H1))
theorem pi_seq {l : Expr} {tl : TE} (hl : PE X l tl) : PI X tg l (iSeq X.K tl) := by
  refine ⟨fun pins s σ H R I h => ?_⟩
  refine thn (hl.run pins s σ H _ I h) fun v s1 ⟨x, H1, I1, r1, q1⟩ => ?_
  obtain ⟨a, e, q⟩ := q1
  subst e
  cases r1
  have fresh : ∀ b ∈ [s1.heap.objs.size], b = s1.heap.objs.size := fun b hb => by simpa using hb
  rcases q with ⟨⟨xs, hq⟩, q⟩ | ⟨⟨xs, hq⟩, q⟩
  · obtain ⟨its, rv, p, hz⟩ := I1.list hq
    refine wpAny_pyIter_list p.isList ?_
    refine ⟨s1.heap.objs.size, [s1.heap.objs.size], _, _, H1, rfl, I1.kept (t' := s1.toks) fun b o e => Heap.get?_push_of_some _ e, turn_list a _, ⟨_, Heap.get?_push_size _ rfl, rfl, rfl⟩, fun b hb => ?_, q⟩
    rw [fresh b hb]
    exact I1.fpOk (Nat.le_refl _) (I1.hok.fresh (Nat.le_refl _))
  · obtain ⟨its, rv, p, hz⟩ := I1.tuple hq
    refine wpAny_pyIter_tuple (show s1.heap.IsTuple a its.toArray from p) ?_
    refine ⟨s1.heap.objs.size, [s1.heap.objs.size], _, _, H1, rfl, I1.kept (t' := s1.toks) fun b o e => Heap.get?_push_of_some _ e, turn_tuple a _, ⟨_, Heap.get?_push_size _ rfl, rfl, rfl⟩, fun b hb => ?_, q⟩
    rw [fresh b hb]
    exact I1.fpOk (Nat.le_refl _) (I1.hok.fresh (Nat.le_refl _))
/-- enumerate of a list or a tuple -/
def iEnumA (K : PySem.W.Frag) (ta : TA) : TI := fun σ H R => ta σ H fun vs H1 => ∃ a xs, vs = [.ref a] ∧ ((SqL K H1 a xs ∧ R (Ite K a) H1) ∨ (SqT K H1 a xs ∧ R (UE.IteT K a) H1))
theorem pi_enumA {e : Expr} {ta : TA} {p pos tpos : Pos} {elts : List Expr} {kk : Nat} (hg : Gl X "enumerate") (hm : X.mg "enumerate" = none) (ha : PA X [e] ta) (hs : starEach [e] X.env = [(false, eval e X.env)] := by rfl) :
    PI X (.Tuple elts kk tpos) (.Call (.Name "enumerate" p) [e] [] pos) (iEnumA X.K ta) := by
  refine ⟨fun pins s σ H R I h => ?_⟩
  refine Call_ (ld_blt I hg hm boot_enumerate (PyProof.Rows.callWith_type1 (thn (ha.run pos pins s σ H _ I h) fun us s1 ⟨vs, H1, I1, r1, q1⟩ => ?_) hs rfl))
  obtain ⟨a, xs, ex, q⟩ := q1
  subst ex
  have hb2 : ∀ b ∈ [s1.heap.objs.size + 1, s1.heap.objs.size], s1.heap.objs.size ≤ b := fun b hb => by
    have e' : b = s1.heap.objs.size + 1 ∨ b = s1.heap.objs.size := by simpa using hb
    omega
  cases r1 with
  | cons r rr =>
    cases rr
    cases r
    rcases q with ⟨hq, q⟩ | ⟨hq, q⟩
    · obtain ⟨its, rv, p', hz⟩ := I1.list hq
      refine call_enumerate_list p'.isList fun h' he hit hsz hk => wpAny_pyIter_enum he ?_
      have I2 : Inv X pins σ H1 { s1 with heap := h' } := I1.kept (t' := s1.toks) hk
      exact ⟨s1.heap.objs.size + 1, [s1.heap.objs.size + 1, s1.heap.objs.size], _, _, H1, rfl, I2, turn_enum a (s1.heap.objs.size + 1) s1.heap.objs.size, ⟨⟨.none, he⟩, hit, Nat.succ_ne_self _⟩, fun b hb => I1.fpOk (hb2 b hb) (I1.hok.fresh (hb2 b hb)), q⟩
    · obtain ⟨its, rv, p', hz⟩ := I1.tuple hq
      obtain ⟨oT, hoT, _⟩ := id p'
      have la : a < s1.heap.objs.size := Heap.lt_size hoT
      refine UE.call_enumT (its := its.toArray) p' fun h' he hit hsz hk => wpAny_pyIter_enum he ?_
      have I2 : Inv X pins σ H1 { s1 with heap := h' } := I1.kept (t' := s1.toks) hk
      exact ⟨s1.heap.objs.size + 1, [s1.heap.objs.size + 1, s1.heap.objs.size], _, _, H1, rfl, I2, UE.turn_enumT a (s1.heap.objs.size + 1) s1.heap.objs.size, ⟨⟨.none, he⟩, hit, Nat.succ_ne_self _, Nat.ne_of_lt la, Nat.ne_of_lt (Nat.lt_succ_of_lt la)⟩, fun b hb => I1.fpOk (hb2 b hb) (I1.hok.fresh (hb2 b hb)), q⟩
end
section
variable {K : PySem.W.Frag} {a : Addr} {xs : List V}
theorem walk_enumT : Walk (UE.IteT K a) xs.length (fun H => SqT K H a xs) (YPair (fun i => some (.int (i : Nat))) (fun i => xs[i]?)) := by
  refine ⟨fun i _ hi q => ⟨xs, xs[i], q, by simp [hi]⟩, fun _ q => ⟨xs, q, Nat.le_refl _⟩, fun i H v H' _ q y => ?_⟩
  obtain ⟨T, x, h1, h2, h3, h4⟩ := y
  exact ⟨T, .int (i : Nat), x, h1, h2, h3, rfl, h4 xs q⟩
end
/-! ### a comprehension whose items are data -/
section
variable {K : PySem.W.Frag} {L : List Addr} {σ σ2 : L2.St} {H H' H1 H2 : Hp} {te tl : TE} {ta : TA} {tt : TT} {v : V} {d : PyData} {ds : List PyData} {l a Dl : Addr} {xs : List V} {f : Nat → List PyData} {i : Nat}
theorem w_past (hn : H Dl = none) (e : Ex H H') : Ex (W L H) (W (Dl :: L) H') := fun b o h => by
  obtain ⟨h1, n⟩ := w_in h
  have ne : b ≠ Dl := ne_of_none h1 hn
  exact w_of (fun m => (List.mem_cons.mp m).elim ne n) (e b o h1)
/-- evaluates to a new list of data -/
def EvG (K : PySem.W.Frag) (L : List Addr) (te : TE) (σ : L2.St) (H : Hp) (ds : List PyData) : Prop := ∀ H1, Ex H H1 → ∀ Q : VK, (∀ p H2, H1 p = none → Ex H1 H2 → Gr K L H2 p ds → Q (.ref p) H2) → te σ H1 Q
theorem EvG.mono (e : Ex H H') (h : EvG K L te σ H ds) : EvG K L te σ H' ds := fun H1 a Q q => h H1 (e.trans a) Q q
def Cmd (K : PySem.W.Frag) (L : List Addr) (H : Hp) (f : Nat → List PyData) (Dl : Addr) (i : Nat) (H' : Hp) : Prop := H Dl = none ∧ Ex H H' ∧ Gr K L H' Dl (f i)
theorem cmd_0 (hL : Hid L H) (hn : H Dl = none) (f0 : f 0 = []) : Cmd K L H f Dl 0 (upd H Dl (.lst [])) := ⟨hn, Ex.new hn, by
  rw [f0]
  exact gr_new hL hn .nil⟩
theorem cmd_yes (p : Cmd K L H f Dl i H') (hz : (f i).length < 100000) (e2 : Ex H' H2) (he : EvD K (Dl :: L) te σ2 H2 d) (hf : f (i + 1) = f i ++ [d]) :
    te σ2 H2 fun y H4 => ∃ acc, H4 Dl = some (.lst acc) ∧ acc.length < sizeLine ∧ Cmd K L H f Dl (i + 1) (upd H4 Dl (.lst (acc ++ [y]))) := by
  obtain ⟨p1, p2, n, acc, p3, p4⟩ := p
  refine he H2 (Ex.refl H2) _ fun y H4 e4 hy => ⟨acc, e4 Dl _ (e2 Dl _ p3), Evl.sz_lt (by rw [dpa_len p4]; exact hz), p1, Evl.Ex.mut ((p2.trans e2).trans e4) p1, ?_⟩
  rw [hf]
  exact gr_app n (e4 Dl _ (e2 Dl _ p3)) (p4.up (w_ex (e2.trans e4))) hy
/-- [.. for x in a list or a tuple of data] -/
theorem eg_seq {j : Nat} {vs : List Nat} {g : PyData → PyData} (h : Evl.Ev tl σ H (.ref a)) (hx : SqL K H a xs ∨ SqT K H a xs) (hd : DpAll K (W L H) xs ds) (hL : Hid L H) (hz : ds.length ≤ 50000) (hw : ∀ x, wipe ((wipe σ vs).set j (some x)) vs = wipe σ vs)
    (he : ∀ L' (x : V) d H1, d ∈ ds → Hid L' H1 → Ex H H1 → Dp K (W L' H1) x d → EvD K L' te ((wipe σ vs).set j (some x)) H1 (g d)) : EvG K L (tLc (iSeq K tl) (gName j) tYes te vs) σ H (ds.map g) := fun H0 e0 Q q => h H0 e0 _ fun H1 e1 => by
  have hlen := dpa_len hd
  have turn : ∀ (Dl : Addr) (i : Nat) (x : V) (H2 H3 : Hp), i < xs.length → Cmd K L H1 (fun i => (ds.take i).map g) Dl i H2 → YAt xs i H2 x H3 → gName j x (wipe σ vs) H3 fun σ2 H2 => wipe σ2 vs = wipe σ vs ∧ tYes σ2 H2 fun b H3 =>
      if b = true then te σ2 H3 fun y H4 => ∃ acc, H4 Dl = some (.lst acc) ∧ acc.length < sizeLine ∧ Cmd K L H1 (fun i => (ds.take i).map g) Dl (i + 1) (upd H4 Dl (.lst (acc ++ [y]))) else Cmd K L H1 (fun i => (ds.take i).map g) Dl (i + 1) H3 := by
    intro Dl i x H2 H3 hi p yp
    obtain ⟨rfl, hu⟩ := yp
    obtain ⟨d, hd1, hd2⟩ := dpa_get hd hu
    obtain ⟨p1, p2, p3⟩ := id p
    refine ⟨hw x, ?_⟩
    refine yes_lc (A := fun H3 => te ((wipe σ vs).set j (some x)) H3 fun y H4 => ∃ acc, H4 Dl = some (.lst acc) ∧ acc.length < sizeLine ∧ Cmd K L H1 (fun i => (ds.take i).map g) Dl (i + 1) (upd H4 Dl (.lst (acc ++ [y])))) (B := fun H3 => Cmd K L H1 (fun i => (ds.take i).map g) Dl (i + 1) H3) ?_
    refine cmd_yes p (by simp; omega) (Ex.refl _) (he _ x d _ (List.mem_of_getElem? hd1) ?_ ((e0.trans e1).trans p2) (hd2.up (w_past (Evl.fresh_back (e0.trans e1) p1) ((e0.trans e1).trans p2)))) ?_
    · intro b hb
      rcases List.mem_cons.mp hb with z | z
      · rw [z]
        exact p3.ne
      · exact hid_ex ((e0.trans e1).trans p2) hL b z
    · have hi' : i < ds.length := by omega
      rw [List.take_add_one, hd1]
      simp
  have fin : ∀ Dl H2, Cmd K L H1 (fun i => (ds.take i).map g) Dl xs.length H2 → Q (.ref Dl) H2 := fun Dl H2 p => by
    obtain ⟨p1, p2, p3⟩ := p
    refine q Dl H2 (Evl.fresh_back e1 p1) (e1.trans p2) ?_
    have e : (ds.take xs.length).map g = ds.map g := by rw [hlen, List.take_length]
    rw [← e]
    exact p3
  have hL1 : Hid L H1 := hid_ex (e0.trans e1) hL
  refine ⟨a, rfl, ?_⟩
  rcases hx with x1 | x1
  · refine .inl ⟨⟨xs, Evl.ex_l (e0.trans e1) x1⟩, fun Dl hD => ?_⟩
    exact lc_it (walk_list (xs := xs)) (Cmd K L H1 (fun i => (ds.take i).map g) Dl) (cmd_0 hL1 hD rfl) (fun i H2 _ p => Evl.ex_l ((e0.trans e1).trans p.2.1) x1) (fun i x H2 H3 hi p y => turn Dl i x H2 H3 hi p y) (fun H2 p => fin Dl H2 p)
  · refine .inr ⟨⟨xs, Evl.ex_t (e0.trans e1) x1⟩, fun Dl hD => ?_⟩
    exact lc_it (walk_tup (xs := xs)) (Cmd K L H1 (fun i => (ds.take i).map g) Dl) (cmd_0 hL1 hD rfl) (fun i H2 _ p => Evl.ex_t ((e0.trans e1).trans p.2.1) x1) (fun i x H2 H3 hi p y => turn Dl i x H2 H3 hi p y) (fun H2 p => fin Dl H2 p)
/-- tuple(a new list of data) -/
theorem evd_tupG (h : EvG K L te σ H ds) (hL : Hid L H) : EvD K L (tCB (fun xs H Q => ∃ p ys, xs = [.ref p] ∧ ((SqL K H p ys ∧ ∀ l, H l = none → Q (.ref l) (upd H l (.tup ys))) ∨ (SqT K H p ys ∧ Q (.ref p) H))) (tCons te tNil)) σ H (.tuple ds) := fun H1 e Q q =>
  h H1 e _ fun p H2 hp e2 g => by
    obtain ⟨n, ys, g1, g2⟩ := g
    refine ⟨p, ys, rfl, .inl ⟨SqL.of g1, fun r hr => ?_⟩⟩
    exact q (.ref r) _ (e2.trans (Ex.new hr)) (.tup (SqT.of (w_new (hid_ex (e.trans e2) hL) hr)) ((g2.up w_cons).up (w_ex (Ex.new hr))))
/-- tuple(x) of data that are a list or a tuple -/
theorem evd_tupD {x : V} (h : Evl.Ev te σ H x) (hd : Dp K (W L H) x (.list ds) ∨ Dp K (W L H) x (.tuple ds)) (hL : Hid L H) : EvD K L (tCB (fun xs H Q => ∃ p ys, xs = [.ref p] ∧ ((SqL K H p ys ∧ ∀ l, H l = none → Q (.ref l) (upd H l (.tup ys))) ∨ (SqT K H p ys ∧ Q (.ref p) H))) (tCons te tNil)) σ H (.tuple ds) := fun H1 e Q q =>
  h H1 e _ fun H2 e2 => by
    rcases hd with hd | hd
    · cases hd with
      | @lst p ys _ hs ha =>
        refine ⟨p, ys, rfl, .inl ⟨Evl.ex_l (w_sub.trans (e.trans e2)) hs, fun r hr => ?_⟩⟩
        exact q (.ref r) _ (e2.trans (Ex.new hr)) (.tup (SqT.of (w_new (hid_ex (e.trans e2) hL) hr)) (ha.up (w_ex ((e.trans e2).trans (Ex.new hr)))))
    · have hd' := hd
      cases hd with
      | @tup p ys _ hs ha =>
        exact ⟨p, ys, rfl, .inr ⟨Evl.ex_t (w_sub.trans (e.trans e2)) hs, q (.ref p) H2 e2 (hd'.up (w_ex (e.trans e2)))⟩⟩
/-- list(x) of data that are a list or a tuple -/
theorem eg_list {x : V} (h : Evl.Ev te σ H x) (hd : Dp K (W L H) x (.list ds) ∨ Dp K (W L H) x (.tuple ds)) (hL : Hid L H) : EvG K L (tCB (fun xs H Q => ∃ p ys, xs = [.ref p] ∧ (SqL K H p ys ∨ SqT K H p ys) ∧ ∀ l, H l = none → Q (.ref l) (upd H l (.lst ys))) (tCons te tNil)) σ H ds := fun H1 e Q q =>
  h H1 e _ fun H2 e2 => by
    rcases hd with hd | hd
    · cases hd with
      | @lst p ys _ hs ha =>
        refine ⟨p, ys, rfl, .inl (Evl.ex_l (w_sub.trans (e.trans e2)) hs), fun r hr => ?_⟩
        exact q r _ (Evl.fresh_back e2 hr) (e2.trans (Ex.new hr)) (gr_new (hid_ex (e.trans e2) hL) hr (ha.up (w_ex (e.trans e2))))
    · cases hd with
      | @tup p ys _ hs ha =>
        refine ⟨p, ys, rfl, .inr (Evl.ex_t (w_sub.trans (e.trans e2)) hs), fun r hr => ?_⟩
        exact q r _ (Evl.fresh_back e2 hr) (e2.trans (Ex.new hr)) (gr_new (hid_ex (e.trans e2) hL) hr (ha.up (w_ex (e.trans e2))))
end
end U
set_option Elab.async false
set_option linter.all false
set_option maxRecDepth 100000
set_option maxHeartbeats 2000000
/-! data with empty dicts among them -/
namespace U
open PySem L2
open Evl (Ex)
section
variable {K : PySem.W.Frag} {H H' : Hp}
mutual
inductive Dq (K : PySem.W.Frag) (H : Hp) : V → PyData → Prop
  | non : Dq K H .non .none
  | bl (b : Bool) : Dq K H (.bl b) (.bool b)
  | int (i : Int) : Dq K H (.int i) (.int i)
  | str (x : Str) : Dq K H (.str x) (.str x)
  | lst {a : Addr} {xs : List V} {ds : List PyData} : SqL K H a xs → DqAll K H xs ds → Dq K H (.ref a) (.list ds)
  | tup {a : Addr} {xs : List V} {ds : List PyData} : SqT K H a xs → DqAll K H xs ds → Dq K H (.ref a) (.tuple ds)
  | dct {a : Addr} : H a = some (.dK []) → Dq K H (.ref a) (.dict [])
inductive DqAll (K : PySem.W.Frag) (H : Hp) : List V → List PyData → Prop
  | nil : DqAll K H [] []
  | cons {v : V} {vs : List V} {d : PyData} {ds : List PyData} : Dq K H v d → DqAll K H vs ds → DqAll K H (v :: vs) (d :: ds)
end
mutual
theorem dq_of : ∀ (d : PyData) (v : V), Dp K H v d → Dq K H v d
  | .none, _, h => by cases h; exact .non
  | .bool _, _, h => by cases h; exact .bl _
  | .int _, _, h => by cases h; exact .int _
  | .str _, _, h => by cases h; exact .str _
  | .list ds, _, h => by
    cases h with
    | lst hs ha => exact .lst hs (dqa_of ds _ ha)
  | .tuple ds, _, h => by
    cases h with
    | tup hs ha => exact .tup hs (dqa_of ds _ ha)
  | .dict _, _, h => by cases h
theorem dqa_of : ∀ (ds : List PyData) (vs : List V), DpAll K H vs ds → DqAll K H vs ds
  | [], _, h => by cases h; exact .nil
  | d :: ds, _, h => by
    cases h with
    | cons h1 h2 => exact .cons (dq_of d _ h1) (dqa_of ds _ h2)
end
theorem _root_.L2.Dp.q {v : V} {d : PyData} (h : Dp K H v d) : Dq K H v d := dq_of d v h
mutual
theorem dq_mono (e : Ex H H') : ∀ (d : PyData) (v : V), Dq K H v d → Dq K H' v d
  | .none, _, h => by cases h; exact .non
  | .bool _, _, h => by cases h; exact .bl _
  | .int _, _, h => by cases h; exact .int _
  | .str _, _, h => by cases h; exact .str _
  | .list ds, _, h => by
    cases h with
    | lst hs ha => exact .lst (Evl.ex_l e hs) (dqa_mono e ds _ ha)
  | .tuple ds, _, h => by
    cases h with
    | tup hs ha => exact .tup (Evl.ex_t e hs) (dqa_mono e ds _ ha)
  | .dict _, _, h => by
    cases h with
    | dct h => exact .dct (e _ _ h)
theorem dqa_mono (e : Ex H H') : ∀ (ds : List PyData) (vs : List V), DqAll K H vs ds → DqAll K H' vs ds
  | [], _, h => by cases h; exact .nil
  | d :: ds, _, h => by
    cases h with
    | cons h1 h2 => exact .cons (dq_mono e d _ h1) (dqa_mono e ds _ h2)
end
theorem Dq.up {v : V} {d : PyData} (h : Dq K H v d) (e : Ex H H') : Dq K H' v d := dq_mono e d v h
theorem DqAll.up {vs : List V} {ds : List PyData} (h : DqAll K H vs ds) (e : Ex H H') : DqAll K H' vs ds := dqa_mono e ds vs h
theorem dqa_len : ∀ {vs : List V} {ds : List PyData}, DqAll K H vs ds → vs.length = ds.length
  | _, _, .nil => rfl
  | _, _, .cons _ t => congrArg Nat.succ (dqa_len t)
theorem dqa_get : ∀ {vs : List V} {ds : List PyData} {i : Nat} {v : V}, DqAll K H vs ds → vs[i]? = some v → ∃ d, ds[i]? = some d ∧ Dq K H v d
  | _, _, _, _, .nil, e => by simp at e
  | _, _, 0, _, .cons r _, e => by simp at e; subst e; exact ⟨_, rfl, r⟩
  | _, _, i + 1, x, .cons _ t, e => by
    obtain ⟨d, h1, h2⟩ := dqa_get (i := i) (v := x) t (by simpa using e)
    exact ⟨d, by simpa using h1, h2⟩
theorem dq_ty {v : V} {d : PyData} (h : Dq K H v d) : TyX K H v (.type (tyOf d)) := by
  cases h with
  | non => exact .base .non
  | bl b => exact .base (.bl b)
  | int i => exact .base (.int i)
  | str x => exact .base (.str x)
  | lst hs ha =>
    rcases hs with (h | ⟨o, h⟩) | ⟨o, its, n, h, c, _⟩
    · exact .base (.lst h)
    · exact .base (.frz h)
    · exact .kList h c
  | tup hs ha =>
    rcases hs with (h | ⟨o, h⟩) | ⟨o, its, n, h, c, _⟩
    · exact .base (.tup h)
    · exact .fTuple h
    · exact .kTuple h c
  | dct h => exact .base (.dK h)
end
section
variable {K : PySem.W.Frag} {σ : L2.St} {H : Hp} {te tb : TE} {v w : V} {d e : PyData} {b : Bool}
theorem evq_isi {n : String} (h : Evl.Ev te σ H v) (hd : Dq K H v d) (hb : kitB (tyOf d) n = some b) : Evl.Ev (tCB (rIsi K) (tCons te (tCons (tC (.ty n)) tNil))) σ H (.bl b) := fun H1 e1 Q q =>
  h H1 e1 _ fun H2 e2 => ⟨v, .ty n, _, _, b, rfl, .ty n, dq_ty (hd.up (e1.trans e2)), kit_ty hb, q H2 e2⟩
theorem evq_isi2 {m n : String} (h : Evl.Ev te σ H v) (hd : Dq K H v d) (hb : kitsB (tyOf d) [m, n] = some b) : Evl.Ev (tCB (rIsiT K) (tCons te (tCons (tTup (tCons (tC (.ty m)) (tCons (tC (.ty n)) tNil))) tNil))) σ H (.bl b) := fun H1 e1 Q q =>
  h H1 e1 _ fun H2 e2 => ⟨by show 2 ≤ sizeLine; decide, fun p hp => ⟨v, p, _, _, _, b, rfl, upd_same, tys_cls (ns := [m, n]), dq_ty (hd.up ((e1.trans e2).trans (Ex.new hp))), kitsB_ok hb, q _ (e2.trans (Ex.new hp))⟩⟩
end
end U
set_option Elab.async false
set_option linter.all false
set_option maxRecDepth 100000
set_option maxHeartbeats 4000000
namespace U
open PySem PySem.Spec PyProof.Rows L2
open Evl (Ex)
/-! ### own +, raise X(), a class of two at once -/
section
variable {X : Cx} {CX : CXT} {n : Nat} {f C : Addr} {fd : FuncData} {ps : List Str} {sp : Sp} {E : L2.St → XK} {a b : Expr} {ta tb : TE} {pos : Pos} {op : Operator}
/-- x[i] of a list or a tuple -/
def rIxA (K : PySem.W.Frag) : R2 := fun x y H Q => rIxL K x y H Q ∨ rIxT K x y H Q
theorem ix_seq : IxR X (rIxA X.K) := IxR.or ix_list ix_tup
end
section
variable {K : PySem.W.Frag} {σ : L2.St} {H : Hp} {te ta tb tc : TE} {x y z : V} {r r' : R2} {a : Addr} {xs : List V} {v : V} {i : Int}
theorem ev_ixA (h : Evl.Ev te σ H (.ref a)) (hx : SqL K H a xs ∨ SqT K H a xs) (hv : atI xs i = some v) : Evl.Ev (tOp (rIxA K) te (tC (.int i))) σ H v := fun H1 e Q q =>
  h H1 e _ fun H2 e2 => by
    show rIxA K (.ref a) (.int i) H2 Q
    rcases hx with hx | hx
    · exact .inl ⟨a, xs, i, v, rfl, rfl, Evl.ex_l (e.trans e2) hx, hv, q H2 e2⟩
    · exact .inr ⟨a, xs, i, v, rfl, rfl, Evl.ex_t (e.trans e2) hx, hv, q H2 e2⟩
/-- a op b op c -/
theorem ev_chain {k l : Bool} (ha : Evl.Ev ta σ H x) (hb : Evl.Ev tb σ H y) (hr : Evl.RV r x y H (.bl k)) (hc : k = true → Evl.Ev tc σ H z) (hr2 : k = true → Evl.RV r' y z H (.bl l)) (hl : k = false → l = false) : Evl.Ev (tChain r r' ta tb tc) σ H (.bl l) := fun H1 e1 Q q =>
  ha H1 e1 _ fun H2 e2 => hb H2 (e1.trans e2) _ fun H3 e3 => hr H3 ((e1.trans e2).trans e3) _ fun H4 e4 => ⟨k, rfl, by
    cases k with
    | true =>
      rw [if_pos rfl]
      exact hc rfl H4 (((e1.trans e2).trans e3).trans e4) _ fun H5 e5 => hr2 rfl H5 ((((e1.trans e2).trans e3).trans e4).trans e5) Q fun H6 e6 => q H6 (((e2.trans e3).trans e4).trans (e5.trans e6))
    | false =>
      rw [if_neg (by simp)]
      rw [hl rfl] at q
      exact q H4 ((e2.trans e3).trans e4)⟩
/-- [True or False for x in a list or a tuple of data] -/
theorem el_seqB {tl : TE} {ds : List PyData} {f : PyData → Bool} {j : Nat} {vs : List Nat} (h : Evl.Ev tl σ H (.ref a)) (hx : SqL K H a xs ∨ SqT K H a xs) (hd : DpAll K H xs ds) (hz : ds.length ≤ 40000) (hw : ∀ x, wipe ((wipe σ vs).set j (some x)) vs = wipe σ vs)
    (he : ∀ (x : V) d H1, d ∈ ds → Ex H H1 → Dp K H1 x d → Evl.Ev te ((wipe σ vs).set j (some x)) H1 (.bl (f d))) : Evl.EvL (tLc (iSeq K tl) (gName j) tYes te vs) σ H ((ds.map f).map V.bl) := fun H0 e0 Q q => h H0 e0 _ fun H1 e1 => by
  have hlen := dpa_len hd
  let w : Nat → V := fun i => .bl (f (ds.getD i .none))
  have turn : ∀ (Dl : Addr) (i : Nat) (x : V) (H2 H3 : Hp), i < xs.length → Cm H1 w Dl i H2 → YAt xs i H2 x H3 → gName j x (wipe σ vs) H3 fun σ2 H2 => wipe σ2 vs = wipe σ vs ∧ tYes σ2 H2 fun b H3 =>
      if b = true then te σ2 H3 fun y H4 => ∃ acc, H4 Dl = some (.lst acc) ∧ acc.length < sizeLine ∧ Cm H1 w Dl (i + 1) (upd H4 Dl (.lst (acc ++ [y]))) else Cm H1 w Dl (i + 1) H3 := by
    intro Dl i x H2 H3 hi p yp
    obtain ⟨rfl, hu⟩ := yp
    obtain ⟨d, hd1, hd2⟩ := dpa_get hd hu
    refine ⟨hw x, ?_⟩
    refine yes_lc (A := fun H3 => te ((wipe σ vs).set j (some x)) H3 fun y H4 => ∃ acc, H4 Dl = some (.lst acc) ∧ acc.length < sizeLine ∧ Cm H1 w Dl (i + 1) (upd H4 Dl (.lst (acc ++ [y])))) (B := fun H3 => Cm H1 w Dl (i + 1) H3) ?_
    have ew : w i = .bl (f d) := by
      show V.bl (f (ds.getD i .none)) = _
      rw [List.getD_eq_getElem?_getD, hd1]
      rfl
    refine cm_turn p (by omega) _ (Ex.refl _) ?_
    rw [ew]
    exact he x d _ (List.mem_of_getElem? hd1) (e0.trans e1) (hd2.up (e0.trans e1))
  have fin : ∀ Dl H2, Cm H1 w Dl xs.length H2 → Q (.ref Dl) H2 := fun Dl H2 p => by
    refine q Dl H2 (Evl.fresh_back e1 p.1) (e1.trans p.2.1) ?_
    rw [p.2.2, hlen]
    congr 2
    apply List.ext_getElem
    · simp
    · intro i h1 h2
      have h3 : i < ds.length := by simpa using h1
      simp [w, h3]
  refine ⟨a, rfl, ?_⟩
  rcases hx with x1 | x1
  · refine .inl ⟨⟨xs, Evl.ex_l (e0.trans e1) x1⟩, fun Dl hD => ?_⟩
    exact lc_it (walk_list (xs := xs)) (Cm H1 w Dl) (cm_0 hD) (fun i H2 _ p => Evl.ex_l ((e0.trans e1).trans p.2.1) x1) (fun i x H2 H3 hi p y => turn Dl i x H2 H3 hi p y) (fun H2 p => fin Dl H2 p)
  · refine .inr ⟨⟨xs, Evl.ex_t (e0.trans e1) x1⟩, fun Dl hD => ?_⟩
    exact lc_it (walk_tup (xs := xs)) (Cm H1 w Dl) (cm_0 hD) (fun i H2 _ p => Evl.ex_t ((e0.trans e1).trans p.2.1) x1) (fun i x H2 H3 hi p y => turn Dl i x H2 H3 hi p y) (fun H2 p => fin Dl H2 p)
theorem el_seqBq {tl : TE} {ds : List PyData} {f : PyData → Bool} {j : Nat} {vs : List Nat} (h : Evl.Ev tl σ H (.ref a)) (hx : SqL K H a xs ∨ SqT K H a xs) (hd : DqAll K H xs ds) (hz : ds.length ≤ 40000) (hw : ∀ x, wipe ((wipe σ vs).set j (some x)) vs = wipe σ vs)
    (he : ∀ (x : V) d H1, d ∈ ds → Ex H H1 → Dq K H1 x d → Evl.Ev te ((wipe σ vs).set j (some x)) H1 (.bl (f d))) : Evl.EvL (tLc (iSeq K tl) (gName j) tYes te vs) σ H ((ds.map f).map V.bl) := fun H0 e0 Q q => h H0 e0 _ fun H1 e1 => by
  have hlen := dqa_len hd
  let w : Nat → V := fun i => .bl (f (ds.getD i .none))
  have turn : ∀ (Dl : Addr) (i : Nat) (x : V) (H2 H3 : Hp), i < xs.length → Cm H1 w Dl i H2 → YAt xs i H2 x H3 → gName j x (wipe σ vs) H3 fun σ2 H2 => wipe σ2 vs = wipe σ vs ∧ tYes σ2 H2 fun b H3 =>
      if b = true then te σ2 H3 fun y H4 => ∃ acc, H4 Dl = some (.lst acc) ∧ acc.length < sizeLine ∧ Cm H1 w Dl (i + 1) (upd H4 Dl (.lst (acc ++ [y]))) else Cm H1 w Dl (i + 1) H3 := by
    intro Dl i x H2 H3 hi p yp
    obtain ⟨rfl, hu⟩ := yp
    obtain ⟨d, hd1, hd2⟩ := dqa_get hd hu
    refine ⟨hw x, ?_⟩
    refine yes_lc (A := fun H3 => te ((wipe σ vs).set j (some x)) H3 fun y H4 => ∃ acc, H4 Dl = some (.lst acc) ∧ acc.length < sizeLine ∧ Cm H1 w Dl (i + 1) (upd H4 Dl (.lst (acc ++ [y])))) (B := fun H3 => Cm H1 w Dl (i + 1) H3) ?_
    have ew : w i = .bl (f d) := by
      show V.bl (f (ds.getD i .none)) = _
      rw [List.getD_eq_getElem?_getD, hd1]
      rfl
    refine cm_turn p (by omega) _ (Ex.refl _) ?_
    rw [ew]
    exact he x d _ (List.mem_of_getElem? hd1) (e0.trans e1) (hd2.up (e0.trans e1))
  have fin : ∀ Dl H2, Cm H1 w Dl xs.length H2 → Q (.ref Dl) H2 := fun Dl H2 p => by
    refine q Dl H2 (Evl.fresh_back e1 p.1) (e1.trans p.2.1) ?_
    rw [p.2.2, hlen]
    congr 2
    apply List.ext_getElem
    · simp
    · intro i h1 h2
      have h3 : i < ds.length := by simpa using h1
      simp [w, h3]
  refine ⟨a, rfl, ?_⟩
  rcases hx with x1 | x1
  · refine .inl ⟨⟨xs, Evl.ex_l (e0.trans e1) x1⟩, fun Dl hD => ?_⟩
    exact lc_it (walk_list (xs := xs)) (Cm H1 w Dl) (cm_0 hD) (fun i H2 _ p => Evl.ex_l ((e0.trans e1).trans p.2.1) x1) (fun i x H2 H3 hi p y => turn Dl i x H2 H3 hi p y) (fun H2 p => fin Dl H2 p)
  · refine .inr ⟨⟨xs, Evl.ex_t (e0.trans e1) x1⟩, fun Dl hD => ?_⟩
    exact lc_it (walk_tup (xs := xs)) (Cm H1 w Dl) (cm_0 hD) (fun i H2 _ p => Evl.ex_t ((e0.trans e1).trans p.2.1) x1) (fun i x H2 H3 hi p y => turn Dl i x H2 H3 hi p y) (fun H2 p => fin Dl H2 p)
theorem fits_len {ds : List PyData} (h : (∃ n, fits n (.list ds)) ∨ ∃ n, fits n (.tuple ds)) : ds.length ≤ 40000 := by
  rcases h with ⟨n, h⟩ | ⟨n, h⟩ <;>
  · cases n with
    | zero => exact h.elim
    | succ n => exact h.1
theorem fits_in {ds : List PyData} {d : PyData} (h : (∃ n, fits n (.list ds)) ∨ ∃ n, fits n (.tuple ds)) (hd : d ∈ ds) : ∃ n, fits n d := by
  rcases h with ⟨n, h⟩ | ⟨n, h⟩ <;>
  · cases n with
    | zero => exact h.elim
    | succ n => exact ⟨n, h.2 d hd⟩
/-- a field of an instance -/
theorem ev_fld {C dx : Addr} {fs : List (Str × V)} {f : Str} (h : Evl.Ev te σ H (.ref a)) (ha : H a = some (.ins C dx fs)) (c : Cls K C) (n : NoAttr K C f) (hv : fs.lookup f = some v) : Evl.Ev (tFld K te f) σ H v := fun H1 e Q q =>
  h H1 e _ fun H2 e2 => ⟨a, C, dx, fs, v, rfl, (e.trans e2) a _ ha, c, n, hv, q H2 e2⟩
end
end U
set_option Elab.async false
set_option linter.all false
set_option maxRecDepth 100000
set_option maxHeartbeats 4000000
namespace U
open PySem L2
open Evl (Ex)
def top (i : Nat) : Stmt := PySem.Challenge.pw_toldenough_k18_certificates_by_any_numbe.main.body.getD i (.Pass ⟨0, 0, 0, 0⟩)
abbrev s_source : Stmt := top 61
abbrev sc_source_N : List Str := ["_law_script", "_law_at", "_law_cell"]
theorem sc_source : FnScope sc_source_N ["_law_script", "_law_at"] (defScope s_source) := ⟨rfl, rfl, rfl, by decide +kernel, rfl, by decide +kernel, by decide +kernel⟩
abbrev s_draw : Stmt := top 62
abbrev sc_draw_N : List Str := ["_law_draws", "_law_many", "_law_digit", "_law_seed"]
theorem sc_draw : FnScope sc_draw_N ["_law_draws", "_law_many"] (defScope s_draw) := ⟨rfl, rfl, rfl, by decide +kernel, rfl, by decide +kernel, by decide +kernel⟩
abbrev s_pick : Stmt := top 63
abbrev sc_pick_N : List Str := ["_law_draws", "_law_things"]
theorem sc_pick : FnScope sc_pick_N ["_law_draws", "_law_things"] (defScope s_pick) := ⟨rfl, rfl, rfl, by decide +kernel, rfl, by decide +kernel, by decide +kernel⟩
abbrev s_same : Stmt := top 64
abbrev sc_same_N : List Str := ["_law_found", "_law_due", "_law_left", "_law_right"]
theorem sc_same : FnScope sc_same_N ["_law_found", "_law_due"] (defScope s_same) := ⟨rfl, rfl, rfl, by decide +kernel, rfl, by decide +kernel, by decide +kernel⟩
structure TxB (mg : Str → Option Value) : Prop where
  m_len : mg "len" = none
  m_int : mg "int" = none
  m_isinstance : mg "isinstance" = none
  m_list : mg "list" = none
  m_tuple : mg "tuple" = none
  m_bool : mg "bool" = none
  m_all : mg "all" = none
  m_zip : mg "zip" = none
section
variable {P : Program} {w : World} {K : PySem.W.Frag} {mg : Str → Option Value} {base : Heap}
theorem ok_source {f : Addr} {fd : FuncData} (F : Fun K "_law_source" "_law_source" s_source f fd) (T : TxB mg) : FnOk P w K mg base CX0 1 f fd ["_law_script", "_law_at"] (spSource K) := by
  refine F.ok sc_source (fun vs H Q E h => ?_) (fun cdv A outer s H vs Q E hr h => ?_)
  · obtain ⟨_, _, _, rfl, _⟩ := h
    rfl
  · obtain ⟨sa, ns, i, rfl, hS, hl, hi, k⟩ := h
    refine ⟨_, (pss_cons (ps_set (i := 2) sc_source.nd rfl (by first | exact Or.inl rfl | exact Or.inr rfl) (pe_ifExp (pt_cmpR op_lt (pv 1) (pe_callB call_len_seq (by rfl) T.m_len (by decide +kernel) (pa_cons (pv 0) pa_nil)) (nomark _)) (pe_ix ix_list (pv 0) (pv 1) (fun _ _ => rfl)) (pe_op op_add (pe_op op_mul pe_int (pv 1)) pe_int)))
    (pss_one (ps_ret (pe_lst (pa_cons (pe_ifExp (pt_cmpR op_ge (pv 2) (pe_op op_pow pe_int pe_int) (nomark _)) (pv 2) pe_int) (pa_cons (pe_op op_add (pe_op op_mod (pe_callTy call_int1 (by rfl) T.m_int (by decide +kernel) (pa_cons (pv 2) pa_nil)) pe_int) (pe_op op_mul pe_int (pv 1))) (pa_cons pe_int pa_nil))))))), ?_⟩
    have hlen : (ns.map V.int).length = ns.length := List.length_map ..
    have fin : ∀ (c : Int), ∀ l : Addr, H l = none → Q (.ref l) (upd H l (.lst [.int (if c ≥ 10 ^ 18 then c else 0), .int (c % 2147483647 + 131 * (i : Int)), .int 0])) := fun c l hn => by
      refine k l _ hn ⟨_, _, _, upd_same, ?_, ?_, ?_, by decide, by decide⟩
      · by_cases hc : c ≥ 10 ^ 18
        · rw [if_pos hc]
          omega
        · rw [if_neg hc]
          decide
      · omega
      · omega
    refine ⟨_, rfl, _, rfl, sa, _, rfl, .inl hS, _, _, rfl, rfl, _, rfl, ?_⟩
    refine ite2 (fun hc => ?_) (fun hc => ?_)
    · have hc' : i < ns.length := by
        have q := of_decide_eq_true hc
        rw [hlen] at q
        omega
      refine ⟨_, rfl, _, rfl, sa, _, _, .int ns[i], rfl, rfl, hS, atI_nat (by rw [List.getElem?_map, List.getElem?_eq_getElem hc']; rfl), ?_⟩
      have g := fin (ns[i])
      generalize ns[i] = c at g ⊢
      refine ⟨_, rfl, _, _, rfl, rfl, ⟨by decide, by decide, by decide⟩, _, _, rfl, rfl, _, rfl, ?_⟩
      refine ite2 (fun hc => ?_) (fun hc => ?_)
      · have hc' : c ≥ 10 ^ 18 := of_decide_eq_true hc
        rw [if_pos hc'] at g
        refine ⟨_, rfl, _, rfl, .inl ⟨_, rfl, _, _, rfl, rfl, (by show (0 : Int) < _; decide), _, rfl, _, _, rfl, rfl, .inl ⟨by decide, by decide⟩, _, _, rfl, rfl, by show 3 ≤ sizeLine; decide, fun l hn => ?_⟩⟩
        exact g l hn
      · have hc' : ¬ c ≥ 10 ^ 18 := fun q => hc (decide_eq_true q)
        rw [if_neg hc'] at g
        refine ⟨_, rfl, .inl ⟨_, rfl, _, _, rfl, rfl, (by show (0 : Int) < _; decide), _, rfl, _, _, rfl, rfl, .inl ⟨by decide, by decide⟩, _, _, rfl, rfl, by show 3 ≤ sizeLine; decide, fun l hn => ?_⟩⟩
        exact g l hn
    · have g := fin (11 * (i : Int) + 3)
      refine ⟨_, rfl, _, _, rfl, rfl, .inl ⟨by decide, by decide⟩, _, _, rfl, rfl, ?_⟩
      refine ⟨_, rfl, _, _, rfl, rfl, ⟨by decide, by decide, by decide⟩, _, _, rfl, rfl, _, rfl, ?_⟩
      refine ite2 (fun hc => ?_) (fun hc => ?_)
      · have hc' : 11 * (i : Int) + 3 ≥ 10 ^ 18 := of_decide_eq_true hc
        rw [if_pos hc'] at g
        refine ⟨_, rfl, _, rfl, .inl ⟨_, rfl, _, _, rfl, rfl, (by show (0 : Int) < _; decide), _, rfl, _, _, rfl, rfl, .inl ⟨by decide, by decide⟩, _, _, rfl, rfl, by show 3 ≤ sizeLine; decide, fun l hn => ?_⟩⟩
        exact g l hn
      · have hc' : ¬ 11 * (i : Int) + 3 ≥ 10 ^ 18 := fun q => hc (decide_eq_true q)
        rw [if_neg hc'] at g
        refine ⟨_, rfl, .inl ⟨_, rfl, _, _, rfl, rfl, (by show (0 : Int) < _; decide), _, rfl, _, _, rfl, rfl, .inl ⟨by decide, by decide⟩, _, _, rfl, rfl, by show 3 ≤ sizeLine; decide, fun l hn => ?_⟩⟩
        exact g l hn
theorem ok_draw {f : Addr} {fd : FuncData} (F : Fun K "_law_draw" "_law_draw" s_draw f fd) (T : TxB mg) : FnOk P w K mg base CX0 1 f fd ["_law_draws", "_law_many"] spDraw := by
  refine F.ok sc_draw (fun vs H Q E h => ?_) (fun cdv A outer s H vs Q E hr h => ?_)
  · obtain ⟨_, _, _, rfl, _⟩ := h
    rfl
  · obtain ⟨l, many, n, rfl, ⟨x, y, z, hl, x0, y0, y1, z0, z1⟩, hn, m0, m1, k⟩ := h
    refine ⟨_, (pss_cons (ps_if (pt_cmpR op_gt (pe_ix ix_list (pv 0) pe_int (fun _ _ => rfl)) pe_int (nomark _)) (pss_cons (ps_set (i := 2) sc_draw.nd rfl (by first | exact Or.inl rfl | exact Or.inr rfl) (pe_op op_mod (pe_callTy call_int1 (by rfl) T.m_int (by decide +kernel) (pa_cons (pe_ix ix_list (pv 0) pe_int (fun _ _ => rfl)) pa_nil)) (pv 1)))
      (pss_cons (ps_asg (pe_op op_fdivN (pe_ix ix_list (pv 0) pe_int (fun _ _ => rfl)) (pv 1)) (pg_sub (pv 0) pe_int set_list))
      (pss_one (ps_ret (pv 2))))) pss_nil)
    (pss_cons (ps_asg (pe_op op_add (pe_ix ix_list (pv 0) pe_int (fun _ _ => rfl)) pe_int) (pg_sub (pv 0) pe_int set_list))
    (pss_cons (ps_set (i := 3) sc_draw.nd rfl (by first | exact Or.inl rfl | exact Or.inr rfl) (pe_op op_mod (pe_op op_pow (pe_callTy call_int1 (by rfl) T.m_int (by decide +kernel) (pa_cons (pe_op op_add (pe_op op_add (pe_ix ix_list (pv 0) pe_int (fun _ _ => rfl)) (pe_op op_mul pe_int (pe_ix ix_list (pv 0) pe_int (fun _ _ => rfl)))) pe_int) pa_nil)) pe_int) pe_int))
    (pss_one (ps_ret (pe_op op_mod (pe_op op_mod (pe_op op_pow (pe_callTy call_int1 (by rfl) T.m_int (by decide +kernel) (pa_cons (pe_op op_add (pe_op op_mul (pv 3) pe_int) (pe_op op_mul pe_int (pe_ix ix_list (pv 0) pe_int (fun _ _ => rfl)))) pa_nil)) pe_int) pe_int) (pv 1))))))), ?_⟩
    have i0 : atI [V.int x, V.int y, V.int z] 0 = some (.int x) := rfl
    have i1 : atI [V.int x, V.int y, V.int z] 1 = some (.int y) := rfl
    have i2 : atI [V.int x, V.int y, V.int z] 2 = some (.int z) := rfl
    refine ⟨_, rfl, l, _, _, _, rfl, rfl, SqL.of hl, i0, _, _, rfl, rfl, _, rfl, ?_⟩
    refine ite2 (fun hc => ?_) (fun hc => ?_)
    · refine ⟨_, rfl, l, _, _, _, rfl, rfl, SqL.of hl, i0, .inl ⟨_, rfl, _, rfl, _, _, rfl, rfl, m0, ?_⟩⟩
      refine ⟨_, rfl, l, _, _, _, rfl, rfl, SqL.of hl, i0, _, rfl, _, _, rfl, rfl, ⟨by omega, by omega⟩, _, rfl, l, _, _, 0, rfl, rfl, hl, rfl, ?_⟩
      refine ⟨_, rfl, ?_⟩
      exact k (x % many) _ (Int.emod_nonneg _ (by omega)) (Int.emod_lt_of_pos _ m0) ⟨_, _, _, upd_same, Int.fdiv_nonneg x0 (by omega), y0, y1, z0, by omega⟩
    · have hl2 : (upd H l (.lst [V.int x, V.int y, V.int (z + 1)])) l = some (.lst [V.int x, V.int y, V.int (z + 1)]) := upd_same
      have j1 : atI [V.int x, V.int y, V.int (z + 1)] 1 = some (.int y) := rfl
      have j2 : atI [V.int x, V.int y, V.int (z + 1)] 2 = some (.int (z + 1)) := rfl
      refine ⟨_, rfl, l, _, _, _, rfl, rfl, SqL.of hl, i2, _, _, rfl, rfl, _, rfl, l, _, _, 2, rfl, rfl, hl, rfl, ?_⟩
      refine ⟨_, rfl, l, _, _, _, rfl, rfl, SqL.of hl2, j1, _, rfl, l, _, _, _, rfl, rfl, SqL.of hl2, j2, _, _, rfl, rfl, .inl ⟨by decide, by decide⟩, _, _, rfl, rfl, _, _, rfl, rfl, .inl ⟨_, rfl, _, _, rfl, rfl, ⟨by decide, by decide, ?_⟩, _, _, rfl, rfl, (by show (0 : Int) < _; decide), ?_⟩⟩
      · show (y + 7919 * (z + 1) + 104729).natAbs < 18446744073709551616
        omega
      have e1 : 0 ≤ (y + 7919 * (z + 1) + 104729) ^ (5 : Int).toNat % 2147483629 := Int.emod_nonneg _ (by decide)
      have e2 : (y + 7919 * (z + 1) + 104729) ^ (5 : Int).toNat % 2147483629 < 2147483629 := Int.emod_lt_of_pos _ (by decide)
      have hb : ∀ c : Int, 0 ≤ c → c < 2147483629 → (c * 48271 + 40503 * (z + 1)).natAbs < 18446744073709551616 := fun c _ _ => by omega
      refine ⟨_, rfl, _, _, rfl, rfl, .inr ⟨by decide, by decide⟩, _, rfl, l, _, _, _, rfl, rfl, SqL.of hl2, j2, _, _, rfl, rfl, .inl ⟨by decide, by decide⟩, _, _, rfl, rfl, .inl ⟨_, rfl, _, _, rfl, rfl, ⟨by decide, by decide, ?_⟩, _, _, rfl, rfl, (by show (0 : Int) < _; decide), _, rfl, _, _, rfl, rfl, m0, ?_⟩⟩
      · exact hb _ e1 e2
      exact k _ _ (Int.emod_nonneg _ (by omega)) (Int.emod_lt_of_pos _ m0) ⟨_, _, _, upd_same, x0, y0, y1, by omega, by omega⟩
def spPrev (K : PySem.W.Frag) : Nat → Sp
  | 0 => fun _ _ _ _ => False
  | n + 1 => spSame K n
theorem same_body {f : Addr} {fd : FuncData} (F : Fun K "_law_same" "_law_same" s_same f fd) (T : TxB mg) (n : Nat) (D_same : DefAt P w K mg base "_law_same" n ["_law_found", "_law_due"] (spPrev K n)) : FnOk P w K mg base CX0 (n + 1) f fd ["_law_found", "_law_due"] (spSame K n) := by
  refine F.ok sc_same (fun vs H Q E h => ?_) (fun cdv A outer s H vs Q E hr h => ?_)
  · obtain ⟨_, _, _, rfl, _⟩ := h
    rfl
  · obtain ⟨x, y, d, rfl, hx, hy, hf, k⟩ := h
    refine ⟨_, (pss_cons (ps_if (pt_val (pe_callB call_isiT (by rfl) T.m_isinstance (by decide +kernel) (pa_cons (pv 1) (pa_cons (pe_tup (pa_cons (pe_bltn (v := .ty "list") (by rfl) T.m_list (by decide +kernel) rfl) (pa_cons (pe_bltn (v := .ty "tuple") (by rfl) T.m_tuple (by decide +kernel) rfl) pa_nil))) pa_nil)))) (pss_cons (ps_if (PW.pt (pw_or (pt_cmpR op_ne (pe_callB call_isi (by rfl) T.m_isinstance (by decide +kernel) (pa_cons (pv 0) (pa_cons (pe_bltn (v := .ty "list") (by rfl) T.m_list (by decide +kernel) rfl) pa_nil))) (pe_callB call_isi (by rfl) T.m_isinstance (by decide +kernel) (pa_cons (pv 1) (pa_cons (pe_bltn (v := .ty "list") (by rfl) T.m_list (by decide +kernel) rfl) pa_nil))) (nomark _)) (pw_or1 (pt_cmpR op_ne (pe_callB call_isi (by rfl) T.m_isinstance (by decide +kernel) (pa_cons (pv 0) (pa_cons (pe_bltn (v := .ty "tuple") (by rfl) T.m_tuple (by decide +kernel) rfl) pa_nil))) (pe_callB call_isi (by rfl) T.m_isinstance (by decide +kernel) (pa_cons (pv 1) (pa_cons (pe_bltn (v := .ty "tuple") (by rfl) T.m_tuple (by decide +kernel) rfl) pa_nil))) (nomark _))))) (pss_one (ps_ret pe_bl)) pss_nil)
      (pss_one (ps_ret (pe_and (pe_cmpR op_eq (pe_callB call_len_seq (by rfl) T.m_len (by decide +kernel) (pa_cons (pv 0) pa_nil)) (pe_callB call_len_seq (by rfl) T.m_len (by decide +kernel) (pa_cons (pv 1) pa_nil)) (nomark _)) (pe_one (pe_callB (cr_all rfl) (by rfl) T.m_all (by decide +kernel) (pa_cons (pe_lc (own := [("_law_left", 2), ("_law_right", 3)]) (g := gTup K 2 (gCons (gName 2) (gCons (gName 3) (gNil)))) (tt := tYes) (by rfl) sc_same.nd (RZ.pi_zipA (by rfl) T.m_zip (pa_cons (pv 0) (pa_cons (pv 1) pa_nil))) (blkOk_by (N := sc_same_N) (sc := defScope s_same) (by decide +kernel)) (fun _ _ _ _ _ => (pg_tup (by rfl) (pgs_cons (pg_name (i := 2) sc_same.nd rfl (by first | exact Or.inl rfl | exact Or.inr rfl)) (pgs_cons (pg_name (i := 3) sc_same.nd rfl (by first | exact Or.inl rfl | exact Or.inr rfl)) pgs_nil)))) (fun _ _ _ _ _ => pts_nil) (fun _ _ _ _ _ => (pe_callD D_same (by first | exact hr | exact hr.mono (by decide) | exact hr.mono (by omega)) (by rfl) (pa_cons (pv 2) (pa_cons (pv 3) pa_nil))))) pa_nil))))))) pss_nil)
    (pss_cons (ps_if (pt_val (pe_callB call_isiT (by rfl) T.m_isinstance (by decide +kernel) (pa_cons (pv 1) (pa_cons (pe_tup (pa_cons (pe_bltn (v := .ty "bool") (by rfl) T.m_bool (by decide +kernel) rfl) (pa_cons (pe_bltn (v := .ty "int") (by rfl) T.m_int (by decide +kernel) rfl) pa_nil))) pa_nil)))) (pss_one (ps_ret (pe_and (pe_callB call_isi (by rfl) T.m_isinstance (by decide +kernel) (pa_cons (pv 0) (pa_cons (pe_bltn (v := .ty "int") (by rfl) T.m_int (by decide +kernel) rfl) pa_nil))) (pe_and (pe_cmpR op_eq (pe_callB call_isi (by rfl) T.m_isinstance (by decide +kernel) (pa_cons (pv 0) (pa_cons (pe_bltn (v := .ty "bool") (by rfl) T.m_bool (by decide +kernel) rfl) pa_nil))) (pe_callB call_isi (by rfl) T.m_isinstance (by decide +kernel) (pa_cons (pv 1) (pa_cons (pe_bltn (v := .ty "bool") (by rfl) T.m_bool (by decide +kernel) rfl) pa_nil))) (nomark _)) (pe_one (pe_cmpR op_eq (pv 0) (pv 1) (nomark _))))))) pss_nil)
    (pss_one (ps_ret (pe_and (pe_not (pe_callB call_isiT (by rfl) T.m_isinstance (by decide +kernel) (pa_cons (pv 0) (pa_cons (pe_tup (pa_cons (pe_bltn (v := .ty "bool") (by rfl) T.m_bool (by decide +kernel) rfl) (pa_cons (pe_bltn (v := .ty "int") (by rfl) T.m_int (by decide +kernel) rfl) (pa_cons (pe_bltn (v := .ty "list") (by rfl) T.m_list (by decide +kernel) rfl) (pa_cons (pe_bltn (v := .ty "tuple") (by rfl) T.m_tuple (by decide +kernel) rfl) pa_nil))))) pa_nil)))) (pe_one (pe_cmpR op_eq (pv 0) (pv 1) (nomark _)))))))), ?_⟩
    have v0 : Evl.Ev (tVar 0) (start sc_same_N [x, y]) H x := Evl.ev_var rfl
    have v1 : Evl.Ev (tVar 1) (start sc_same_N [x, y]) H y := Evl.ev_var rfl
    -- two lists, two tuples
    have seqs : ∀ (a b : Addr) (xs ys : List V) (ds : List PyData) (m : Nat), n = m + 1 → x = .ref a → y = .ref b → (SqL K H a xs ∧ SqL K H b ys) ∨ (SqT K H a xs ∧ SqT K H b ys) → DpAll K H xs ds → DpAll K H ys ds → (∀ d ∈ ds, fits m d) → xs.length ≤ 40000 →
        ∀ H1, Ex H H1 → Evl.Ev (tAndV (tOp rEq (tCB (fun xs H Q => ∃ p ys, xs = [V.ref p] ∧ (SqL K H p ys ∨ SqT K H p ys) ∧ Q (.int ys.length) H) (tCons (tVar 0) tNil)) (tCB (fun xs H Q => ∃ p ys, xs = [V.ref p] ∧ (SqL K H p ys ∨ SqT K H p ys) ∧ Q (.int ys.length) H) (tCons (tVar 1) tNil)))
          (tCB (rAll K) (tCons (tLc (RZ.iZipA K (tCons (tVar 0) (tCons (tVar 1) tNil))) (gTup K 2 (gCons (gName 2) (gCons (gName 3) gNil))) tYes (tCallD (spPrev K n) (tCons (tVar 2) (tCons (tVar 3) tNil))) [2, 3]) tNil))) (start sc_same_N [x, y]) H1 (.bl true) := by
      rintro a b xs ys ds m rfl rfl rfl hs h1 h2 hd hz H1 e1
      have hl : xs.length = ys.length := (dpa_len h1).trans (dpa_len h2).symm
      have hs1 : SqL K H1 a xs ∨ SqT K H1 a xs := hs.imp (fun q => Evl.ex_l e1 q.1) (fun q => Evl.ex_t e1 q.1)
      have hs2 : SqL K H1 b ys ∨ SqT K H1 b ys := hs.imp (fun q => Evl.ex_l e1 q.2) (fun q => Evl.ex_t e1 q.2)
      refine Evl.ev_is (Evl.ev_andV (a := true) (b := true) (Evl.ev_is (Evl.ev_op (ev_lenS (v0.mono e1) hs1) (ev_lenS (v1.mono e1) hs2) (Evl.rv_eq rfl)) ?_) fun _ => ?_) rfl
      · rw [hl]
        exact congrArg V.bl (decide_eq_true rfl)
      · have z := el_zip (K := K) (v := fun _ => V.bl true) (te := tCallD (spPrev K (m + 1)) (tCons (tVar 2) (tCons (tVar 3) tNil))) (i1 := 2) (i2 := 3) (vs := [2, 3]) (σ := start sc_same_N [V.ref a, V.ref b]) (H := H1) (ta := tCons (tVar 0) (tCons (tVar 1) tNil)) (a := a) (b := b) (xs := xs) (ys := ys)
          (Evl.ea_cons (v0.mono e1) (Evl.ea_cons (v1.mono e1) Evl.ea_nil)) (hs.imp (fun q => ⟨Evl.ex_l e1 q.1, Evl.ex_l e1 q.2⟩) (fun q => ⟨Evl.ex_t e1 q.1, Evl.ex_t e1 q.2⟩)) hl hz (fun _ _ => rfl) (fun i u v H2 e2 hu hv => ?_)
        · have em : (List.range xs.length).map (fun _ => V.bl true) = ((List.range xs.length).map fun _ => true).map V.bl := by
            rw [List.map_map]
            rfl
          rw [em] at z
          exact Evl.ev_is (ev_all z) (congrArg V.bl (by simp))
        · obtain ⟨d, hd1, hd2⟩ := dpa_get h1 hu
          obtain ⟨d', hd3, hd4⟩ := dpa_get h2 hv
          rw [hd1] at hd3
          cases hd3
          exact ev_callD (Evl.ea_cons (Evl.ev_var rfl) (Evl.ea_cons (Evl.ev_var rfl) Evl.ea_nil)) fun H3 e3 Q q => ⟨u, v, d, rfl, hd2.up ((e1.trans e2).trans e3), hd4.up ((e1.trans e2).trans e3), hd d (List.mem_of_getElem? hd1), q⟩
    cases d with
    | none =>
      have exy : x = y := by
        cases hx
        cases hy
        rfl
      refine Evl.q_when (b := false) (Evl.et_B (ev_isi2 v1 hy isi_NoneType_list_tuple)) (fun z => by cases z) (fun _ H1 e1 => ?_)
      refine Evl.q_when (b := false) (Evl.et_B (ev_isi2 (v1.mono e1) (hy.up e1) isi_NoneType_bool_int)) (fun z => by cases z) (fun _ H2 e2 => ?_)
      refine Evl.s_ret (v := .bl true) (Evl.ev_is (Evl.ev_andV (Evl.ev_notV (ev_isi4 (v0.mono (e1.trans e2)) (hx.up (e1.trans e2)) (b := false) isi_NoneType_bool_int_list_tuple)) (fun _ => Evl.ev_is (Evl.ev_op (v0.mono (e1.trans e2)) (v1.mono (e1.trans e2)) (Evl.rv_eq (by cases hx; cases hy; rfl))) (w := .bl true) (by rw [exy]; exact congrArg V.bl (decide_eq_true rfl)))) rfl) (fun H3 e3 => k H3 ((e1.trans e2).trans e3))
    | str z =>
      have exy : x = y := by
        cases hx
        cases hy
        rfl
      refine Evl.q_when (b := false) (Evl.et_B (ev_isi2 v1 hy isi_str_list_tuple)) (fun z => by cases z) (fun _ H1 e1 => ?_)
      refine Evl.q_when (b := false) (Evl.et_B (ev_isi2 (v1.mono e1) (hy.up e1) isi_str_bool_int)) (fun z => by cases z) (fun _ H2 e2 => ?_)
      refine Evl.s_ret (v := .bl true) (Evl.ev_is (Evl.ev_andV (Evl.ev_notV (ev_isi4 (v0.mono (e1.trans e2)) (hx.up (e1.trans e2)) (b := false) isi_str_bool_int_list_tuple)) (fun _ => Evl.ev_is (Evl.ev_op (v0.mono (e1.trans e2)) (v1.mono (e1.trans e2)) (Evl.rv_eq (by cases hx; cases hy; rfl))) (w := .bl true) (by rw [exy]; exact congrArg V.bl (decide_eq_true rfl)))) rfl) (fun H3 e3 => k H3 ((e1.trans e2).trans e3))
    | bool z =>
      have exy : x = y := by
        cases hx
        cases hy
        rfl
      refine Evl.q_when (b := false) (Evl.et_B (ev_isi2 v1 hy isi_bool_list_tuple)) (fun z => by cases z) (fun _ H1 e1 => ?_)
      refine Evl.q_when (b := true) (Evl.et_B (ev_isi2 (v1.mono e1) (hy.up e1) isi_bool_bool_int)) (fun _ H2 e2 => ?_) (fun z => by cases z)
      refine Evl.s_ret (v := .bl true) (Evl.ev_is (Evl.ev_andV (ev_isi (v0.mono (e1.trans e2)) (hx.up (e1.trans e2)) (b := true) isi_bool_int) (fun _ => Evl.ev_andV (a := true) (Evl.ev_is (ev_eqB (ev_isi (v0.mono (e1.trans e2)) (hx.up (e1.trans e2)) (b := true) isi_bool_bool) (ev_isi (v1.mono (e1.trans e2)) (hy.up (e1.trans e2)) (b := true) isi_bool_bool)) (by decide))
        fun _ => Evl.ev_is (Evl.ev_op (v0.mono (e1.trans e2)) (v1.mono (e1.trans e2)) (Evl.rv_eq (by cases hx; cases hy; rfl))) (w := .bl true) (by rw [exy]; exact congrArg V.bl (decide_eq_true rfl)))) rfl) (fun H3 e3 => k H3 ((e1.trans e2).trans e3))
    | int z =>
      have exy : x = y := by
        cases hx
        cases hy
        rfl
      refine Evl.q_when (b := false) (Evl.et_B (ev_isi2 v1 hy isi_int_list_tuple)) (fun z => by cases z) (fun _ H1 e1 => ?_)
      refine Evl.q_when (b := true) (Evl.et_B (ev_isi2 (v1.mono e1) (hy.up e1) isi_int_bool_int)) (fun _ H2 e2 => ?_) (fun z => by cases z)
      refine Evl.s_ret (v := .bl true) (Evl.ev_is (Evl.ev_andV (ev_isi (v0.mono (e1.trans e2)) (hx.up (e1.trans e2)) (b := true) isi_int_int) (fun _ => Evl.ev_andV (a := true) (Evl.ev_is (ev_eqB (ev_isi (v0.mono (e1.trans e2)) (hx.up (e1.trans e2)) (b := false) isi_int_bool) (ev_isi (v1.mono (e1.trans e2)) (hy.up (e1.trans e2)) (b := false) isi_int_bool)) (by decide))
        fun _ => Evl.ev_is (Evl.ev_op (v0.mono (e1.trans e2)) (v1.mono (e1.trans e2)) (Evl.rv_eq (by cases hx; cases hy; rfl))) (w := .bl true) (by rw [exy]; exact congrArg V.bl (decide_eq_true rfl)))) rfl) (fun H3 e3 => k H3 ((e1.trans e2).trans e3))
    | list ds =>
      cases n with
      | zero => exact hf.elim
      | succ m =>
        have hx' := hx
        have hy' := hy
        cases hx with
        | @lst a xs _ hs ha =>
          cases hy with
          | @lst b ys _ hs2 ha2 =>
            refine Evl.q_when (b := true) (Evl.et_B (ev_isi2 v1 hy' isi_list_list_tuple)) (fun _ H1 e1 => ?_) (fun z => by cases z)
            refine Evl.q_when (b := false) (Evl.et_is (Evl.et_or (Evl.et_test (ev_neB (ev_isi (v0.mono e1) (hx'.up e1) (b := true) isi_list_list) (ev_isi (v1.mono e1) (hy'.up e1) (b := true) isi_list_list))) fun _ => Evl.et_test (ev_neB (ev_isi (v0.mono e1) (hx'.up e1) (b := false) isi_list_tuple) (ev_isi (v1.mono e1) (hy'.up e1) (b := false) isi_list_tuple))) (by decide)) (fun z => by cases z) (fun _ H2 e2 => ?_)
            exact Evl.s_ret (v := .bl true) (seqs a b xs ys ds m rfl rfl rfl (.inl ⟨hs, hs2⟩) ha ha2 hf.2 (by rw [dpa_len ha]; exact hf.1) _ (e1.trans e2)) (fun H3 e3 => k H3 ((e1.trans e2).trans e3))
    | tuple ds =>
      cases n with
      | zero => exact hf.elim
      | succ m =>
        have hx' := hx
        have hy' := hy
        cases hx with
        | @tup a xs _ hs ha =>
          cases hy with
          | @tup b ys _ hs2 ha2 =>
            refine Evl.q_when (b := true) (Evl.et_B (ev_isi2 v1 hy' isi_tuple_list_tuple)) (fun _ H1 e1 => ?_) (fun z => by cases z)
            refine Evl.q_when (b := false) (Evl.et_is (Evl.et_or (Evl.et_test (ev_neB (ev_isi (v0.mono e1) (hx'.up e1) (b := false) isi_tuple_list) (ev_isi (v1.mono e1) (hy'.up e1) (b := false) isi_tuple_list))) fun _ => Evl.et_test (ev_neB (ev_isi (v0.mono e1) (hx'.up e1) (b := true) isi_tuple_tuple) (ev_isi (v1.mono e1) (hy'.up e1) (b := true) isi_tuple_tuple))) (by decide)) (fun z => by cases z) (fun _ H2 e2 => ?_)
            exact Evl.s_ret (v := .bl true) (seqs a b xs ys ds m rfl rfl rfl (.inr ⟨hs, hs2⟩) ha ha2 hf.2 (by rw [dpa_len ha]; exact hf.1) _ (e1.trans e2)) (fun H3 e3 => k H3 ((e1.trans e2).trans e3))
    | dict _ => cases hx
end
end U
set_option Elab.async false
set_option linter.all false
set_option maxRecDepth 100000
set_option maxHeartbeats 4000000
namespace U
open PySem L2
open Evl (Ex)
abbrev s_is_integer : Stmt := top 11
abbrev sc_is_integer_N : List Str := ["thing"]
theorem sc_is_integer : FnScope sc_is_integer_N ["thing"] (defScope s_is_integer) := ⟨rfl, rfl, rfl, by decide +kernel, rfl, by decide +kernel, by decide +kernel⟩
abbrev s_is_label : Stmt := top 13
abbrev sc_is_label_N : List Str := ["thing"]
theorem sc_is_label : FnScope sc_is_label_N ["thing"] (defScope s_is_label) := ⟨rfl, rfl, rfl, by decide +kernel, rfl, by decide +kernel, by decide +kernel⟩
abbrev s_is_row : Stmt := top 14
abbrev sc_is_row_N : List Str := ["thing"]
theorem sc_is_row : FnScope sc_is_row_N ["thing"] (defScope s_is_row) := ⟨rfl, rfl, rfl, by decide +kernel, rfl, by decide +kernel, by decide +kernel⟩
abbrev s_is_row_of : Stmt := top 15
abbrev sc_is_row_of_N : List Str := ["thing", "many"]
theorem sc_is_row_of : FnScope sc_is_row_of_N ["thing", "many"] (defScope s_is_row_of) := ⟨rfl, rfl, rfl, by decide +kernel, rfl, by decide +kernel, by decide +kernel⟩
abbrev s_is_number_of_places : Stmt := top 18
abbrev sc_is_number_of_places_N : List Str := ["thing"]
theorem sc_is_number_of_places : FnScope sc_is_number_of_places_N ["thing"] (defScope s_is_number_of_places) := ⟨rfl, rfl, rfl, by decide +kernel, rfl, by decide +kernel, by decide +kernel⟩
abbrev s_is_point : Stmt := top 19
abbrev sc_is_point_N : List Str := ["thing", "places", "entry"]
theorem sc_is_point : FnScope sc_is_point_N ["thing", "places"] (defScope s_is_point) := ⟨rfl, rfl, rfl, by decide +kernel, rfl, by decide +kernel, by decide +kernel⟩
abbrev s_is_example : Stmt := top 20
abbrev sc_is_example_N : List Str := ["thing", "places"]
theorem sc_is_example : FnScope sc_is_example_N ["thing", "places"] (defScope s_is_example) := ⟨rfl, rfl, rfl, by decide +kernel, rfl, by decide +kernel, by decide +kernel⟩
abbrev s_copied_example : Stmt := top 21
abbrev sc_copied_example_N : List Str := ["example", "point", "label"]
theorem sc_copied_example : FnScope sc_copied_example_N ["example"] (defScope s_copied_example) := ⟨rfl, rfl, rfl, by decide +kernel, rfl, by decide +kernel, by decide +kernel⟩
def isI : PyData → Bool
  | .int _ => true
  | _ => false
def isL : PyData → Bool
  | .bool _ => true
  | _ => false
def isR : PyData → Bool
  | .list _ => true
  | .tuple _ => true
  | _ => false
def isN : PyData → Bool
  | .int i => decide (1 ≤ i) && decide (i ≤ 3)
  | _ => false
def isP (p : Int) : PyData → Bool
  | .list ds => decide ((ds.length : Int) = p) && ds.all isI
  | .tuple ds => decide ((ds.length : Int) = p) && ds.all isI
  | _ => false
def isO (p : Int) : PyData → Bool
  | .list ds => decide ((ds.length : Int) = p)
  | .tuple ds => decide ((ds.length : Int) = p)
  | _ => false
def isX (p : Int) : PyData → Bool
  | .list [a, b] => isP p a && isL b
  | .tuple [a, b] => isP p a && isL b
  | _ => false
/-- True or False of data, by f | of data and a number of places -/
def spB (K : PySem.W.Frag) (f : PyData → Bool) : Sp := fun vs H Q _ => ∃ v d, vs = [v] ∧ Dq K H v d ∧ ∀ H', Ex H H' → Q (.bl (f d)) H'
def spBp (K : PySem.W.Frag) (f : Int → PyData → Bool) : Sp := fun vs H Q _ => ∃ v d p, vs = [v, .int p] ∧ Dq K H v d ∧ (∃ n, fits n d) ∧ ∀ H', Ex H H' → Q (.bl (f p d)) H'
structure TxF (mg : Str → Option Value) : Prop extends TxB mg where
  m_range : mg "range" = none
  m_enumerate : mg "enumerate" = none
  c_LEAST_PLACES : ∃ t, mg "LEAST_PLACES" = some (.int 1 t)
  c_MOST_PLACES : ∃ t, mg "MOST_PLACES" = some (.int 3 t)
section
variable {P : Program} {w : World} {K : PySem.W.Frag} {mg : Str → Option Value} {base : Heap}
theorem isP_two {p : Int} {d : PyData} : (isO p d && isP p d) = isP p d := by
  have q : ∀ a b : Bool, (a && (a && b)) = (a && b) := by decide
  cases d with
  | list ds => exact q _ _
  | tuple ds => exact q _ _
  | _ => rfl
theorem isX_two {p : Int} {d : PyData} {ds : List PyData} (h : d = .list ds ∨ d = .tuple ds) : (isO 2 d && isX p d) = isX p d := by
  rcases h with rfl | rfl <;> (match ds with
    | [] => rfl
    | [_] => rfl
    | [_, _] => rfl
    | _ :: _ :: _ :: r =>
      show (_ && false) = false
      rw [Bool.and_false])
theorem ev_spB {σ : L2.St} {H : Hp} {te : TE} {v : V} {d : PyData} {f : PyData → Bool} (h : Evl.Ev te σ H v) (hd : Dp K H v d) : Evl.Ev (tCallD (spB K f) (tCons te tNil)) σ H (.bl (f d)) :=
  ev_callD (Evl.ea_cons h Evl.ea_nil) fun H1 e1 Q q => ⟨v, d, rfl, (hd.up e1).q, q⟩
theorem ev_spBp {σ : L2.St} {H : Hp} {te tp : TE} {v : V} {d : PyData} {f : Int → PyData → Bool} {p : Int} (h : Evl.Ev te σ H v) (hp : Evl.Ev tp σ H (.int p)) (hd : Dp K H v d) (hw : ∃ n, fits n d) : Evl.Ev (tCallD (spBp K f) (tCons te (tCons tp tNil))) σ H (.bl (f p d)) :=
  ev_callD (Evl.ea_cons h (Evl.ea_cons hp Evl.ea_nil)) fun H1 e1 Q q => ⟨v, d, p, rfl, (hd.up e1).q, hw, q⟩
theorem ev_spBq {σ : L2.St} {H : Hp} {te : TE} {v : V} {d : PyData} {f : PyData → Bool} (h : Evl.Ev te σ H v) (hd : Dq K H v d) : Evl.Ev (tCallD (spB K f) (tCons te tNil)) σ H (.bl (f d)) :=
  ev_callD (Evl.ea_cons h Evl.ea_nil) fun H1 e1 Q q => ⟨v, d, rfl, hd.up e1, q⟩
theorem ev_spBpq {σ : L2.St} {H : Hp} {te tp : TE} {v : V} {d : PyData} {f : Int → PyData → Bool} {p : Int} (h : Evl.Ev te σ H v) (hp : Evl.Ev tp σ H (.int p)) (hd : Dq K H v d) (hw : ∃ n, fits n d) : Evl.Ev (tCallD (spBp K f) (tCons te (tCons tp tNil))) σ H (.bl (f p d)) :=
  ev_callD (Evl.ea_cons h (Evl.ea_cons hp Evl.ea_nil)) fun H1 e1 Q q => ⟨v, d, p, rfl, hd.up e1, hw, q⟩
theorem ok_is_integer {f : Addr} {fd : FuncData} (F : Fun K "is_integer" "is_integer" s_is_integer f fd) (T : TxF mg) : FnOk P w K mg base CX0 1 f fd ["thing"] (spB K isI) := by
  refine F.ok sc_is_integer (fun vs H Q E h => ?_) (fun cdv A outer s H vs Q E hr h => ?_)
  · obtain ⟨_, _, rfl, _⟩ := h
    rfl
  · obtain ⟨v, d, rfl, hd, k⟩ := h
    refine ⟨_, (pss_one (ps_ret (pe_and (pe_callB call_isi (by rfl) T.m_isinstance (by decide +kernel) (pa_cons (pv 0) (pa_cons (pe_bltn (v := .ty "int") (by rfl) T.m_int (by decide +kernel) rfl) pa_nil))) (pe_one (pe_not (pe_callB call_isi (by rfl) T.m_isinstance (by decide +kernel) (pa_cons (pv 0) (pa_cons (pe_bltn (v := .ty "bool") (by rfl) T.m_bool (by decide +kernel) rfl) pa_nil)))))))), ?_⟩
    have v0 : Evl.Ev (tVar 0) (start sc_is_integer_N [v]) H v := Evl.ev_var rfl
    cases d with
    | none => exact Evl.s_ret (v := .bl false) (Evl.ev_andV (a := false) (b := false) (evq_isi v0 hd isi_NoneType_int) fun z => nomatch z) k
    | bool z => exact Evl.s_ret (v := .bl false) (Evl.ev_andV (a := true) (b := false) (evq_isi v0 hd isi_bool_int) fun _ => Evl.ev_notV (a := true) (evq_isi v0 hd isi_bool_bool)) k
    | int z => exact Evl.s_ret (v := .bl true) (Evl.ev_andV (a := true) (b := true) (evq_isi v0 hd isi_int_int) fun _ => Evl.ev_notV (a := false) (evq_isi v0 hd isi_int_bool)) k
    | str z' => exact Evl.s_ret (v := .bl false) (Evl.ev_andV (a := false) (b := false) (evq_isi v0 hd isi_str_int) fun z => nomatch z) k
    | list ds => exact Evl.s_ret (v := .bl false) (Evl.ev_andV (a := false) (b := false) (evq_isi v0 hd isi_list_int) fun z => nomatch z) k
    | tuple ds => exact Evl.s_ret (v := .bl false) (Evl.ev_andV (a := false) (b := false) (evq_isi v0 hd isi_tuple_int) fun z => nomatch z) k
    | dict z' => exact Evl.s_ret (v := .bl false) (Evl.ev_andV (a := false) (b := false) (evq_isi v0 hd isi_dict_int) fun z => nomatch z) k
theorem ok_is_label {f : Addr} {fd : FuncData} (F : Fun K "is_label" "is_label" s_is_label f fd) (T : TxF mg) : FnOk P w K mg base CX0 1 f fd ["thing"] (spB K isL) := by
  refine F.ok sc_is_label (fun vs H Q E h => ?_) (fun cdv A outer s H vs Q E hr h => ?_)
  · obtain ⟨_, _, rfl, _⟩ := h
    rfl
  · obtain ⟨v, d, rfl, hd, k⟩ := h
    refine ⟨_, (pss_one (ps_ret (pe_callB call_isi (by rfl) T.m_isinstance (by decide +kernel) (pa_cons (pv 0) (pa_cons (pe_bltn (v := .ty "bool") (by rfl) T.m_bool (by decide +kernel) rfl) pa_nil))))), ?_⟩
    have v0 : Evl.Ev (tVar 0) (start sc_is_label_N [v]) H v := Evl.ev_var rfl
    cases d with
    | none => exact Evl.s_ret (evq_isi v0 hd isi_NoneType_bool) k
    | bool z => exact Evl.s_ret (evq_isi v0 hd isi_bool_bool) k
    | int z => exact Evl.s_ret (evq_isi v0 hd isi_int_bool) k
    | str z => exact Evl.s_ret (evq_isi v0 hd isi_str_bool) k
    | list ds => exact Evl.s_ret (evq_isi v0 hd isi_list_bool) k
    | tuple ds => exact Evl.s_ret (evq_isi v0 hd isi_tuple_bool) k
    | dict z => exact Evl.s_ret (evq_isi v0 hd isi_dict_bool) k
theorem ok_is_row {f : Addr} {fd : FuncData} (F : Fun K "is_row" "is_row" s_is_row f fd) (T : TxF mg) : FnOk P w K mg base CX0 1 f fd ["thing"] (spB K isR) := by
  refine F.ok sc_is_row (fun vs H Q E h => ?_) (fun cdv A outer s H vs Q E hr h => ?_)
  · obtain ⟨_, _, rfl, _⟩ := h
    rfl
  · obtain ⟨v, d, rfl, hd, k⟩ := h
    refine ⟨_, (pss_one (ps_ret (pe_callB call_isiT (by rfl) T.m_isinstance (by decide +kernel) (pa_cons (pv 0) (pa_cons (pe_tup (pa_cons (pe_bltn (v := .ty "list") (by rfl) T.m_list (by decide +kernel) rfl) (pa_cons (pe_bltn (v := .ty "tuple") (by rfl) T.m_tuple (by decide +kernel) rfl) pa_nil))) pa_nil))))), ?_⟩
    have v0 : Evl.Ev (tVar 0) (start sc_is_row_N [v]) H v := Evl.ev_var rfl
    cases d with
    | none => exact Evl.s_ret (evq_isi2 v0 hd isi_NoneType_list_tuple) k
    | bool z => exact Evl.s_ret (evq_isi2 v0 hd isi_bool_list_tuple) k
    | int z => exact Evl.s_ret (evq_isi2 v0 hd isi_int_list_tuple) k
    | str z => exact Evl.s_ret (evq_isi2 v0 hd isi_str_list_tuple) k
    | list ds => exact Evl.s_ret (evq_isi2 v0 hd isi_list_list_tuple) k
    | tuple ds => exact Evl.s_ret (evq_isi2 v0 hd isi_tuple_list_tuple) k
    | dict z => exact Evl.s_ret (evq_isi2 v0 hd isi_dict_list_tuple) k
theorem ok_is_number_of_places {f : Addr} {fd : FuncData} (F : Fun K "is_number_of_places" "is_number_of_places" s_is_number_of_places f fd) (T : TxF mg) (D_is_integer : DefAt P w K mg base "is_integer" 1 ["thing"] (spB K isI)) : FnOk P w K mg base CX0 2 f fd ["thing"] (spB K isN) := by
  refine F.ok sc_is_number_of_places (fun vs H Q E h => ?_) (fun cdv A outer s H vs Q E hr h => ?_)
  · obtain ⟨_, _, rfl, _⟩ := h
    rfl
  · obtain ⟨v, d, rfl, hd, k⟩ := h
    refine ⟨_, (pss_one (ps_ret (pe_and (pe_callD D_is_integer (by first | exact hr | exact hr.mono (by decide) | exact hr.mono (by omega)) (by rfl) (pa_cons (pv 0) pa_nil)) (pe_one (pe_chain op_le op_le (pe_glob (v := .int 1) (by rfl) T.c_LEAST_PLACES.choose_spec (by exact ⟨_, rfl⟩)) (pv 0) (pe_glob (v := .int 3) (by rfl) T.c_MOST_PLACES.choose_spec (by exact ⟨_, rfl⟩))))))), ?_⟩
    have v0 : Evl.Ev (tVar 0) (start sc_is_number_of_places_N [v]) H v := Evl.ev_var rfl
    have e : isI d = true → ∃ i, d = .int i := fun z => by
      cases d <;> first | exact ⟨_, rfl⟩ | cases z
    have q : (isI d && isN d) = isN d := by
      cases d <;> rfl
    refine Evl.s_ret (v := .bl (isN d)) (Evl.ev_is (Evl.ev_andV (a := isI d) (b := isN d) (ev_spBq v0 hd) fun z => ?_) (congrArg V.bl q)) k
    obtain ⟨i, rfl⟩ := e z
    cases hd
    refine ev_chain (k := decide (1 ≤ i)) Evl.ev_c v0 (Evl.rv_I0 (g := fun a b => .bl (decide (a ≤ b)))) (fun _ => Evl.ev_c) (fun _ => ?_) (fun z => ?_)
    · have e : (isN (.int i)) = decide (i ≤ 3) := by
        show (decide (1 ≤ i) && decide (i ≤ 3)) = _
        rw [‹decide (1 ≤ i) = true›]
        rfl
      rw [e]
      exact Evl.rv_I0 (g := fun a b => .bl (decide (a ≤ b)))
    · show (decide (1 ≤ i) && decide (i ≤ 3)) = false
      rw [z]
      rfl
theorem ok_is_row_of {f : Addr} {fd : FuncData} (F : Fun K "is_row_of" "is_row_of" s_is_row_of f fd) (T : TxF mg) (D_is_row : DefAt P w K mg base "is_row" 1 ["thing"] (spB K isR)) : FnOk P w K mg base CX0 2 f fd ["thing", "many"] (spBp K isO) := by
  refine F.ok sc_is_row_of (fun vs H Q E h => ?_) (fun cdv A outer s H vs Q E hr h => ?_)
  · obtain ⟨_, _, _, rfl, _⟩ := h
    rfl
  · obtain ⟨v, d, p, rfl, hd, hw, k⟩ := h
    refine ⟨_, (pss_one (ps_ret (pe_and (pe_callD D_is_row (by first | exact hr | exact hr.mono (by decide) | exact hr.mono (by omega)) (by rfl) (pa_cons (pv 0) pa_nil)) (pe_one (pe_cmpR op_eq (pe_callB call_len_seq (by rfl) T.m_len (by decide +kernel) (pa_cons (pv 0) pa_nil)) (pv 1) (nomark _)))))), ?_⟩
    have v0 : Evl.Ev (tVar 0) (start sc_is_row_of_N [v, .int p]) H v := Evl.ev_var rfl
    have v1 : Evl.Ev (tVar 1) (start sc_is_row_of_N [v, .int p]) H (.int p) := Evl.ev_var rfl
    have q : (isR d && isO p d) = isO p d := by
      cases d <;> rfl
    refine Evl.s_ret (v := .bl (isO p d)) (Evl.ev_is (Evl.ev_andV (a := isR d) (b := isO p d) (ev_spBq v0 hd) fun z => ?_) (congrArg V.bl q)) k
    have main : ∀ (a : Addr) (xs : List V) (ds : List PyData), v = .ref a → (SqL K H a xs ∨ SqT K H a xs) → DqAll K H xs ds → Evl.Ev (tOp rEq (tCB (fun xs H Q => ∃ p ys, xs = [V.ref p] ∧ (SqL K H p ys ∨ SqT K H p ys) ∧ Q (.int ys.length) H) (tCons (tVar 0) tNil)) (tVar 1)) (start sc_is_row_of_N [v, .int p]) H (.bl (decide ((ds.length : Int) = p))) := by
      rintro a xs ds rfl hx ha
      have hlen := dqa_len ha
      refine Evl.ev_is (Evl.ev_op (ev_lenS v0 hx) v1 (Evl.rv_eq rfl)) ?_
      rw [hlen]
      exact congrArg V.bl (by simp)
    cases d with
    | list ds =>
      cases hd with
      | lst hs ha => exact main _ _ ds rfl (.inl hs) ha
    | tuple ds =>
      cases hd with
      | tup hs ha => exact main _ _ ds rfl (.inr hs) ha
    | _ => cases z
theorem ok_is_point {f : Addr} {fd : FuncData} (F : Fun K "is_point" "is_point" s_is_point f fd) (T : TxF mg) (D_is_integer : DefAt P w K mg base "is_integer" 1 ["thing"] (spB K isI)) (D_is_row_of : DefAt P w K mg base "is_row_of" 2 ["thing", "many"] (spBp K isO)) : FnOk P w K mg base CX0 3 f fd ["thing", "places"] (spBp K isP) := by
  refine F.ok sc_is_point (fun vs H Q E h => ?_) (fun cdv A outer s H vs Q E hr h => ?_)
  · obtain ⟨_, _, _, rfl, _⟩ := h
    rfl
  · obtain ⟨v, d, p, rfl, hd, hw, k⟩ := h
    refine ⟨_, (pss_one (ps_ret (pe_and (pe_callD D_is_row_of (by first | exact hr | exact hr.mono (by decide) | exact hr.mono (by omega)) (by rfl) (pa_cons (pv 0) (pa_cons (pv 1) pa_nil))) (pe_one (pe_callB (cr_all rfl) (by rfl) T.m_all (by decide +kernel) (pa_cons (pe_lc (own := [("entry", 2)]) (g := gName 2) (tt := tYes) (by rfl) sc_is_point.nd (pi_seq (pv 0)) (blkOk_by (N := sc_is_point_N) (sc := defScope s_is_point) (by decide +kernel)) (fun _ _ _ _ _ => (pg_name (i := 2) sc_is_point.nd rfl (by first | exact Or.inl rfl | exact Or.inr rfl))) (fun _ _ _ _ _ => pts_nil) (fun _ _ _ _ _ => (pe_callD D_is_integer (by first | exact hr | exact hr.mono (by decide) | exact hr.mono (by omega)) (by rfl) (pa_cons (pv 2) pa_nil)))) pa_nil)))))), ?_⟩
    have v0 : Evl.Ev (tVar 0) (start sc_is_point_N [v, .int p]) H v := Evl.ev_var rfl
    have v1 : Evl.Ev (tVar 1) (start sc_is_point_N [v, .int p]) H (.int p) := Evl.ev_var rfl
    have q : (isO p d && isP p d) = isP p d := by
      exact isP_two
    refine Evl.s_ret (v := .bl (isP p d)) (Evl.ev_is (Evl.ev_andV (a := isO p d) (b := isP p d) (ev_spBpq v0 v1 hd hw) fun z => ?_) (congrArg V.bl q)) k
    have main : ∀ (a : Addr) (xs : List V) (ds : List PyData), v = .ref a → (SqL K H a xs ∨ SqT K H a xs) → DqAll K H xs ds → ds.length ≤ 40000 → (ds.length : Int) = p → Evl.Ev (tCB (rAll K) (tCons (tLc (iSeq K (tVar 0)) (gName 2) tYes (tCallD (spB K isI) (tCons (tVar 2) tNil)) [2]) tNil)) (start sc_is_point_N [v, .int p]) H (.bl (decide ((ds.length : Int) = p) && ds.all isI)) := by
      rintro a xs ds rfl hx ha hz he
      refine Evl.ev_is (ev_all (bs := ds.map isI) ?_) (congrArg V.bl (by simp [he]))
      exact el_seqBq v0 hx ha hz (fun _ => rfl) (fun x d H1 _ e1 hd' => ev_spBq (Evl.ev_var rfl) hd')
    cases d with
    | list ds =>
      cases hd with
      | lst hs ha => exact main _ _ ds rfl (.inl hs) ha (fits_len (.inl hw)) (of_decide_eq_true z)
    | tuple ds =>
      cases hd with
      | tup hs ha => exact main _ _ ds rfl (.inr hs) ha (fits_len (.inr hw)) (of_decide_eq_true z)
    | _ => cases z
theorem ok_is_example {f : Addr} {fd : FuncData} (F : Fun K "is_example" "is_example" s_is_example f fd) (T : TxF mg) (D_is_row_of : DefAt P w K mg base "is_row_of" 2 ["thing", "many"] (spBp K isO)) (D_is_point : DefAt P w K mg base "is_point" 3 ["thing", "places"] (spBp K isP)) (D_is_label : DefAt P w K mg base "is_label" 1 ["thing"] (spB K isL)) : FnOk P w K mg base CX0 4 f fd ["thing", "places"] (spBp K isX) := by
  refine F.ok sc_is_example (fun vs H Q E h => ?_) (fun cdv A outer s H vs Q E hr h => ?_)
  · obtain ⟨_, _, _, rfl, _⟩ := h
    rfl
  · obtain ⟨v, d, p, rfl, hd, hw, k⟩ := h
    refine ⟨_, (pss_one (ps_ret (pe_and (pe_callD D_is_row_of (by first | exact hr | exact hr.mono (by decide) | exact hr.mono (by omega)) (by rfl) (pa_cons (pv 0) (pa_cons pe_int pa_nil))) (pe_and (pe_callD D_is_point (by first | exact hr | exact hr.mono (by decide) | exact hr.mono (by omega)) (by rfl) (pa_cons (pe_ix ix_seq (pv 0) pe_int (fun _ _ => rfl)) (pa_cons (pv 1) pa_nil))) (pe_one (pe_callD D_is_label (by first | exact hr | exact hr.mono (by decide) | exact hr.mono (by omega)) (by rfl) (pa_cons (pe_ix ix_seq (pv 0) pe_int (fun _ _ => rfl)) pa_nil))))))), ?_⟩
    have v0 : Evl.Ev (tVar 0) (start sc_is_example_N [v, .int p]) H v := Evl.ev_var rfl
    have v1 : Evl.Ev (tVar 1) (start sc_is_example_N [v, .int p]) H (.int p) := Evl.ev_var rfl
    have q : (isO 2 d && isX p d) = isX p d := by
      cases d with
      | list ds => exact isX_two (.inl rfl)
      | tuple ds => exact isX_two (.inr rfl)
      | _ => rfl
    refine Evl.s_ret (v := .bl (isX p d)) (Evl.ev_is (Evl.ev_andV (a := isO 2 d) (b := isX p d) (ev_spBpq v0 Evl.ev_c hd hw) fun z => ?_) (congrArg V.bl q)) k
    have main : ∀ (a : Addr) (xs : List V) (ds : List PyData), v = .ref a → (SqL K H a xs ∨ SqT K H a xs) → DqAll K H xs ds → ds.length = 2 → (∀ a b, ds = [a, b] → isX p d = (isP p a && isL b)) → (∀ a b, ds = [a, b] → ∃ n, fits n a) →
        Evl.Ev (tAndV (tCallD (spBp K isP) (tCons (tOp (rIxA K) (tVar 0) (tC (.int 0))) (tCons (tVar 1) tNil))) (tCallD (spB K isL) (tCons (tOp (rIxA K) (tVar 0) (tC (.int 1))) tNil))) (start sc_is_example_N [v, .int p]) H (.bl (isX p d)) := by
      rintro a xs ds rfl hx ha h2 q2 qw
      obtain ⟨d1, d2, e⟩ : ∃ d1 d2, ds = [d1, d2] := by
        match ds, h2 with
        | [a, b], _ => exact ⟨a, b, rfl⟩
      subst e
      cases ha with
      | @cons x1 _ _ _ g1 hr =>
        cases hr with
        | @cons x2 _ _ _ g2 hr2 =>
          cases hr2
          have i0 : atI [x1, x2] 0 = some x1 := rfl
          have i1 : atI [x1, x2] 1 = some x2 := rfl
          rw [q2 d1 d2 rfl]
          exact Evl.ev_andV (ev_spBpq (ev_ixA v0 hx i0) v1 g1 (qw d1 d2 rfl)) fun _ => ev_spBq (ev_ixA v0 hx i1) g2
    cases d with
    | list ds =>
      have h2 : ds.length = 2 := by have := of_decide_eq_true z; omega
      cases hd with
      | lst hs ha => exact main _ _ ds rfl (.inl hs) ha h2 (fun a b e => by rw [e]; rfl) (fun a b e => fits_in (.inl hw) (by rw [e]; simp))
    | tuple ds =>
      have h2 : ds.length = 2 := by have := of_decide_eq_true z; omega
      cases hd with
      | tup hs ha => exact main _ _ ds rfl (.inr hs) ha h2 (fun a b e => by rw [e]; rfl) (fun a b e => fits_in (.inr hw) (by rw [e]; simp))
    | _ => cases z
/-- a row: some whole numbers and a label -/
def rowD (ns : List Int) (b : Bool) : PyData := .tuple [.tuple (ns.map .int), .bool b]
def Rw (p : Int) (d : PyData) : Prop := ∃ ns b, d = rowD ns b ∧ (ns.length : Int) = p ∧ ns.length ≤ 3
theorem rw_isX {p : Int} {d : PyData} (h : Rw p d) : isX p d = true := by
  obtain ⟨ns, b, rfl, h1, h2⟩ := h
  show (decide (((ns.map PyData.int).length : Int) = p) && (ns.map PyData.int).all isI && true) = true
  rw [List.length_map, h1]
  simp [isI]
theorem rw_fits {p : Int} {d : PyData} (h : Rw p d) : fits 2 d := by
  obtain ⟨ns, b, rfl, h1, h2⟩ := h
  refine ⟨by show 2 ≤ 40000; omega, fun e he => ?_⟩
  rcases List.mem_cons.mp he with z | z
  · subst z
    refine ⟨by rw [List.length_map]; omega, fun e he => ?_⟩
    obtain ⟨i, _, rfl⟩ := List.mem_map.mp he
    trivial
  · rcases List.mem_cons.mp z with z | z
    · subst z
      trivial
    · cases z
def spCopy (K : PySem.W.Frag) : Sp := fun vs H Q _ => ∃ v p d L, vs = [v] ∧ Hid L H ∧ Dp K (W L H) v d ∧ Rw p d ∧ ∀ v' H', Ex H H' → Dp K (W L H') v' d → Q v' H'
theorem ok_copied_example {f : Addr} {fd : FuncData} (F : Fun K "copied_example" "copied_example" s_copied_example f fd) (T : TxF mg) : FnOk P w K mg base CX0 1 f fd ["example"] (spCopy K) := by
  refine F.ok sc_copied_example (fun vs H Q E h => ?_) (fun cdv A outer s H vs Q E hr h => ?_)
  · obtain ⟨_, _, _, _, rfl, _⟩ := h
    rfl
  · obtain ⟨v, p, d, L, rfl, hL, hd, hrw, k⟩ := h
    refine ⟨_, (pss_cons (ps_asg (pv 0) (pg_tup (by rfl) (pgs_cons (pg_name (i := 1) sc_copied_example.nd rfl (by first | exact Or.inl rfl | exact Or.inr rfl)) (pgs_cons (pg_name (i := 2) sc_copied_example.nd rfl (by first | exact Or.inl rfl | exact Or.inr rfl)) pgs_nil))))
    (pss_one (ps_ret (pe_tup (pa_cons (pe_callTy call_tuple_of (by rfl) T.m_tuple (by decide +kernel) (pa_cons (pv 1) pa_nil)) (pa_cons (pv 2) pa_nil)))))), ?_⟩
    obtain ⟨ns, b, rfl, h1, h2⟩ := hrw
    cases hd with
    | @tup a ys _ hs ha =>
      cases ha with
      | @cons x1 us1 _ _ r1 rr =>
        cases rr with
        | @cons x2 us2 _ _ r2 rr2 =>
          cases rr2
          refine ⟨_, rfl, a, [x1, x2], rfl, Evl.ex_t w_sub hs, rfl, x1, [x2], rfl, x2, [], rfl, rfl, ?_⟩
          refine d_ret (K := K) (L := L) (d := rowD ns b) (evd_tup hL (evds_cons (evd_tupD (ds := ns.map .int) (Evl.ev_var rfl) (.inr r1) hL) (evds_cons (evd_var rfl r2) evds_nil)) (by show 2 ≤ 100000; omega)) (fun v' H' e hv => k v' H' e hv)
end
end U
set_option Elab.async false
set_option linter.all false
set_option maxRecDepth 100000
set_option maxHeartbeats 2000000
namespace U
open PySem L2
/-- kinds of rules -/
inductive Kd where
  | halves (p : Int)
  | boxes (p : Int)
  | rising (p : Int)
  | flats (p : Int)
  | turns (m : Int)
  | no (k : Kd)
  | both (k m : Kd)
  | either (k m : Kd)
  | any (k m : Kd)
  deriving DecidableEq
def kdD : Kd → PyData
  | .halves p => .tuple [.str "halves", .int p]
  | .boxes p => .tuple [.str "boxes", .int p]
  | .rising p => .tuple [.str "rising", .int p]
  | .flats p => .tuple [.str "flats", .int p]
  | .turns m => .tuple [.str "turns", .int m]
  | .no k => .tuple [.str "not", kdD k]
  | .both k m => .tuple [.str "both", kdD k, kdD m]
  | .either k m => .tuple [.str "either", kdD k, kdD m]
  | .any k m => .tuple [.str "any", kdD k, kdD m]
def okK (p : Int) : Kd → Prop
  | .halves q => q = p
  | .boxes q => q = p
  | .rising q => q = p
  | .flats q => q = p
  | .turns m => p = 1 ∧ 0 ≤ m ∧ m ≤ 3
  | .no k => okK p k
  | .both k m => okK p k ∧ okK p m
  | .either k m => okK p k ∧ okK p m
  | .any k m => okK p k ∧ okK p m
def depK : Kd → Nat
  | .no k => depK k + 1
  | .both k m => max (depK k) (depK m) + 1
  | .either k m => max (depK k) (depK m) + 1
  | .any k m => max (depK k) (depK m) + 1
  | _ => 0
end U
set_option Elab.async false
set_option linter.all false
set_option maxRecDepth 100000
set_option maxHeartbeats 4000000
/-! operators of two own classes, ~ of an own one, one rule of several -/
namespace UO
open PySem PySem.W PySem.Calls PyProof.Rows
section
variable {prog : Program} {w : World} {A : Around} {E : Value → Shared → Prop} {s : Shared} {K : Frag} {x C1 C2 L f g : Addr} {h₀ : Heap} {m : Str → Option Value} {ox : Obj} {od : Option Obj} {op : Operator} {b : Value} {Q : Value → Shared → Prop}
theorem binop2 (F : Fr h₀ L s.heap m) (X₀ : K.In h₀) (I : InstAt s.heap x ox C1 od) (hb : Looks (model prog w) s.heap (typeOf b) (.ref C2)) (ne : C1 ≠ C2) (c1 : selfFirst K C1 = true) (c2 : selfFirst K C2 = true)
    (s1 : findIn K (.ref C1) (PySem.dunder op.info.2) = some (some (.ref f))) (f1 : isFn K (.ref f) = true) (s2 : findIn K (.ref C2) (PySem.dunder op.info.2) = some (some (.ref g))) (r1 : findIn K (.ref C1) (dunderR op.info.2) = some none) (r2 : findIn K (.ref C2) (dunderR op.info.2) = some none)
    (hsub : subIn K (.ref C2) (.ref C1) = some false) (h : wpAny (model prog w) A (call (.ref f) [.ref x, b]) (PySem.W.CmpBack Q) E s) : wpAny (model prog w) A (binaryOp op (.ref x) b) Q E s := by
  have X := X₀.keeps F.keep
  obtain ⟨d1, t1, e1, m1⟩ := ksp_first c1
  obtain ⟨d2, t2, e2, m2⟩ := ksp_first c2
  rcases hi : op.info with ⟨sym, nm⟩
  rw [hi] at s1 s2 r1 r2
  dsimp only at s1 s2 r1 r2
  have one := ksp_try X I s1 f1 h
  obtain ⟨hh, g1, d, tt, os⟩ := s
  have T1 : Looks (model prog w) hh (typeOf (.ref x)) (.ref C1) := I.type
  have T2 : Looks (model prog w) hh (typeOf b) (.ref C2) := hb
  have N1 : Looks (model prog w) hh (fillsNumberSlot (.ref C1) nm) true := fills_K X e1 m1 s1
  have N2 : Looks (model prog w) hh (fillsNumberSlot (.ref C2) nm) true := fills_K X e2 m2 s2
  have S1 : Looks (model prog w) hh (isSubtype (.ref C2) (.ref C1)) false := looks_subIn X hsub
  have P1 : Looks (model prog w) hh (numberSlotInPython (.ref C1) nm) true := ksp_inPy X s1 r1 (.inl rfl)
  have P2 : Looks (model prog w) hh (numberSlotInPython (.ref C2) nm) true := ksp_inPy X s2 r2 (.inl rfl)
  have hne : (Value.ref C1 == Value.ref C2) = false := Bool.eq_false_iff.mpr fun q => ne (by cases beq_iff_eq.mp q; rfl)
  simp only [binaryOp, hi]
  refine wpAny_holding (wpAny_bind ?_)
  unfold binaryOp1
  refine wpAny_bind (T1.at (wpAny_bind (T2.at (wpAny_bind (N1.at ?_)))))
  simp only [hne, Bool.false_eq_true, if_false]
  ksp_lk
  refine wpAny_mono one (fun r s' hr' => ?_) fun _ _ e => e
  obtain ⟨v, rfl, hq⟩ := hr'
  ksp_lk
  exact hq
end
end UO
namespace U
open PySem PySem.Spec PyProof.Rows L2
open Evl (Ex)
section
variable {X : Cx} {e a b : Expr} {ta tb : TE} {n : Nat} {pos : Pos} {op : Operator} {sp : Sp} {C C1 C2 f g : Addr} {fd : FuncData} {ps : List Str}
/-- one of several readings -/
def tAny {ι : Type} (P : ι → Prop) (t : ι → TE) : TE := fun σ H Q => ∃ i, P i ∧ t i σ H Q
theorem pe_any {ι : Type} {P : ι → Prop} {t : ι → TE} (h : ∀ i, P i → PE X e (t i)) : PE X e (tAny P t) := ⟨fun pins s σ H Q I ⟨i, hi, q⟩ => (h i hi).run pins s σ H Q I q⟩
/-- one op other of instances of two classes -/
def tOwn2 (C1 C2 : Addr) (sp : Sp) (ta tb : TE) : TE := fun σ H Q => ta σ H fun x H1 => tb σ H1 fun y H2 => ∃ a b dx dy fs gs, x = .ref a ∧ y = .ref b ∧ H2 a = some (.ins C1 dx fs) ∧ H2 b = some (.ins C2 dy gs) ∧
  sp [.ref a, .ref b] H2 (fun v H' => ∃ r, v = .ref r ∧ Q (.ref r) H') E0
structure OpC (K : PySem.W.Frag) (C : Addr) (nm : Str) (nr : Str) (f : Addr) : Prop where
  sf : PySem.W.selfFirst K C = true
  hs : PySem.W.findIn K (.ref C) nm = some (some (.ref f))
  hf : PySem.W.isFn K (.ref f) = true
  hr : PySem.W.findIn K (.ref C) nr = some none
theorem pe_own2 (F : FnOk X.prog X.w X.K X.mg X.base CX0 n f fd ps sp) (hr : Room n X.A) (o1 : OpC X.K C1 (PySem.dunder op.info.2) (dunderR op.info.2) f) (o2 : OpC X.K C2 (PySem.dunder op.info.2) (dunderR op.info.2) g) (hsub : C1 = C2 ∨ PySem.W.subIn X.K (.ref C2) (.ref C1) = some false)
    (hb : Binds X.K fd ps []) (ha : PE X a ta) (hb2 : PE X b tb) : PE X (.BinOp a op b pos) (tOwn2 C1 C2 sp ta tb) := by
  refine ⟨fun pins s σ H Q I h => wpAny_BinOp (binT (R := fun x y H2 => ∃ a b dx dy fs gs, x = .ref a ∧ y = .ref b ∧ H2 a = some (.ins C1 dx fs) ∧ H2 b = some (.ins C2 dy gs) ∧ sp [.ref a, .ref b] H2 (fun v H' => ∃ r, v = .ref r ∧ Q (.ref r) H') E0) ha hb2 I h fun v u s2 x y H2 I2 rx ry q => ?_)⟩
  obtain ⟨p, r, dx, dy, fs, gs, rfl, rfl, hp, hr2, hsp⟩ := q
  cases rx
  cases ry
  obtain ⟨mA, J, _⟩ := ins_get I2.hok hp
  obtain ⟨mB, J', _⟩ := ins_get I2.hok hr2
  obtain ⟨od, J, _⟩ := J.look
  obtain ⟨od', J', _⟩ := J'.look
  obtain ⟨m, hF⟩ := I2.fr
  have r2 : Vals [V.ref p, V.ref r] [Value.ref p, Value.ref r] := .cons rfl (.cons rfl .nil)
  have run : wpAny (model X.prog X.w) X.A (call (.ref f) [Value.ref p, .ref r]) (PySem.W.CmpBack (EP X pins σ Q)) X.xe s2 := by
    refine wpAny_mono (run_fn F hr hb .nil pass0 I2 r2 hsp) (fun r s' z => ?_) fun _ _ x => x
    obtain ⟨v, H', I', rv, t, rfl, q⟩ := z
    cases rv
    exact ⟨V.ref t, H', I', rfl, q⟩
  by_cases e : C1 = C2
  · subst e
    exact PySem.W.binop_K (C := C1) hF I2.ok.mod.kin J J'.type o1.sf o1.hs o1.hf run
  · exact UO.binop2 hF I2.ok.mod.kin J J'.type e o1.sf o2.sf o1.hs o1.hf o2.hs o1.hr o2.hr (hsub.resolve_left e) run
/-- ~x of an instance -/
def tInv (C : Addr) (sp : Sp) (ta : TE) : TE := fun σ H Q => ta σ H fun x H1 => ∃ a dx fs, x = .ref a ∧ H1 a = some (.ins C dx fs) ∧ sp [.ref a] H1 Q E0
theorem pe_inv (F : FnOk X.prog X.w X.K X.mg X.base CX0 n f fd ps sp) (hr : Room n X.A) (hs : PySem.W.findIn X.K (.ref C) "__invert__" = some (some (.ref f))) (hf : PySem.W.isFn X.K (.ref f) = true) (hb : Binds X.K fd ps []) (ha : PE X a ta) : PE X (.UnaryOp .Invert a pos) (tInv C sp ta) := by
  refine ⟨fun pins s σ H Q I h => ?_⟩
  refine wpAny_UnaryOp (thn (ha.run pins s σ H _ I h) fun v s1 ⟨x, H1, I1, r1, q1⟩ => ?_)
  obtain ⟨p, dx, fs, rfl, hp, hsp⟩ := q1
  cases r1
  obtain ⟨mA, J, _⟩ := ins_get I1.hok hp
  obtain ⟨od, J, _⟩ := J.look
  obtain ⟨m, hF⟩ := I1.fr
  refine PySem.W.ksp_inv hF I1.ok.mod.kin J hs hf ?_
  exact run_fn F hr hb .nil pass0 I1 (show Vals [V.ref p] [Value.ref p] from .cons rfl .nil) hsp
end
end U
set_option Elab.async false
set_option linter.all false
set_option maxRecDepth 100000
set_option maxHeartbeats 4000000
/-! kinds as instances -/
namespace U
open PySem PySem.Spec PyProof.Rows L2
open Evl (Ex)
open C8 (Met Mak pe_mt pe_mt0 pe_mk)
abbrev s_check_number_of_places : Stmt := top 45
abbrev sc_check_number_of_places_N : List Str := ["places"]
theorem sc_check_number_of_places : FnScope sc_check_number_of_places_N ["places"] (defScope s_check_number_of_places) := ⟨rfl, rfl, rfl, by decide +kernel, rfl, by decide +kernel, by decide +kernel⟩
abbrev s_Halves_init : Stmt := inClass (top 38) 0
abbrev sc_Halves_init_N : List Str := ["self", "places"]
theorem sc_Halves_init : FnScope sc_Halves_init_N ["self", "places"] (defScope s_Halves_init) := ⟨rfl, rfl, rfl, by decide +kernel, rfl, by decide +kernel, by decide +kernel⟩
abbrev s_Halves_invert : Stmt := inClass (top 38) 7
abbrev sc_Halves_invert_N : List Str := ["self"]
theorem sc_Halves_invert : FnScope sc_Halves_invert_N ["self"] (defScope s_Halves_invert) := ⟨rfl, rfl, rfl, by decide +kernel, rfl, by decide +kernel, by decide +kernel⟩
abbrev s_Halves_and : Stmt := inClass (top 38) 8
abbrev sc_Halves_and_N : List Str := ["self", "other"]
theorem sc_Halves_and : FnScope sc_Halves_and_N ["self", "other"] (defScope s_Halves_and) := ⟨rfl, rfl, rfl, by decide +kernel, rfl, by decide +kernel, by decide +kernel⟩
abbrev s_Halves_or : Stmt := inClass (top 38) 9
abbrev sc_Halves_or_N : List Str := ["self", "other"]
theorem sc_Halves_or : FnScope sc_Halves_or_N ["self", "other"] (defScope s_Halves_or) := ⟨rfl, rfl, rfl, by decide +kernel, rfl, by decide +kernel, by decide +kernel⟩
abbrev s_Halves_add : Stmt := inClass (top 38) 10
abbrev sc_Halves_add_N : List Str := ["self", "other"]
theorem sc_Halves_add : FnScope sc_Halves_add_N ["self", "other"] (defScope s_Halves_add) := ⟨rfl, rfl, rfl, by decide +kernel, rfl, by decide +kernel, by decide +kernel⟩
abbrev s_Boxes_init : Stmt := inClass (top 39) 0
abbrev sc_Boxes_init_N : List Str := ["self", "places"]
theorem sc_Boxes_init : FnScope sc_Boxes_init_N ["self", "places"] (defScope s_Boxes_init) := ⟨rfl, rfl, rfl, by decide +kernel, rfl, by decide +kernel, by decide +kernel⟩
abbrev s_Boxes_invert : Stmt := inClass (top 39) 7
abbrev sc_Boxes_invert_N : List Str := ["self"]
theorem sc_Boxes_invert : FnScope sc_Boxes_invert_N ["self"] (defScope s_Boxes_invert) := ⟨rfl, rfl, rfl, by decide +kernel, rfl, by decide +kernel, by decide +kernel⟩
abbrev s_Boxes_and : Stmt := inClass (top 39) 8
abbrev sc_Boxes_and_N : List Str := ["self", "other"]
theorem sc_Boxes_and : FnScope sc_Boxes_and_N ["self", "other"] (defScope s_Boxes_and) := ⟨rfl, rfl, rfl, by decide +kernel, rfl, by decide +kernel, by decide +kernel⟩
abbrev s_Boxes_or : Stmt := inClass (top 39) 9
abbrev sc_Boxes_or_N : List Str := ["self", "other"]
theorem sc_Boxes_or : FnScope sc_Boxes_or_N ["self", "other"] (defScope s_Boxes_or) := ⟨rfl, rfl, rfl, by decide +kernel, rfl, by decide +kernel, by decide +kernel⟩
abbrev s_Boxes_add : Stmt := inClass (top 39) 10
abbrev sc_Boxes_add_N : List Str := ["self", "other"]
theorem sc_Boxes_add : FnScope sc_Boxes_add_N ["self", "other"] (defScope s_Boxes_add) := ⟨rfl, rfl, rfl, by decide +kernel, rfl, by decide +kernel, by decide +kernel⟩
abbrev s_Rising_init : Stmt := inClass (top 40) 0
abbrev sc_Rising_init_N : List Str := ["self", "places"]
theorem sc_Rising_init : FnScope sc_Rising_init_N ["self", "places"] (defScope s_Rising_init) := ⟨rfl, rfl, rfl, by decide +kernel, rfl, by decide +kernel, by decide +kernel⟩
abbrev s_Rising_invert : Stmt := inClass (top 40) 7
abbrev sc_Rising_invert_N : List Str := ["self"]
theorem sc_Rising_invert : FnScope sc_Rising_invert_N ["self"] (defScope s_Rising_invert) := ⟨rfl, rfl, rfl, by decide +kernel, rfl, by decide +kernel, by decide +kernel⟩
abbrev s_Rising_and : Stmt := inClass (top 40) 8
abbrev sc_Rising_and_N : List Str := ["self", "other"]
theorem sc_Rising_and : FnScope sc_Rising_and_N ["self", "other"] (defScope s_Rising_and) := ⟨rfl, rfl, rfl, by decide +kernel, rfl, by decide +kernel, by decide +kernel⟩
abbrev s_Rising_or : Stmt := inClass (top 40) 9
abbrev sc_Rising_or_N : List Str := ["self", "other"]
theorem sc_Rising_or : FnScope sc_Rising_or_N ["self", "other"] (defScope s_Rising_or) := ⟨rfl, rfl, rfl, by decide +kernel, rfl, by decide +kernel, by decide +kernel⟩
abbrev s_Rising_add : Stmt := inClass (top 40) 10
abbrev sc_Rising_add_N : List Str := ["self", "other"]
theorem sc_Rising_add : FnScope sc_Rising_add_N ["self", "other"] (defScope s_Rising_add) := ⟨rfl, rfl, rfl, by decide +kernel, rfl, by decide +kernel, by decide +kernel⟩
abbrev s_Flats_init : Stmt := inClass (top 41) 0
abbrev sc_Flats_init_N : List Str := ["self", "places"]
theorem sc_Flats_init : FnScope sc_Flats_init_N ["self", "places"] (defScope s_Flats_init) := ⟨rfl, rfl, rfl, by decide +kernel, rfl, by decide +kernel, by decide +kernel⟩
abbrev s_Flats_invert : Stmt := inClass (top 41) 7
abbrev sc_Flats_invert_N : List Str := ["self"]
theorem sc_Flats_invert : FnScope sc_Flats_invert_N ["self"] (defScope s_Flats_invert) := ⟨rfl, rfl, rfl, by decide +kernel, rfl, by decide +kernel, by decide +kernel⟩
abbrev s_Flats_and : Stmt := inClass (top 41) 8
abbrev sc_Flats_and_N : List Str := ["self", "other"]
theorem sc_Flats_and : FnScope sc_Flats_and_N ["self", "other"] (defScope s_Flats_and) := ⟨rfl, rfl, rfl, by decide +kernel, rfl, by decide +kernel, by decide +kernel⟩
abbrev s_Flats_or : Stmt := inClass (top 41) 9
abbrev sc_Flats_or_N : List Str := ["self", "other"]
theorem sc_Flats_or : FnScope sc_Flats_or_N ["self", "other"] (defScope s_Flats_or) := ⟨rfl, rfl, rfl, by decide +kernel, rfl, by decide +kernel, by decide +kernel⟩
abbrev s_Flats_add : Stmt := inClass (top 41) 10
abbrev sc_Flats_add_N : List Str := ["self", "other"]
theorem sc_Flats_add : FnScope sc_Flats_add_N ["self", "other"] (defScope s_Flats_add) := ⟨rfl, rfl, rfl, by decide +kernel, rfl, by decide +kernel, by decide +kernel⟩
abbrev s_Turns_init : Stmt := inClass (top 42) 0
abbrev sc_Turns_init_N : List Str := ["self", "most"]
theorem sc_Turns_init : FnScope sc_Turns_init_N ["self", "most"] (defScope s_Turns_init) := ⟨rfl, rfl, rfl, by decide +kernel, rfl, by decide +kernel, by decide +kernel⟩
abbrev s_Turns_invert : Stmt := inClass (top 42) 7
abbrev sc_Turns_invert_N : List Str := ["self"]
theorem sc_Turns_invert : FnScope sc_Turns_invert_N ["self"] (defScope s_Turns_invert) := ⟨rfl, rfl, rfl, by decide +kernel, rfl, by decide +kernel, by decide +kernel⟩
abbrev s_Turns_and : Stmt := inClass (top 42) 8
abbrev sc_Turns_and_N : List Str := ["self", "other"]
theorem sc_Turns_and : FnScope sc_Turns_and_N ["self", "other"] (defScope s_Turns_and) := ⟨rfl, rfl, rfl, by decide +kernel, rfl, by decide +kernel, by decide +kernel⟩
abbrev s_Turns_or : Stmt := inClass (top 42) 9
abbrev sc_Turns_or_N : List Str := ["self", "other"]
theorem sc_Turns_or : FnScope sc_Turns_or_N ["self", "other"] (defScope s_Turns_or) := ⟨rfl, rfl, rfl, by decide +kernel, rfl, by decide +kernel, by decide +kernel⟩
abbrev s_Turns_add : Stmt := inClass (top 42) 10
abbrev sc_Turns_add_N : List Str := ["self", "other"]
theorem sc_Turns_add : FnScope sc_Turns_add_N ["self", "other"] (defScope s_Turns_add) := ⟨rfl, rfl, rfl, by decide +kernel, rfl, by decide +kernel, by decide +kernel⟩
abbrev s_Contrary_init : Stmt := inClass (top 43) 0
abbrev sc_Contrary_init_N : List Str := ["self", "kind"]
theorem sc_Contrary_init : FnScope sc_Contrary_init_N ["self", "kind"] (defScope s_Contrary_init) := ⟨rfl, rfl, rfl, by decide +kernel, rfl, by decide +kernel, by decide +kernel⟩
abbrev s_Contrary_invert : Stmt := inClass (top 43) 4
abbrev sc_Contrary_invert_N : List Str := ["self"]
theorem sc_Contrary_invert : FnScope sc_Contrary_invert_N ["self"] (defScope s_Contrary_invert) := ⟨rfl, rfl, rfl, by decide +kernel, rfl, by decide +kernel, by decide +kernel⟩
abbrev s_Contrary_and : Stmt := inClass (top 43) 5
abbrev sc_Contrary_and_N : List Str := ["self", "other"]
theorem sc_Contrary_and : FnScope sc_Contrary_and_N ["self", "other"] (defScope s_Contrary_and) := ⟨rfl, rfl, rfl, by decide +kernel, rfl, by decide +kernel, by decide +kernel⟩
abbrev s_Contrary_or : Stmt := inClass (top 43) 6
abbrev sc_Contrary_or_N : List Str := ["self", "other"]
theorem sc_Contrary_or : FnScope sc_Contrary_or_N ["self", "other"] (defScope s_Contrary_or) := ⟨rfl, rfl, rfl, by decide +kernel, rfl, by decide +kernel, by decide +kernel⟩
abbrev s_Contrary_add : Stmt := inClass (top 43) 7
abbrev sc_Contrary_add_N : List Str := ["self", "other"]
theorem sc_Contrary_add : FnScope sc_Contrary_add_N ["self", "other"] (defScope s_Contrary_add) := ⟨rfl, rfl, rfl, by decide +kernel, rfl, by decide +kernel, by decide +kernel⟩
abbrev s_Pair_init : Stmt := inClass (top 44) 0
abbrev sc_Pair_init_N : List Str := ["self", "word", "one", "other"]
theorem sc_Pair_init : FnScope sc_Pair_init_N ["self", "word", "one", "other"] (defScope s_Pair_init) := ⟨rfl, rfl, rfl, by decide +kernel, rfl, by decide +kernel, by decide +kernel⟩
abbrev s_Pair_invert : Stmt := inClass (top 44) 4
abbrev sc_Pair_invert_N : List Str := ["self"]
theorem sc_Pair_invert : FnScope sc_Pair_invert_N ["self"] (defScope s_Pair_invert) := ⟨rfl, rfl, rfl, by decide +kernel, rfl, by decide +kernel, by decide +kernel⟩
abbrev s_Pair_and : Stmt := inClass (top 44) 5
abbrev sc_Pair_and_N : List Str := ["self", "other"]
theorem sc_Pair_and : FnScope sc_Pair_and_N ["self", "other"] (defScope s_Pair_and) := ⟨rfl, rfl, rfl, by decide +kernel, rfl, by decide +kernel, by decide +kernel⟩
abbrev s_Pair_or : Stmt := inClass (top 44) 6
abbrev sc_Pair_or_N : List Str := ["self", "other"]
theorem sc_Pair_or : FnScope sc_Pair_or_N ["self", "other"] (defScope s_Pair_or) := ⟨rfl, rfl, rfl, by decide +kernel, rfl, by decide +kernel, by decide +kernel⟩
abbrev s_Pair_add : Stmt := inClass (top 44) 7
abbrev sc_Pair_add_N : List Str := ["self", "other"]
theorem sc_Pair_add : FnScope sc_Pair_add_N ["self", "other"] (defScope s_Pair_add) := ⟨rfl, rfl, rfl, by decide +kernel, rfl, by decide +kernel, by decide +kernel⟩
inductive KI where
  | ha | bo | ri | fl | tu | co | pa
  deriving DecidableEq
abbrev KC := KI → Addr
def placesK : Kd → Int
  | .halves p => p
  | .boxes p => p
  | .rising p => p
  | .flats p => p
  | .turns _ => 1
  | .no k => placesK k
  | .both k _ => placesK k
  | .either k _ => placesK k
  | .any k _ => placesK k
def kiOf : Kd → KI
  | .halves _ => .ha
  | .boxes _ => .bo
  | .rising _ => .ri
  | .flats _ => .fl
  | .turns _ => .tu
  | .no _ => .co
  | .both _ _ => .pa
  | .either _ _ => .pa
  | .any _ _ => .pa
/-- at x an instance that stands for the kind -/
def Kin (c : KC) (H : Hp) : Kd → Addr → Prop
  | .halves p, x => ∃ dx, H x = some (.ins (c .ha) dx [("places", .int p)])
  | .boxes p, x => ∃ dx, H x = some (.ins (c .bo) dx [("places", .int p)])
  | .rising p, x => ∃ dx, H x = some (.ins (c .ri) dx [("places", .int p)])
  | .flats p, x => ∃ dx, H x = some (.ins (c .fl) dx [("places", .int p)])
  | .turns m, x => ∃ dx, H x = some (.ins (c .tu) dx [("places", .int 1), ("most", .int m)])
  | .no k, x => ∃ dx y, H x = some (.ins (c .co) dx [("places", .int (placesK k)), ("kind", .ref y)]) ∧ Kin c H k y
  | .both k m, x => ∃ dx y z, H x = some (.ins (c .pa) dx [("places", .int (placesK k)), ("word", .str "both"), ("one", .ref y), ("other", .ref z)]) ∧ Kin c H k y ∧ Kin c H m z
  | .either k m, x => ∃ dx y z, H x = some (.ins (c .pa) dx [("places", .int (placesK k)), ("word", .str "either"), ("one", .ref y), ("other", .ref z)]) ∧ Kin c H k y ∧ Kin c H m z
  | .any k m, x => ∃ dx y z, H x = some (.ins (c .pa) dx [("places", .int (placesK k)), ("word", .str "any"), ("one", .ref y), ("other", .ref z)]) ∧ Kin c H k y ∧ Kin c H m z
theorem Kin.up {c : KC} {H H' : Hp} (e : Ex H H') : ∀ {k : Kd} {x : Addr}, Kin c H k x → Kin c H' k x
  | .halves _, _, ⟨dx, h⟩ => ⟨dx, e _ _ h⟩
  | .boxes _, _, ⟨dx, h⟩ => ⟨dx, e _ _ h⟩
  | .rising _, _, ⟨dx, h⟩ => ⟨dx, e _ _ h⟩
  | .flats _, _, ⟨dx, h⟩ => ⟨dx, e _ _ h⟩
  | .turns _, _, ⟨dx, h⟩ => ⟨dx, e _ _ h⟩
  | .no _, _, ⟨dx, y, h, q⟩ => ⟨dx, y, e _ _ h, Kin.up e q⟩
  | .both _ _, _, ⟨dx, y, z, h, q, r⟩ => ⟨dx, y, z, e _ _ h, Kin.up e q, Kin.up e r⟩
  | .either _ _, _, ⟨dx, y, z, h, q, r⟩ => ⟨dx, y, z, e _ _ h, Kin.up e q, Kin.up e r⟩
  | .any _ _, _, ⟨dx, y, z, h, q, r⟩ => ⟨dx, y, z, e _ _ h, Kin.up e q, Kin.up e r⟩
theorem Kin.ins {c : KC} {H : Hp} : ∀ {k : Kd} {x : Addr}, Kin c H k x → ∃ dx fs, H x = some (.ins (c (kiOf k)) dx fs) ∧ fs.lookup ("places" : Str) = some (V.int (placesK k))
  | .halves _, _, ⟨dx, h⟩ => ⟨dx, _, h, rfl⟩
  | .boxes _, _, ⟨dx, h⟩ => ⟨dx, _, h, rfl⟩
  | .rising _, _, ⟨dx, h⟩ => ⟨dx, _, h, rfl⟩
  | .flats _, _, ⟨dx, h⟩ => ⟨dx, _, h, rfl⟩
  | .turns _, _, ⟨dx, h⟩ => ⟨dx, _, h, rfl⟩
  | .no _, _, ⟨dx, y, h, q⟩ => ⟨dx, _, h, rfl⟩
  | .both _ _, _, ⟨dx, y, z, h, q, r⟩ => ⟨dx, _, h, rfl⟩
  | .either _ _, _, ⟨dx, y, z, h, q, r⟩ => ⟨dx, _, h, rfl⟩
  | .any _ _, _, ⟨dx, y, z, h, q, r⟩ => ⟨dx, _, h, rfl⟩
structure KCl (K : PySem.W.Frag) (c : KC) : Prop where
  cl : ∀ i, Cls K (c i)
  na : ∀ i f, f ∈ (["places", "most", "kind", "word", "one", "other"] : List Str) → NoAttr K (c i) f
structure TxK (mg : Str → Option Value) : Prop extends TxF mg where
  c_GREATEST_MOST : ∃ t, mg "GREATEST_MOST" = some (.int 6 t)
/-- all but x stays -/
def Off (x : Addr) (H H' : Hp) : Prop := ∀ a o, a ≠ x → H a = some o → H' a = some o
def spCheckP : Sp := fun vs H Q _ => ∃ p : Int, vs = [.int p] ∧ 1 ≤ p ∧ p ≤ 3 ∧ ∀ H', Ex H H' → Q .non H'
def spI1 (C : Addr) : Sp := fun vs H Q _ => ∃ x dx p, vs = [.ref x, .int p] ∧ H x = some (.ins C dx []) ∧ 1 ≤ p ∧ p ≤ 3 ∧ ∀ H', Off x H H' → H' x = some (.ins C dx [("places", .int p)]) → Q .non H'
def spIT (C : Addr) : Sp := fun vs H Q _ => ∃ x dx m, vs = [.ref x, .int m] ∧ H x = some (.ins C dx []) ∧ 0 ≤ m ∧ m ≤ 6 ∧ ∀ H', Off x H H' → H' x = some (.ins C dx [("places", .int 1), ("most", .int m)]) → Q .non H'
def spIC (c : KC) : Sp := fun vs H Q _ => ∃ x dx y i dy fs p, vs = [.ref x, .ref y] ∧ H x = some (.ins (c .co) dx []) ∧ H y = some (.ins (c i) dy fs) ∧ fs.lookup ("places" : Str) = some (V.int p) ∧ ∀ H', Off x H H' → H' x = some (.ins (c .co) dx [("places", .int p), ("kind", .ref y)]) → Q .non H'
def spIP (c : KC) : Sp := fun vs H Q _ => ∃ x dx z y1 i1 d1 f1 y2 i2 d2 f2 p, vs = [.ref x, .str z, .ref y1, .ref y2] ∧ H x = some (.ins (c .pa) dx []) ∧ y1 ≠ x ∧ H y1 = some (.ins (c i1) d1 f1) ∧ f1.lookup ("places" : Str) = some (V.int p) ∧ H y2 = some (.ins (c i2) d2 f2) ∧ f2.lookup ("places" : Str) = some (V.int p) ∧
  ∀ H', Off x H H' → H' x = some (.ins (c .pa) dx [("places", .int p), ("word", .str z), ("one", .ref y1), ("other", .ref y2)]) → Q .non H'
def spInv (K : PySem.W.Frag) (c : KC) : Sp := fun vs H Q _ => ∃ x k L, vs = [.ref x] ∧ Hid L H ∧ Kin c (W L H) k x ∧ ∀ y H', H y = none → Ex H H' → Kin c (W L H') (.no k) y → Q (.ref y) H'
def spPr (c : KC) (f : Kd → Kd → Kd) : Sp := fun vs H Q _ => ∃ x y k m L, vs = [.ref x, .ref y] ∧ Hid L H ∧ Kin c (W L H) k x ∧ Kin c (W L H) m y ∧ placesK k = placesK m ∧ ∀ z H', H z = none → Ex H H' → Kin c (W L H') (f k m) z → Q (.ref z) H'
section
variable {P : Program} {w : World} {K : PySem.W.Frag} {mg : Str → Option Value} {base : Heap} {c : KC}
theorem off_upd {x : Addr} {H : Hp} {o : HO} : Off x H (upd H x o) := fun a u n h => by
  rw [upd_ne n]
  exact h
theorem Off.of {x : Addr} {H H' : Hp} (e : Ex H H') : Off x H H' := fun a o _ h => e a o h
theorem Off.trans {x : Addr} {H H1 H2 : Hp} (a : Off x H H1) (b : Off x H1 H2) : Off x H H2 := fun d o n h => b d o n (a d o n h)
theorem ok_checkP {f : Addr} {fd : FuncData} (F : Fun K "_check_number_of_places" "_check_number_of_places" s_check_number_of_places f fd) (T : TxK mg) (D_is_number_of_places : DefAt P w K mg base "is_number_of_places" 2 ["thing"] (spB K isN)) : FnOk P w K mg base CX0 3 f fd ["places"] spCheckP := by
  refine F.ok sc_check_number_of_places (fun vs H Q E h => ?_) (fun cdv A outer s H vs Q E hr h => ?_)
  · obtain ⟨_, rfl, _⟩ := h
    rfl
  · obtain ⟨p, rfl, p1, p3, k⟩ := h
    refine ⟨_, (pss_one (ps_if (pt_not (pt_val (pe_callD D_is_number_of_places (by first | exact hr | exact hr.mono (by decide) | exact hr.mono (by omega)) (by rfl) (pa_cons (pv 0) pa_nil)))) (pss_one ps_never) pss_nil)), ?_⟩
    have hN : isN (.int p) = true := by
      show (decide (1 ≤ p) && decide (p ≤ 3)) = true
      simp [p1, p3]
    exact Evl.s_when (D := { nx := fun _ H' => Q .non H', rt := Q }) (b := false) (Evl.et_is (Evl.et_not (Evl.et_B (ev_spB (K := K) (d := .int p) (Evl.ev_var (v := .int p) rfl) (.int p)))) (by rw [hN]; rfl)) (fun z => nomatch z) (fun _ H1 e1 => k H1 e1)
theorem ok_Halves_init {f : Addr} {fd : FuncData} (F : Fun K "__init__" "Halves.__init__" s_Halves_init f fd) (T : TxK mg) (S : KCl K c) (D_check_number_of_places : DefAt P w K mg base "_check_number_of_places" 3 ["places"] spCheckP) : FnOk P w K mg base CX0 4 f fd ["self", "places"] (spI1 (c .ha)) := by
  refine F.ok sc_Halves_init (fun vs H Q E h => ?_) (fun cdv A outer s H vs Q E hr h => ?_)
  · obtain ⟨_, _, _, rfl, _⟩ := h
    rfl
  · obtain ⟨x, dx, p, rfl, hx, p1, p3, k⟩ := h
    refine ⟨_, (pss_cons (ps_expr (pe_callD D_check_number_of_places (by first | exact hr | exact hr.mono (by decide) | exact hr.mono (by omega)) (by rfl) (pa_cons (pv 1) pa_nil)))
    (pss_one (ps_fld (pv 0) (pv 1) rfl))), ?_⟩
    refine ⟨_, rfl, p, rfl, p1, p3, fun H1 e1 => ?_⟩
    refine ⟨_, rfl, _, rfl, x, c .ha, dx, [], rfl, e1 x _ hx, S.cl _, S.na _ _ (by decide), by decide, ?_⟩
    exact k _ ((Off.of e1).trans off_upd) upd_same
theorem ok_Boxes_init {f : Addr} {fd : FuncData} (F : Fun K "__init__" "Boxes.__init__" s_Boxes_init f fd) (T : TxK mg) (S : KCl K c) (D_check_number_of_places : DefAt P w K mg base "_check_number_of_places" 3 ["places"] spCheckP) : FnOk P w K mg base CX0 4 f fd ["self", "places"] (spI1 (c .bo)) := by
  refine F.ok sc_Boxes_init (fun vs H Q E h => ?_) (fun cdv A outer s H vs Q E hr h => ?_)
  · obtain ⟨_, _, _, rfl, _⟩ := h
    rfl
  · obtain ⟨x, dx, p, rfl, hx, p1, p3, k⟩ := h
    refine ⟨_, (pss_cons (ps_expr (pe_callD D_check_number_of_places (by first | exact hr | exact hr.mono (by decide) | exact hr.mono (by omega)) (by rfl) (pa_cons (pv 1) pa_nil)))
    (pss_one (ps_fld (pv 0) (pv 1) rfl))), ?_⟩
    refine ⟨_, rfl, p, rfl, p1, p3, fun H1 e1 => ?_⟩
    refine ⟨_, rfl, _, rfl, x, c .bo, dx, [], rfl, e1 x _ hx, S.cl _, S.na _ _ (by decide), by decide, ?_⟩
    exact k _ ((Off.of e1).trans off_upd) upd_same
theorem ok_Rising_init {f : Addr} {fd : FuncData} (F : Fun K "__init__" "Rising.__init__" s_Rising_init f fd) (T : TxK mg) (S : KCl K c) (D_check_number_of_places : DefAt P w K mg base "_check_number_of_places" 3 ["places"] spCheckP) : FnOk P w K mg base CX0 4 f fd ["self", "places"] (spI1 (c .ri)) := by
  refine F.ok sc_Rising_init (fun vs H Q E h => ?_) (fun cdv A outer s H vs Q E hr h => ?_)
  · obtain ⟨_, _, _, rfl, _⟩ := h
    rfl
  · obtain ⟨x, dx, p, rfl, hx, p1, p3, k⟩ := h
    refine ⟨_, (pss_cons (ps_expr (pe_callD D_check_number_of_places (by first | exact hr | exact hr.mono (by decide) | exact hr.mono (by omega)) (by rfl) (pa_cons (pv 1) pa_nil)))
    (pss_one (ps_fld (pv 0) (pv 1) rfl))), ?_⟩
    refine ⟨_, rfl, p, rfl, p1, p3, fun H1 e1 => ?_⟩
    refine ⟨_, rfl, _, rfl, x, c .ri, dx, [], rfl, e1 x _ hx, S.cl _, S.na _ _ (by decide), by decide, ?_⟩
    exact k _ ((Off.of e1).trans off_upd) upd_same
theorem ok_Flats_init {f : Addr} {fd : FuncData} (F : Fun K "__init__" "Flats.__init__" s_Flats_init f fd) (T : TxK mg) (S : KCl K c) (D_check_number_of_places : DefAt P w K mg base "_check_number_of_places" 3 ["places"] spCheckP) : FnOk P w K mg base CX0 4 f fd ["self", "places"] (spI1 (c .fl)) := by
  refine F.ok sc_Flats_init (fun vs H Q E h => ?_) (fun cdv A outer s H vs Q E hr h => ?_)
  · obtain ⟨_, _, _, rfl, _⟩ := h
    rfl
  · obtain ⟨x, dx, p, rfl, hx, p1, p3, k⟩ := h
    refine ⟨_, (pss_cons (ps_expr (pe_callD D_check_number_of_places (by first | exact hr | exact hr.mono (by decide) | exact hr.mono (by omega)) (by rfl) (pa_cons (pv 1) pa_nil)))
    (pss_one (ps_fld (pv 0) (pv 1) rfl))), ?_⟩
    refine ⟨_, rfl, p, rfl, p1, p3, fun H1 e1 => ?_⟩
    refine ⟨_, rfl, _, rfl, x, c .fl, dx, [], rfl, e1 x _ hx, S.cl _, S.na _ _ (by decide), by decide, ?_⟩
    exact k _ ((Off.of e1).trans off_upd) upd_same
theorem ok_Turns_init {f : Addr} {fd : FuncData} (F : Fun K "__init__" "Turns.__init__" s_Turns_init f fd) (T : TxK mg) (S : KCl K c) (D_is_integer : DefAt P w K mg base "is_integer" 1 ["thing"] (spB K isI)) : FnOk P w K mg base CX0 2 f fd ["self", "most"] (spIT (c .tu)) := by
  refine F.ok sc_Turns_init (fun vs H Q E h => ?_) (fun cdv A outer s H vs Q E hr h => ?_)
  · obtain ⟨_, _, _, rfl, _⟩ := h
    rfl
  · obtain ⟨x, dx, m, rfl, hx, m0, m6, k⟩ := h
    refine ⟨_, (pss_cons (ps_if (PW.pt (pw_or (pt_not (pt_val (pe_callD D_is_integer (by first | exact hr | exact hr.mono (by decide) | exact hr.mono (by omega)) (by rfl) (pa_cons (pv 1) pa_nil)))) (pw_or1 (pt_not (pt_chain op_le op_le pe_int (pv 1) (pe_glob (v := .int 6) (by rfl) T.c_GREATEST_MOST.choose_spec (by exact ⟨_, rfl⟩))))))) (pss_one ps_never) pss_nil)
    (pss_cons (ps_fld (pv 0) pe_int rfl)
    (pss_one (ps_fld (pv 0) (pv 1) rfl)))), ?_⟩
    have v1 : Evl.Ev (tVar 1) (start sc_Turns_init_N [.ref x, .int m]) H (.int m) := Evl.ev_var rfl
    refine Evl.q_when (b := false) (Evl.et_is (Evl.et_or (a := false) (b := false) (Evl.et_is (Evl.et_not (Evl.et_B (ev_spB (K := K) (d := .int m) v1 (.int m)))) rfl) fun _ => Evl.et_is (Evl.et_not (Evl.et_is (b := true) (Evl.et_test (ev_chain (k := decide (0 ≤ m)) (l := decide (m ≤ 6)) Evl.ev_c v1 (Evl.rv_I0 (g := fun a b => .bl (decide (a ≤ b)))) (fun _ => Evl.ev_c) (fun _ => Evl.rv_I0 (g := fun a b => .bl (decide (a ≤ b)))) (fun z => absurd m0 (of_decide_eq_false z)))) (decide_eq_true m6))) rfl) rfl) (fun z => nomatch z) (fun _ H1 e1 => ?_)
    refine ⟨_, rfl, x, c .tu, dx, [], rfl, e1 x _ hx, S.cl _, S.na _ _ (by decide), by decide, ?_⟩
    refine ⟨_, rfl, _, rfl, x, c .tu, dx, _, rfl, upd_same, S.cl _, S.na _ _ (by decide), by show 1 < 1000; omega, ?_⟩
    exact k _ (((Off.of e1).trans off_upd).trans off_upd) upd_same
theorem ok_Contrary_init {f : Addr} {fd : FuncData} (F : Fun K "__init__" "Contrary.__init__" s_Contrary_init f fd) (S : KCl K c) : FnOk P w K mg base CX0 1 f fd ["self", "kind"] (spIC c) := by
  refine F.ok sc_Contrary_init (fun vs H Q E h => ?_) (fun cdv A outer s H vs Q E hr h => ?_)
  · obtain ⟨_, _, _, _, _, _, _, rfl, _⟩ := h
    rfl
  · obtain ⟨x, dx, y, i, dy, fs, p, rfl, hx, hy, hp, k⟩ := h
    refine ⟨_, (pss_cons (ps_fld (pv 0) (pe_fld (pv 1) rfl) rfl)
    (pss_one (ps_fld (pv 0) (pv 1) rfl))), ?_⟩
    refine ⟨_, rfl, y, c i, dy, fs, .int p, rfl, hy, S.cl _, S.na _ _ (by decide), hp, _, rfl, x, c .co, dx, [], rfl, hx, S.cl _, S.na _ _ (by decide), by decide, ?_⟩
    refine ⟨_, rfl, _, rfl, x, c .co, dx, _, rfl, upd_same, S.cl _, S.na _ _ (by decide), by show 1 < 1000; omega, ?_⟩
    exact k _ (off_upd.trans off_upd) upd_same
theorem ok_Pair_init {f : Addr} {fd : FuncData} (F : Fun K "__init__" "Pair.__init__" s_Pair_init f fd) (S : KCl K c) : FnOk P w K mg base CX0 1 f fd ["self", "word", "one", "other"] (spIP c) := by
  refine F.ok sc_Pair_init (fun vs H Q E h => ?_) (fun cdv A outer s H vs Q E hr h => ?_)
  · obtain ⟨_, _, _, _, _, _, _, _, _, _, _, _, rfl, _⟩ := h
    rfl
  · obtain ⟨x, dx, z, y1, i1, d1, f1, y2, i2, d2, f2, p, rfl, hx, ne, h1, hp1, h2, hp2, k⟩ := h
    refine ⟨_, (pss_cons (ps_if (pt_cmpR op_ne (pe_fld (pv 2) rfl) (pe_fld (pv 3) rfl) (nomark _)) (pss_one ps_never) pss_nil)
    (pss_cons (ps_fld (pv 0) (pe_fld (pv 2) rfl) rfl)
    (pss_cons (ps_fld (pv 0) (pv 1) rfl)
    (pss_cons (ps_fld (pv 0) (pv 2) rfl)
    (pss_one (ps_fld (pv 0) (pv 3) rfl)))))), ?_⟩
    have a1 : Evl.Ev (tFld K (tVar 2) "places") (start sc_Pair_init_N [.ref x, .str z, .ref y1, .ref y2]) H (.int p) := ev_fld (Evl.ev_var (v := .ref y1) rfl) h1 (S.cl _) (S.na _ _ (by decide)) hp1
    have a2 : Evl.Ev (tFld K (tVar 3) "places") (start sc_Pair_init_N [.ref x, .str z, .ref y1, .ref y2]) H (.int p) := ev_fld (Evl.ev_var (v := .ref y2) rfl) h2 (S.cl _) (S.na _ _ (by decide)) hp2
    refine Evl.q_when (b := false) (Evl.et_is (Evl.et_test (Evl.ev_op a1 a2 (Evl.rv_ne rfl))) (by simp)) (fun z => nomatch z) (fun _ H1 e1 => ?_)
    refine ⟨_, rfl, y1, c i1, d1, f1, .int p, rfl, e1 _ _ h1, S.cl _, S.na _ _ (by decide), hp1, _, rfl, x, c .pa, dx, [], rfl, e1 _ _ hx, S.cl _, S.na _ _ (by decide), by decide, ?_⟩
    refine ⟨_, rfl, _, rfl, x, c .pa, dx, _, rfl, upd_same, S.cl _, S.na _ _ (by decide), by show 1 < 1000; omega, ?_⟩
    refine ⟨_, rfl, _, rfl, x, c .pa, dx, _, rfl, upd_same, S.cl _, S.na _ _ (by decide), by show 2 < 1000; omega, ?_⟩
    refine ⟨_, rfl, _, rfl, x, c .pa, dx, _, rfl, upd_same, S.cl _, S.na _ _ (by decide), by show 3 < 1000; omega, ?_⟩
    exact k _ (((((Off.of e1).trans off_upd).trans off_upd).trans off_upd).trans off_upd) upd_same
/-- evaluates to a new instance for the kind -/
def EvK (c : KC) (L : List Addr) (te : TE) (σ : L2.St) (H : Hp) (k : Kd) : Prop := ∀ H1, Ex H H1 → ∀ Q : VK, (∀ x H2, H1 x = none → Ex H1 H2 → Kin c (W L H2) k x → Q (.ref x) H2) → te σ H1 Q
section
variable {σ : L2.St} {H : Hp} {L : List Addr} {te ta tb : TE} {C : Addr} {p m : Int} {k k2 : Kd} {x y : Addr}
theorem new_ex {H3 H' : Hp} {x dx : Addr} {o : HO} (hx : H3 x = none) (hdx : H3 dx = none) (ne : dx ≠ x) (b : Off x (upd (upd H3 dx (.own x)) x o) H') : Ex H3 H' := fun a u h => by
  have n1 : a ≠ x := ne_of_none h hx
  have n2 : a ≠ dx := ne_of_none h hdx
  exact b a u n1 (by rw [upd_ne n1, upd_ne n2]; exact h)
theorem mk_1 {i : KI} (h : Evl.Ev te σ H (.int p)) (hL : Hid L H) (p1 : 1 ≤ p) (p3 : p ≤ 3) (hk : ∀ H' x dx, H' x = some (.ins (c i) dx [("places", .int p)]) → Kin c H' k x) : EvK c L (tMake (c i) (spI1 (c i)) [] E0 (tCons te tNil)) σ H k := fun H1 e Q q =>
  h H1 e _ fun H2 e2 x dx hx hdx ne => ⟨x, dx, p, rfl, upd_same, p1, p3, fun H' b hf => ⟨rfl, q x H' (Evl.fresh_back e2 hx) (e2.trans (new_ex hx hdx ne b)) (hk _ x dx (w_of (hid_not (hid_ex (e.trans e2) hL) hx) hf))⟩⟩
theorem mk_T (h : Evl.Ev te σ H (.int m)) (hL : Hid L H) (m0 : 0 ≤ m) (m6 : m ≤ 6) : EvK c L (tMake (c .tu) (spIT (c .tu)) [] E0 (tCons te tNil)) σ H (.turns m) := fun H1 e Q q =>
  h H1 e _ fun H2 e2 x dx hx hdx ne => ⟨x, dx, m, rfl, upd_same, m0, m6, fun H' b hf => ⟨rfl, q x H' (Evl.fresh_back e2 hx) (e2.trans (new_ex hx hdx ne b)) ⟨dx, w_of (hid_not (hid_ex (e.trans e2) hL) hx) hf⟩⟩⟩
theorem mk_C (h : Evl.Ev te σ H (.ref y)) (hL : Hid L H) (hk : Kin c (W L H) k y) : EvK c L (tMake (c .co) (spIC c) [] E0 (tCons te tNil)) σ H (.no k) := fun H1 e Q q =>
  h H1 e _ fun H2 e2 x dx hx hdx ne => by
    have hk2 := hk.up (w_ex (e.trans e2))
    obtain ⟨dy, fs, hy, hp⟩ := hk2.ins
    have hy2 := (w_in hy).1
    have eN : Ex H2 (upd (upd H2 dx (.own x)) x (.ins (c .co) dx [])) := new_ex hx hdx ne (fun _ _ _ h => h)
    refine ⟨x, dx, y, kiOf k, dy, fs, placesK k, rfl, upd_same, eN _ _ hy2, hp, fun H' b hf => ⟨rfl, q x H' (Evl.fresh_back e2 hx) (e2.trans (new_ex hx hdx ne b)) ⟨dx, y, w_of (hid_not (hid_ex (e.trans e2) hL) hx) hf, hk2.up (w_ex (new_ex hx hdx ne b))⟩⟩⟩
theorem mk_P {z : Str} {f : Kd} (hz : Evl.Ev te σ H (.str z)) (h1 : Evl.Ev ta σ H (.ref x)) (h2 : Evl.Ev tb σ H (.ref y)) (hL : Hid L H) (hk : Kin c (W L H) k x) (hk2 : Kin c (W L H) k2 y) (hp : placesK k = placesK k2)
    (hf : ∀ H' u dx, H' u = some (.ins (c .pa) dx [("places", .int (placesK k)), ("word", .str z), ("one", .ref x), ("other", .ref y)]) → Kin c H' k x → Kin c H' k2 y → Kin c H' f u) : EvK c L (tMake (c .pa) (spIP c) [] E0 (tCons te (tCons ta (tCons tb tNil)))) σ H f := fun H1 e Q q =>
  hz H1 e _ fun H2 e2 => h1 H2 (e.trans e2) _ fun H3 e3 => h2 H3 ((e.trans e2).trans e3) _ fun H4 e4 u dx hu hdx ne => by
    have eA := ((e.trans e2).trans e3).trans e4
    have a1 := hk.up (w_ex eA)
    have a2 := hk2.up (w_ex eA)
    obtain ⟨d1, f1, y1, q1⟩ := a1.ins
    obtain ⟨d2, f2, y2, q2⟩ := a2.ins
    have z1 := (w_in y1).1
    have z2 := (w_in y2).1
    have eN : Ex H4 (upd (upd H4 dx (.own u)) u (.ins (c .pa) dx [])) := new_ex hu hdx ne (fun _ _ _ h => h)
    rw [← hp] at q2
    refine ⟨u, dx, z, x, kiOf k, d1, f1, y, kiOf k2, d2, f2, placesK k, rfl, upd_same, ne_of_none z1 hu, eN _ _ z1, q1, eN _ _ z2, q2, fun H' b hx => ⟨rfl, q u H' (Evl.fresh_back ((e2.trans e3).trans e4) hu) (((e2.trans e3).trans e4).trans (new_ex hu hdx ne b)) ?_⟩⟩
    exact hf _ u dx (w_of (hid_not (hid_ex eA hL) hu) hx) (a1.up (w_ex (new_ex hu hdx ne b))) (a2.up (w_ex (new_ex hu hdx ne b)))
end
theorem ok_Halves_invert {f : Addr} {fd : FuncData} (F : Fun K "__invert__" "Halves.__invert__" s_Halves_invert f fd) (N_Contrary : Mak P w K mg base 1 "Contrary" (c .co) (spIC c) []) : FnOk P w K mg base CX0 3 f fd ["self"] (spInv K c) := by
  refine F.ok sc_Halves_invert (fun vs H Q E h => ?_) (fun cdv A outer s H vs Q E hr h => ?_)
  · obtain ⟨_, _, _, rfl, _⟩ := h
    rfl
  · obtain ⟨x, k, L, rfl, hL, hk, kk⟩ := h
    refine ⟨_, (pss_one (ps_ret (pe_mk N_Contrary hr (by omega) (by rfl) (pa_cons (pv 0) pa_nil)))), ?_⟩
    exact mk_C (Evl.ev_var (v := .ref x) rfl) hL hk H (Ex.refl H) _ kk
theorem ok_Halves_and {f : Addr} {fd : FuncData} (F : Fun K "__and__" "Halves.__and__" s_Halves_and f fd) (N_Pair : Mak P w K mg base 1 "Pair" (c .pa) (spIP c) []) : FnOk P w K mg base CX0 3 f fd ["self", "other"] (spPr c .both) := by
  refine F.ok sc_Halves_and (fun vs H Q E h => ?_) (fun cdv A outer s H vs Q E hr h => ?_)
  · obtain ⟨_, _, _, _, _, rfl, _⟩ := h
    rfl
  · obtain ⟨x, y, k, m, L, rfl, hL, hk, hm, hp, kk⟩ := h
    refine ⟨_, (pss_one (ps_ret (pe_mk N_Pair hr (by omega) (by rfl) (pa_cons pe_str (pa_cons (pv 0) (pa_cons (pv 1) pa_nil)))))), ?_⟩
    exact mk_P (z := "both") (f := .both k m) Evl.ev_c (Evl.ev_var (v := .ref x) rfl) (Evl.ev_var (v := .ref y) rfl) hL hk hm hp (fun H' u dx h a b => ⟨dx, x, y, h, a, b⟩) H (Ex.refl H) _ kk
theorem ok_Halves_or {f : Addr} {fd : FuncData} (F : Fun K "__or__" "Halves.__or__" s_Halves_or f fd) (N_Pair : Mak P w K mg base 1 "Pair" (c .pa) (spIP c) []) : FnOk P w K mg base CX0 3 f fd ["self", "other"] (spPr c .either) := by
  refine F.ok sc_Halves_or (fun vs H Q E h => ?_) (fun cdv A outer s H vs Q E hr h => ?_)
  · obtain ⟨_, _, _, _, _, rfl, _⟩ := h
    rfl
  · obtain ⟨x, y, k, m, L, rfl, hL, hk, hm, hp, kk⟩ := h
    refine ⟨_, (pss_one (ps_ret (pe_mk N_Pair hr (by omega) (by rfl) (pa_cons pe_str (pa_cons (pv 0) (pa_cons (pv 1) pa_nil)))))), ?_⟩
    exact mk_P (z := "either") (f := .either k m) Evl.ev_c (Evl.ev_var (v := .ref x) rfl) (Evl.ev_var (v := .ref y) rfl) hL hk hm hp (fun H' u dx h a b => ⟨dx, x, y, h, a, b⟩) H (Ex.refl H) _ kk
theorem ok_Halves_add {f : Addr} {fd : FuncData} (F : Fun K "__add__" "Halves.__add__" s_Halves_add f fd) (N_Pair : Mak P w K mg base 1 "Pair" (c .pa) (spIP c) []) : FnOk P w K mg base CX0 3 f fd ["self", "other"] (spPr c .any) := by
  refine F.ok sc_Halves_add (fun vs H Q E h => ?_) (fun cdv A outer s H vs Q E hr h => ?_)
  · obtain ⟨_, _, _, _, _, rfl, _⟩ := h
    rfl
  · obtain ⟨x, y, k, m, L, rfl, hL, hk, hm, hp, kk⟩ := h
    refine ⟨_, (pss_one (ps_ret (pe_mk N_Pair hr (by omega) (by rfl) (pa_cons pe_str (pa_cons (pv 0) (pa_cons (pv 1) pa_nil)))))), ?_⟩
    exact mk_P (z := "any") (f := .any k m) Evl.ev_c (Evl.ev_var (v := .ref x) rfl) (Evl.ev_var (v := .ref y) rfl) hL hk hm hp (fun H' u dx h a b => ⟨dx, x, y, h, a, b⟩) H (Ex.refl H) _ kk
theorem ok_Boxes_invert {f : Addr} {fd : FuncData} (F : Fun K "__invert__" "Boxes.__invert__" s_Boxes_invert f fd) (N_Contrary : Mak P w K mg base 1 "Contrary" (c .co) (spIC c) []) : FnOk P w K mg base CX0 3 f fd ["self"] (spInv K c) := by
  refine F.ok sc_Boxes_invert (fun vs H Q E h => ?_) (fun cdv A outer s H vs Q E hr h => ?_)
  · obtain ⟨_, _, _, rfl, _⟩ := h
    rfl
  · obtain ⟨x, k, L, rfl, hL, hk, kk⟩ := h
    refine ⟨_, (pss_one (ps_ret (pe_mk N_Contrary hr (by omega) (by rfl) (pa_cons (pv 0) pa_nil)))), ?_⟩
    exact mk_C (Evl.ev_var (v := .ref x) rfl) hL hk H (Ex.refl H) _ kk
theorem ok_Boxes_and {f : Addr} {fd : FuncData} (F : Fun K "__and__" "Boxes.__and__" s_Boxes_and f fd) (N_Pair : Mak P w K mg base 1 "Pair" (c .pa) (spIP c) []) : FnOk P w K mg base CX0 3 f fd ["self", "other"] (spPr c .both) := by
  refine F.ok sc_Boxes_and (fun vs H Q E h => ?_) (fun cdv A outer s H vs Q E hr h => ?_)
  · obtain ⟨_, _, _, _, _, rfl, _⟩ := h
    rfl
  · obtain ⟨x, y, k, m, L, rfl, hL, hk, hm, hp, kk⟩ := h
    refine ⟨_, (pss_one (ps_ret (pe_mk N_Pair hr (by omega) (by rfl) (pa_cons pe_str (pa_cons (pv 0) (pa_cons (pv 1) pa_nil)))))), ?_⟩
    exact mk_P (z := "both") (f := .both k m) Evl.ev_c (Evl.ev_var (v := .ref x) rfl) (Evl.ev_var (v := .ref y) rfl) hL hk hm hp (fun H' u dx h a b => ⟨dx, x, y, h, a, b⟩) H (Ex.refl H) _ kk
theorem ok_Boxes_or {f : Addr} {fd : FuncData} (F : Fun K "__or__" "Boxes.__or__" s_Boxes_or f fd) (N_Pair : Mak P w K mg base 1 "Pair" (c .pa) (spIP c) []) : FnOk P w K mg base CX0 3 f fd ["self", "other"] (spPr c .either) := by
  refine F.ok sc_Boxes_or (fun vs H Q E h => ?_) (fun cdv A outer s H vs Q E hr h => ?_)
  · obtain ⟨_, _, _, _, _, rfl, _⟩ := h
    rfl
  · obtain ⟨x, y, k, m, L, rfl, hL, hk, hm, hp, kk⟩ := h
    refine ⟨_, (pss_one (ps_ret (pe_mk N_Pair hr (by omega) (by rfl) (pa_cons pe_str (pa_cons (pv 0) (pa_cons (pv 1) pa_nil)))))), ?_⟩
    exact mk_P (z := "either") (f := .either k m) Evl.ev_c (Evl.ev_var (v := .ref x) rfl) (Evl.ev_var (v := .ref y) rfl) hL hk hm hp (fun H' u dx h a b => ⟨dx, x, y, h, a, b⟩) H (Ex.refl H) _ kk
theorem ok_Boxes_add {f : Addr} {fd : FuncData} (F : Fun K "__add__" "Boxes.__add__" s_Boxes_add f fd) (N_Pair : Mak P w K mg base 1 "Pair" (c .pa) (spIP c) []) : FnOk P w K mg base CX0 3 f fd ["self", "other"] (spPr c .any) := by
  refine F.ok sc_Boxes_add (fun vs H Q E h => ?_) (fun cdv A outer s H vs Q E hr h => ?_)
  · obtain ⟨_, _, _, _, _, rfl, _⟩ := h
    rfl
  · obtain ⟨x, y, k, m, L, rfl, hL, hk, hm, hp, kk⟩ := h
    refine ⟨_, (pss_one (ps_ret (pe_mk N_Pair hr (by omega) (by rfl) (pa_cons pe_str (pa_cons (pv 0) (pa_cons (pv 1) pa_nil)))))), ?_⟩
    exact mk_P (z := "any") (f := .any k m) Evl.ev_c (Evl.ev_var (v := .ref x) rfl) (Evl.ev_var (v := .ref y) rfl) hL hk hm hp (fun H' u dx h a b => ⟨dx, x, y, h, a, b⟩) H (Ex.refl H) _ kk
theorem ok_Rising_invert {f : Addr} {fd : FuncData} (F : Fun K "__invert__" "Rising.__invert__" s_Rising_invert f fd) (N_Contrary : Mak P w K mg base 1 "Contrary" (c .co) (spIC c) []) : FnOk P w K mg base CX0 3 f fd ["self"] (spInv K c) := by
  refine F.ok sc_Rising_invert (fun vs H Q E h => ?_) (fun cdv A outer s H vs Q E hr h => ?_)
  · obtain ⟨_, _, _, rfl, _⟩ := h
    rfl
  · obtain ⟨x, k, L, rfl, hL, hk, kk⟩ := h
    refine ⟨_, (pss_one (ps_ret (pe_mk N_Contrary hr (by omega) (by rfl) (pa_cons (pv 0) pa_nil)))), ?_⟩
    exact mk_C (Evl.ev_var (v := .ref x) rfl) hL hk H (Ex.refl H) _ kk
theorem ok_Rising_and {f : Addr} {fd : FuncData} (F : Fun K "__and__" "Rising.__and__" s_Rising_and f fd) (N_Pair : Mak P w K mg base 1 "Pair" (c .pa) (spIP c) []) : FnOk P w K mg base CX0 3 f fd ["self", "other"] (spPr c .both) := by
  refine F.ok sc_Rising_and (fun vs H Q E h => ?_) (fun cdv A outer s H vs Q E hr h => ?_)
  · obtain ⟨_, _, _, _, _, rfl, _⟩ := h
    rfl
  · obtain ⟨x, y, k, m, L, rfl, hL, hk, hm, hp, kk⟩ := h
    refine ⟨_, (pss_one (ps_ret (pe_mk N_Pair hr (by omega) (by rfl) (pa_cons pe_str (pa_cons (pv 0) (pa_cons (pv 1) pa_nil)))))), ?_⟩
    exact mk_P (z := "both") (f := .both k m) Evl.ev_c (Evl.ev_var (v := .ref x) rfl) (Evl.ev_var (v := .ref y) rfl) hL hk hm hp (fun H' u dx h a b => ⟨dx, x, y, h, a, b⟩) H (Ex.refl H) _ kk
theorem ok_Rising_or {f : Addr} {fd : FuncData} (F : Fun K "__or__" "Rising.__or__" s_Rising_or f fd) (N_Pair : Mak P w K mg base 1 "Pair" (c .pa) (spIP c) []) : FnOk P w K mg base CX0 3 f fd ["self", "other"] (spPr c .either) := by
  refine F.ok sc_Rising_or (fun vs H Q E h => ?_) (fun cdv A outer s H vs Q E hr h => ?_)
  · obtain ⟨_, _, _, _, _, rfl, _⟩ := h
    rfl
  · obtain ⟨x, y, k, m, L, rfl, hL, hk, hm, hp, kk⟩ := h
    refine ⟨_, (pss_one (ps_ret (pe_mk N_Pair hr (by omega) (by rfl) (pa_cons pe_str (pa_cons (pv 0) (pa_cons (pv 1) pa_nil)))))), ?_⟩
    exact mk_P (z := "either") (f := .either k m) Evl.ev_c (Evl.ev_var (v := .ref x) rfl) (Evl.ev_var (v := .ref y) rfl) hL hk hm hp (fun H' u dx h a b => ⟨dx, x, y, h, a, b⟩) H (Ex.refl H) _ kk
theorem ok_Rising_add {f : Addr} {fd : FuncData} (F : Fun K "__add__" "Rising.__add__" s_Rising_add f fd) (N_Pair : Mak P w K mg base 1 "Pair" (c .pa) (spIP c) []) : FnOk P w K mg base CX0 3 f fd ["self", "other"] (spPr c .any) := by
  refine F.ok sc_Rising_add (fun vs H Q E h => ?_) (fun cdv A outer s H vs Q E hr h => ?_)
  · obtain ⟨_, _, _, _, _, rfl, _⟩ := h
    rfl
  · obtain ⟨x, y, k, m, L, rfl, hL, hk, hm, hp, kk⟩ := h
    refine ⟨_, (pss_one (ps_ret (pe_mk N_Pair hr (by omega) (by rfl) (pa_cons pe_str (pa_cons (pv 0) (pa_cons (pv 1) pa_nil)))))), ?_⟩
    exact mk_P (z := "any") (f := .any k m) Evl.ev_c (Evl.ev_var (v := .ref x) rfl) (Evl.ev_var (v := .ref y) rfl) hL hk hm hp (fun H' u dx h a b => ⟨dx, x, y, h, a, b⟩) H (Ex.refl H) _ kk
theorem ok_Flats_invert {f : Addr} {fd : FuncData} (F : Fun K "__invert__" "Flats.__invert__" s_Flats_invert f fd) (N_Contrary : Mak P w K mg base 1 "Contrary" (c .co) (spIC c) []) : FnOk P w K mg base CX0 3 f fd ["self"] (spInv K c) := by
  refine F.ok sc_Flats_invert (fun vs H Q E h => ?_) (fun cdv A outer s H vs Q E hr h => ?_)
  · obtain ⟨_, _, _, rfl, _⟩ := h
    rfl
  · obtain ⟨x, k, L, rfl, hL, hk, kk⟩ := h
    refine ⟨_, (pss_one (ps_ret (pe_mk N_Contrary hr (by omega) (by rfl) (pa_cons (pv 0) pa_nil)))), ?_⟩
    exact mk_C (Evl.ev_var (v := .ref x) rfl) hL hk H (Ex.refl H) _ kk
theorem ok_Flats_and {f : Addr} {fd : FuncData} (F : Fun K "__and__" "Flats.__and__" s_Flats_and f fd) (N_Pair : Mak P w K mg base 1 "Pair" (c .pa) (spIP c) []) : FnOk P w K mg base CX0 3 f fd ["self", "other"] (spPr c .both) := by
  refine F.ok sc_Flats_and (fun vs H Q E h => ?_) (fun cdv A outer s H vs Q E hr h => ?_)
  · obtain ⟨_, _, _, _, _, rfl, _⟩ := h
    rfl
  · obtain ⟨x, y, k, m, L, rfl, hL, hk, hm, hp, kk⟩ := h
    refine ⟨_, (pss_one (ps_ret (pe_mk N_Pair hr (by omega) (by rfl) (pa_cons pe_str (pa_cons (pv 0) (pa_cons (pv 1) pa_nil)))))), ?_⟩
    exact mk_P (z := "both") (f := .both k m) Evl.ev_c (Evl.ev_var (v := .ref x) rfl) (Evl.ev_var (v := .ref y) rfl) hL hk hm hp (fun H' u dx h a b => ⟨dx, x, y, h, a, b⟩) H (Ex.refl H) _ kk
theorem ok_Flats_or {f : Addr} {fd : FuncData} (F : Fun K "__or__" "Flats.__or__" s_Flats_or f fd) (N_Pair : Mak P w K mg base 1 "Pair" (c .pa) (spIP c) []) : FnOk P w K mg base CX0 3 f fd ["self", "other"] (spPr c .either) := by
  refine F.ok sc_Flats_or (fun vs H Q E h => ?_) (fun cdv A outer s H vs Q E hr h => ?_)
  · obtain ⟨_, _, _, _, _, rfl, _⟩ := h
    rfl
  · obtain ⟨x, y, k, m, L, rfl, hL, hk, hm, hp, kk⟩ := h
    refine ⟨_, (pss_one (ps_ret (pe_mk N_Pair hr (by omega) (by rfl) (pa_cons pe_str (pa_cons (pv 0) (pa_cons (pv 1) pa_nil)))))), ?_⟩
    exact mk_P (z := "either") (f := .either k m) Evl.ev_c (Evl.ev_var (v := .ref x) rfl) (Evl.ev_var (v := .ref y) rfl) hL hk hm hp (fun H' u dx h a b => ⟨dx, x, y, h, a, b⟩) H (Ex.refl H) _ kk
theorem ok_Flats_add {f : Addr} {fd : FuncData} (F : Fun K "__add__" "Flats.__add__" s_Flats_add f fd) (N_Pair : Mak P w K mg base 1 "Pair" (c .pa) (spIP c) []) : FnOk P w K mg base CX0 3 f fd ["self", "other"] (spPr c .any) := by
  refine F.ok sc_Flats_add (fun vs H Q E h => ?_) (fun cdv A outer s H vs Q E hr h => ?_)
  · obtain ⟨_, _, _, _, _, rfl, _⟩ := h
    rfl
  · obtain ⟨x, y, k, m, L, rfl, hL, hk, hm, hp, kk⟩ := h
    refine ⟨_, (pss_one (ps_ret (pe_mk N_Pair hr (by omega) (by rfl) (pa_cons pe_str (pa_cons (pv 0) (pa_cons (pv 1) pa_nil)))))), ?_⟩
    exact mk_P (z := "any") (f := .any k m) Evl.ev_c (Evl.ev_var (v := .ref x) rfl) (Evl.ev_var (v := .ref y) rfl) hL hk hm hp (fun H' u dx h a b => ⟨dx, x, y, h, a, b⟩) H (Ex.refl H) _ kk
theorem ok_Turns_invert {f : Addr} {fd : FuncData} (F : Fun K "__invert__" "Turns.__invert__" s_Turns_invert f fd) (N_Contrary : Mak P w K mg base 1 "Contrary" (c .co) (spIC c) []) : FnOk P w K mg base CX0 3 f fd ["self"] (spInv K c) := by
  refine F.ok sc_Turns_invert (fun vs H Q E h => ?_) (fun cdv A outer s H vs Q E hr h => ?_)
  · obtain ⟨_, _, _, rfl, _⟩ := h
    rfl
  · obtain ⟨x, k, L, rfl, hL, hk, kk⟩ := h
    refine ⟨_, (pss_one (ps_ret (pe_mk N_Contrary hr (by omega) (by rfl) (pa_cons (pv 0) pa_nil)))), ?_⟩
    exact mk_C (Evl.ev_var (v := .ref x) rfl) hL hk H (Ex.refl H) _ kk
theorem ok_Turns_and {f : Addr} {fd : FuncData} (F : Fun K "__and__" "Turns.__and__" s_Turns_and f fd) (N_Pair : Mak P w K mg base 1 "Pair" (c .pa) (spIP c) []) : FnOk P w K mg base CX0 3 f fd ["self", "other"] (spPr c .both) := by
  refine F.ok sc_Turns_and (fun vs H Q E h => ?_) (fun cdv A outer s H vs Q E hr h => ?_)
  · obtain ⟨_, _, _, _, _, rfl, _⟩ := h
    rfl
  · obtain ⟨x, y, k, m, L, rfl, hL, hk, hm, hp, kk⟩ := h
    refine ⟨_, (pss_one (ps_ret (pe_mk N_Pair hr (by omega) (by rfl) (pa_cons pe_str (pa_cons (pv 0) (pa_cons (pv 1) pa_nil)))))), ?_⟩
    exact mk_P (z := "both") (f := .both k m) Evl.ev_c (Evl.ev_var (v := .ref x) rfl) (Evl.ev_var (v := .ref y) rfl) hL hk hm hp (fun H' u dx h a b => ⟨dx, x, y, h, a, b⟩) H (Ex.refl H) _ kk
theorem ok_Turns_or {f : Addr} {fd : FuncData} (F : Fun K "__or__" "Turns.__or__" s_Turns_or f fd) (N_Pair : Mak P w K mg base 1 "Pair" (c .pa) (spIP c) []) : FnOk P w K mg base CX0 3 f fd ["self", "other"] (spPr c .either) := by
  refine F.ok sc_Turns_or (fun vs H Q E h => ?_) (fun cdv A outer s H vs Q E hr h => ?_)
  · obtain ⟨_, _, _, _, _, rfl, _⟩ := h
    rfl
  · obtain ⟨x, y, k, m, L, rfl, hL, hk, hm, hp, kk⟩ := h
    refine ⟨_, (pss_one (ps_ret (pe_mk N_Pair hr (by omega) (by rfl) (pa_cons pe_str (pa_cons (pv 0) (pa_cons (pv 1) pa_nil)))))), ?_⟩
    exact mk_P (z := "either") (f := .either k m) Evl.ev_c (Evl.ev_var (v := .ref x) rfl) (Evl.ev_var (v := .ref y) rfl) hL hk hm hp (fun H' u dx h a b => ⟨dx, x, y, h, a, b⟩) H (Ex.refl H) _ kk
theorem ok_Turns_add {f : Addr} {fd : FuncData} (F : Fun K "__add__" "Turns.__add__" s_Turns_add f fd) (N_Pair : Mak P w K mg base 1 "Pair" (c .pa) (spIP c) []) : FnOk P w K mg base CX0 3 f fd ["self", "other"] (spPr c .any) := by
  refine F.ok sc_Turns_add (fun vs H Q E h => ?_) (fun cdv A outer s H vs Q E hr h => ?_)
  · obtain ⟨_, _, _, _, _, rfl, _⟩ := h
    rfl
  · obtain ⟨x, y, k, m, L, rfl, hL, hk, hm, hp, kk⟩ := h
    refine ⟨_, (pss_one (ps_ret (pe_mk N_Pair hr (by omega) (by rfl) (pa_cons pe_str (pa_cons (pv 0) (pa_cons (pv 1) pa_nil)))))), ?_⟩
    exact mk_P (z := "any") (f := .any k m) Evl.ev_c (Evl.ev_var (v := .ref x) rfl) (Evl.ev_var (v := .ref y) rfl) hL hk hm hp (fun H' u dx h a b => ⟨dx, x, y, h, a, b⟩) H (Ex.refl H) _ kk
theorem ok_Contrary_invert {f : Addr} {fd : FuncData} (F : Fun K "__invert__" "Contrary.__invert__" s_Contrary_invert f fd) (N_Contrary : Mak P w K mg base 1 "Contrary" (c .co) (spIC c) []) : FnOk P w K mg base CX0 3 f fd ["self"] (spInv K c) := by
  refine F.ok sc_Contrary_invert (fun vs H Q E h => ?_) (fun cdv A outer s H vs Q E hr h => ?_)
  · obtain ⟨_, _, _, rfl, _⟩ := h
    rfl
  · obtain ⟨x, k, L, rfl, hL, hk, kk⟩ := h
    refine ⟨_, (pss_one (ps_ret (pe_mk N_Contrary hr (by omega) (by rfl) (pa_cons (pv 0) pa_nil)))), ?_⟩
    exact mk_C (Evl.ev_var (v := .ref x) rfl) hL hk H (Ex.refl H) _ kk
theorem ok_Contrary_and {f : Addr} {fd : FuncData} (F : Fun K "__and__" "Contrary.__and__" s_Contrary_and f fd) (N_Pair : Mak P w K mg base 1 "Pair" (c .pa) (spIP c) []) : FnOk P w K mg base CX0 3 f fd ["self", "other"] (spPr c .both) := by
  refine F.ok sc_Contrary_and (fun vs H Q E h => ?_) (fun cdv A outer s H vs Q E hr h => ?_)
  · obtain ⟨_, _, _, _, _, rfl, _⟩ := h
    rfl
  · obtain ⟨x, y, k, m, L, rfl, hL, hk, hm, hp, kk⟩ := h
    refine ⟨_, (pss_one (ps_ret (pe_mk N_Pair hr (by omega) (by rfl) (pa_cons pe_str (pa_cons (pv 0) (pa_cons (pv 1) pa_nil)))))), ?_⟩
    exact mk_P (z := "both") (f := .both k m) Evl.ev_c (Evl.ev_var (v := .ref x) rfl) (Evl.ev_var (v := .ref y) rfl) hL hk hm hp (fun H' u dx h a b => ⟨dx, x, y, h, a, b⟩) H (Ex.refl H) _ kk
theorem ok_Contrary_or {f : Addr} {fd : FuncData} (F : Fun K "__or__" "Contrary.__or__" s_Contrary_or f fd) (N_Pair : Mak P w K mg base 1 "Pair" (c .pa) (spIP c) []) : FnOk P w K mg base CX0 3 f fd ["self", "other"] (spPr c .either) := by
  refine F.ok sc_Contrary_or (fun vs H Q E h => ?_) (fun cdv A outer s H vs Q E hr h => ?_)
  · obtain ⟨_, _, _, _, _, rfl, _⟩ := h
    rfl
  · obtain ⟨x, y, k, m, L, rfl, hL, hk, hm, hp, kk⟩ := h
    refine ⟨_, (pss_one (ps_ret (pe_mk N_Pair hr (by omega) (by rfl) (pa_cons pe_str (pa_cons (pv 0) (pa_cons (pv 1) pa_nil)))))), ?_⟩
    exact mk_P (z := "either") (f := .either k m) Evl.ev_c (Evl.ev_var (v := .ref x) rfl) (Evl.ev_var (v := .ref y) rfl) hL hk hm hp (fun H' u dx h a b => ⟨dx, x, y, h, a, b⟩) H (Ex.refl H) _ kk
theorem ok_Contrary_add {f : Addr} {fd : FuncData} (F : Fun K "__add__" "Contrary.__add__" s_Contrary_add f fd) (N_Pair : Mak P w K mg base 1 "Pair" (c .pa) (spIP c) []) : FnOk P w K mg base CX0 3 f fd ["self", "other"] (spPr c .any) := by
  refine F.ok sc_Contrary_add (fun vs H Q E h => ?_) (fun cdv A outer s H vs Q E hr h => ?_)
  · obtain ⟨_, _, _, _, _, rfl, _⟩ := h
    rfl
  · obtain ⟨x, y, k, m, L, rfl, hL, hk, hm, hp, kk⟩ := h
    refine ⟨_, (pss_one (ps_ret (pe_mk N_Pair hr (by omega) (by rfl) (pa_cons pe_str (pa_cons (pv 0) (pa_cons (pv 1) pa_nil)))))), ?_⟩
    exact mk_P (z := "any") (f := .any k m) Evl.ev_c (Evl.ev_var (v := .ref x) rfl) (Evl.ev_var (v := .ref y) rfl) hL hk hm hp (fun H' u dx h a b => ⟨dx, x, y, h, a, b⟩) H (Ex.refl H) _ kk
theorem ok_Pair_invert {f : Addr} {fd : FuncData} (F : Fun K "__invert__" "Pair.__invert__" s_Pair_invert f fd) (N_Contrary : Mak P w K mg base 1 "Contrary" (c .co) (spIC c) []) : FnOk P w K mg base CX0 3 f fd ["self"] (spInv K c) := by
  refine F.ok sc_Pair_invert (fun vs H Q E h => ?_) (fun cdv A outer s H vs Q E hr h => ?_)
  · obtain ⟨_, _, _, rfl, _⟩ := h
    rfl
  · obtain ⟨x, k, L, rfl, hL, hk, kk⟩ := h
    refine ⟨_, (pss_one (ps_ret (pe_mk N_Contrary hr (by omega) (by rfl) (pa_cons (pv 0) pa_nil)))), ?_⟩
    exact mk_C (Evl.ev_var (v := .ref x) rfl) hL hk H (Ex.refl H) _ kk
theorem ok_Pair_and {f : Addr} {fd : FuncData} (F : Fun K "__and__" "Pair.__and__" s_Pair_and f fd) (N_Pair : Mak P w K mg base 1 "Pair" (c .pa) (spIP c) []) : FnOk P w K mg base CX0 3 f fd ["self", "other"] (spPr c .both) := by
  refine F.ok sc_Pair_and (fun vs H Q E h => ?_) (fun cdv A outer s H vs Q E hr h => ?_)
  · obtain ⟨_, _, _, _, _, rfl, _⟩ := h
    rfl
  · obtain ⟨x, y, k, m, L, rfl, hL, hk, hm, hp, kk⟩ := h
    refine ⟨_, (pss_one (ps_ret (pe_mk N_Pair hr (by omega) (by rfl) (pa_cons pe_str (pa_cons (pv 0) (pa_cons (pv 1) pa_nil)))))), ?_⟩
    exact mk_P (z := "both") (f := .both k m) Evl.ev_c (Evl.ev_var (v := .ref x) rfl) (Evl.ev_var (v := .ref y) rfl) hL hk hm hp (fun H' u dx h a b => ⟨dx, x, y, h, a, b⟩) H (Ex.refl H) _ kk
theorem ok_Pair_or {f : Addr} {fd : FuncData} (F : Fun K "__or__" "Pair.__or__" s_Pair_or f fd) (N_Pair : Mak P w K mg base 1 "Pair" (c .pa) (spIP c) []) : FnOk P w K mg base CX0 3 f fd ["self", "other"] (spPr c .either) := by
  refine F.ok sc_Pair_or (fun vs H Q E h => ?_) (fun cdv A outer s H vs Q E hr h => ?_)
  · obtain ⟨_, _, _, _, _, rfl, _⟩ := h
    rfl
  · obtain ⟨x, y, k, m, L, rfl, hL, hk, hm, hp, kk⟩ := h
    refine ⟨_, (pss_one (ps_ret (pe_mk N_Pair hr (by omega) (by rfl) (pa_cons pe_str (pa_cons (pv 0) (pa_cons (pv 1) pa_nil)))))), ?_⟩
    exact mk_P (z := "either") (f := .either k m) Evl.ev_c (Evl.ev_var (v := .ref x) rfl) (Evl.ev_var (v := .ref y) rfl) hL hk hm hp (fun H' u dx h a b => ⟨dx, x, y, h, a, b⟩) H (Ex.refl H) _ kk
theorem ok_Pair_add {f : Addr} {fd : FuncData} (F : Fun K "__add__" "Pair.__add__" s_Pair_add f fd) (N_Pair : Mak P w K mg base 1 "Pair" (c .pa) (spIP c) []) : FnOk P w K mg base CX0 3 f fd ["self", "other"] (spPr c .any) := by
  refine F.ok sc_Pair_add (fun vs H Q E h => ?_) (fun cdv A outer s H vs Q E hr h => ?_)
  · obtain ⟨_, _, _, _, _, rfl, _⟩ := h
    rfl
  · obtain ⟨x, y, k, m, L, rfl, hL, hk, hm, hp, kk⟩ := h
    refine ⟨_, (pss_one (ps_ret (pe_mk N_Pair hr (by omega) (by rfl) (pa_cons pe_str (pa_cons (pv 0) (pa_cons (pv 1) pa_nil)))))), ?_⟩
    exact mk_P (z := "any") (f := .any k m) Evl.ev_c (Evl.ev_var (v := .ref x) rfl) (Evl.ev_var (v := .ref y) rfl) hL hk hm hp (fun H' u dx h a b => ⟨dx, x, y, h, a, b⟩) H (Ex.refl H) _ kk
end
end U
set_option Elab.async false
set_option linter.all false
set_option maxRecDepth 100000
set_option maxHeartbeats 4000000
/-! kinds built from what is said of them -/
namespace U
open PySem PySem.Spec PyProof.Rows L2
open Evl (Ex)
open C8 (Met Mak pe_mt pe_mt0 pe_mk)
abbrev s_built : Stmt := top 67
abbrev sc_built_N : List Str := ["_law_spec", "_law_word", "_law_one", "_law_other"]
theorem sc_built : FnScope sc_built_N ["_law_spec"] (defScope s_built) := ⟨rfl, rfl, rfl, by decide +kernel, rfl, by decide +kernel, by decide +kernel⟩
structure OpI (P : Program) (w : World) (K : PySem.W.Frag) (mg : Str → Option Value) (base : Heap) (C : Addr) (op : Operator) (sp : Sp) : Prop where
  ex : ∃ (f : Addr) (fd : FuncData), FnOk P w K mg base CX0 3 f fd ["self", "other"] sp ∧ OpC K C (PySem.dunder op.info.2) (PySem.dunderR op.info.2) f ∧ Binds K fd ["self", "other"] []
structure InvI (P : Program) (w : World) (K : PySem.W.Frag) (mg : Str → Option Value) (base : Heap) (C : Addr) (sp : Sp) : Prop where
  ex : ∃ (f : Addr) (fd : FuncData), FnOk P w K mg base CX0 3 f fd ["self"] sp ∧ PySem.W.findIn K (.ref C) "__invert__" = some (some (.ref f)) ∧ PySem.W.isFn K (.ref f) = true ∧ Binds K fd ["self"] []
/-- the operators of kinds -/
structure KOp (P : Program) (w : World) (K : PySem.W.Frag) (mg : Str → Option Value) (base : Heap) (c : KC) : Prop where
  inv : ∀ i, InvI P w K mg base (c i) (spInv K c)
  and : ∀ i, OpI P w K mg base (c i) .BitAnd (spPr c .both)
  or : ∀ i, OpI P w K mg base (c i) .BitOr (spPr c .either)
  add : ∀ i, OpI P w K mg base (c i) .Add (spPr c .any)
  sub : ∀ i j, c i = c j ∨ PySem.W.subIn K (.ref (c j)) (.ref (c i)) = some false
def tK2 (c : KC) (sp : Sp) (ta tb : TE) : TE := tAny (fun _ => True) fun ij : KI × KI => tOwn2 (c ij.1) (c ij.2) sp ta tb
def tK1 (c : KC) (sp : Sp) (ta : TE) : TE := tAny (fun _ => True) fun i : KI => tInv (c i) sp ta
section
variable {X : Cx} {c : KC} {a b : Expr} {ta tb : TE} {pos : Pos} {op : Operator} {sp : Sp} {n : Nat}
theorem pe_k2 (O : ∀ i, OpI X.prog X.w X.K X.mg X.base (c i) op sp) (S : ∀ i j, c i = c j ∨ PySem.W.subIn X.K (.ref (c j)) (.ref (c i)) = some false) (hr : Room n X.A) (hn : 3 ≤ n) (ha : PE X a ta) (hb : PE X b tb) : PE X (.BinOp a op b pos) (tK2 c sp ta tb) := pe_any fun ij _ => by
  obtain ⟨f, fd, F, o1, hB⟩ := (O ij.1).ex
  obtain ⟨g, gd, G, o2, _⟩ := (O ij.2).ex
  exact pe_own2 F (hr.mono hn) o1 o2 (S ij.1 ij.2) hB ha hb
theorem pe_k1 (O : ∀ i, InvI X.prog X.w X.K X.mg X.base (c i) sp) (hr : Room n X.A) (hn : 3 ≤ n) (ha : PE X a ta) : PE X (.UnaryOp .Invert a pos) (tK1 c sp ta) := pe_any fun i _ => by
  obtain ⟨f, fd, F, hs, hf, hB⟩ := (O i).ex
  exact pe_inv F (hr.mono hn) hs hf hB ha
end
section
variable {K : PySem.W.Frag} {c : KC} {σ : L2.St} {H : Hp} {L : List Addr} {ta tb : TE} {x y : Addr} {k m : Kd}
theorem evk_2 {f : Kd → Kd → Kd} (h1 : Evl.Ev ta σ H (.ref x)) (h2 : Evl.Ev tb σ H (.ref y)) (hL : Hid L H) (hk : Kin c (W L H) k x) (hm : Kin c (W L H) m y) (hp : placesK k = placesK m) : EvK c L (tK2 c (spPr c f) ta tb) σ H (f k m) := fun H1 e Q q => by
  refine ⟨(kiOf k, kiOf m), trivial, h1 H1 e _ fun H2 e2 => h2 H2 (e.trans e2) _ fun H3 e3 => ?_⟩
  have eA := (e.trans e2).trans e3
  have a1 := hk.up (w_ex eA)
  have a2 := hm.up (w_ex eA)
  obtain ⟨d1, f1, y1, _⟩ := a1.ins
  obtain ⟨d2, f2, y2, _⟩ := a2.ins
  exact ⟨x, y, d1, d2, f1, f2, rfl, rfl, (w_in y1).1, (w_in y2).1, x, y, k, m, L, rfl, hid_ex eA hL, a1, a2, hp, fun z H' hz e' hz2 => ⟨z, rfl, q z H' (Evl.fresh_back (e2.trans e3) hz) ((e2.trans e3).trans e') hz2⟩⟩
theorem evk_1 (h1 : Evl.Ev ta σ H (.ref x)) (hL : Hid L H) (hk : Kin c (W L H) k x) : EvK c L (tK1 c (spInv K c) ta) σ H (.no k) := fun H1 e Q q => by
  refine ⟨kiOf k, trivial, h1 H1 e _ fun H2 e2 => ?_⟩
  have eA := e.trans e2
  have a1 := hk.up (w_ex eA)
  obtain ⟨d1, f1, y1, _⟩ := a1.ins
  exact ⟨x, d1, f1, rfl, (w_in y1).1, x, k, L, rfl, hid_ex eA hL, a1, fun z H' hz e' hz2 => q z H' (Evl.fresh_back e2 hz) (e2.trans e') hz2⟩
end
/-- makers of kinds -/
structure KMk (P : Program) (w : World) (K : PySem.W.Frag) (mg : Str → Option Value) (base : Heap) (c : KC) : Prop where
  ha : Mak P w K mg base 4 "Halves" (c .ha) (spI1 (c .ha)) []
  bo : Mak P w K mg base 4 "Boxes" (c .bo) (spI1 (c .bo)) []
  ri : Mak P w K mg base 4 "Rising" (c .ri) (spI1 (c .ri)) []
  fl : Mak P w K mg base 4 "Flats" (c .fl) (spI1 (c .fl)) []
  tu : Mak P w K mg base 2 "Turns" (c .tu) (spIT (c .tu)) []
def spBuilt (K : PySem.W.Frag) (c : KC) (n : Nat) : Sp := fun vs H Q _ => ∃ v k p L, vs = [v] ∧ Hid L H ∧ Dp K (W L H) v (kdD k) ∧ okK p k ∧ 1 ≤ p ∧ p ≤ 3 ∧ depK k ≤ n ∧ ∀ x H', H x = none → Ex H H' → Kin c (W L H') k x → Q (.ref x) H'
def spBuiltP (K : PySem.W.Frag) (c : KC) : Nat → Sp
  | 0 => fun _ _ _ _ => False
  | n + 1 => spBuilt K c n
theorem okK_places : ∀ {k : Kd} {p : Int}, okK p k → placesK k = p
  | .halves _, _, h => h
  | .boxes _, _, h => h
  | .rising _, _, h => h
  | .flats _, _, h => h
  | .turns _, _, h => h.1.symm
  | .no k, _, h => okK_places (k := k) h
  | .both k _, _, h => okK_places (k := k) h.1
  | .either k _, _, h => okK_places (k := k) h.1
  | .any k _, _, h => okK_places (k := k) h.1
section
variable {P : Program} {w : World} {K : PySem.W.Frag} {mg : Str → Option Value} {base : Heap} {c : KC}
theorem k_ret {te : TE} {σ : L2.St} {H : Hp} {L : List Addr} {k : Kd} {D : Ends} (h : EvK c L te σ H k) (q : ∀ x H', H x = none → Ex H H' → Kin c (W L H') k x → D.rt (.ref x) H') : tRet te D σ H := h H (Ex.refl H) _ q
theorem q_asgK {te : TE} {σ : L2.St} {H : Hp} {L : List Addr} {k : Kd} {D : Ends} {tz : TS} {i : Nat} (h : EvK c L te σ H k) (q : ∀ x H', H x = none → Ex H H' → Kin c (W L H') k x → tz D (σ.set i (some (.ref x))) H') : tSeq (tAsg te (gName i)) tz D σ H := h H (Ex.refl H) _ q
theorem ev_built {te : TE} {σ : L2.St} {H : Hp} {L : List Addr} {k : Kd} {p : Int} {n : Nat} {v : V} (h : Evl.Ev te σ H v) (hL : Hid L H) (hv : Dp K (W L H) v (kdD k)) (hok : okK p k) (p1 : 1 ≤ p) (p3 : p ≤ 3) (hdep : depK k ≤ n) : EvK c L (tCallD (spBuiltP K c (n + 1)) (tCons te tNil)) σ H k := fun H1 e Q q =>
  h H1 e _ fun H2 e2 => ⟨v, k, p, L, rfl, hid_ex (e.trans e2) hL, hv.up (w_ex (e.trans e2)), hok, p1, p3, hdep, fun x H' hx e' hk => q x H' (Evl.fresh_back e2 hx) (e2.trans e') hk⟩
theorem evk_ift {tc : TT} {ta tb : TE} {σ : L2.St} {H : Hp} {L : List Addr} {k : Kd} (ht : Evl.EvT tc σ H true) (h : ∀ H1, Ex H H1 → EvK c L ta σ H1 k) : EvK c L (tIf tc ta tb) σ H k := fun H1 e Q q => ht H1 e _ fun H2 e2 => by
  show (if true = true then _ else _)
  simp only [if_true]
  exact h H2 (e.trans e2) H2 (Ex.refl _) Q fun x H3 hx e3 hk => q x H3 (Evl.fresh_back e2 hx) (e2.trans e3) hk
theorem evk_iff {tc : TT} {ta tb : TE} {σ : L2.St} {H : Hp} {L : List Addr} {k : Kd} (ht : Evl.EvT tc σ H false) (h : ∀ H1, Ex H H1 → EvK c L tb σ H1 k) : EvK c L (tIf tc ta tb) σ H k := fun H1 e Q q => ht H1 e _ fun H2 e2 => by
  show (if false = true then _ else _)
  simp only [Bool.false_eq_true, if_false]
  exact h H2 (e.trans e2) H2 (Ex.refl _) Q fun x H3 hx e3 hk => q x H3 (Evl.fresh_back e2 hx) (e2.trans e3) hk
theorem built_body {f : Addr} {fd : FuncData} (F : Fun K "_law_built" "_law_built" s_built f fd) (N : KMk P w K mg base c) (O : KOp P w K mg base c) (n : Nat) (D_built : DefAt P w K mg base "_law_built" (n + 6) ["_law_spec"] (spBuiltP K c n)) : FnOk P w K mg base CX0 (n + 7) f fd ["_law_spec"] (spBuilt K c n) := by
  refine F.ok sc_built (fun vs H Q E h => ?_) (fun cdv A outer s H vs Q E hr h => ?_)
  · obtain ⟨_, _, _, _, rfl, _⟩ := h
    rfl
  · obtain ⟨v, k, p, L, rfl, hL, hv, hok, p1, p3, hdep, kk⟩ := h
    refine ⟨_, (pss_cons (ps_set (i := 1) sc_built.nd rfl (by first | exact Or.inl rfl | exact Or.inr rfl) (pe_ix ix_tup (pv 0) pe_int (fun _ _ => rfl)))
    (pss_cons (ps_if (pt_cmpR op_eq (pv 1) pe_str (nomark _)) (pss_one (ps_ret (pe_mk N.ha hr (by omega) (by rfl) (pa_cons (pe_ix ix_tup (pv 0) pe_int (fun _ _ => rfl)) pa_nil)))) pss_nil)
    (pss_cons (ps_if (pt_cmpR op_eq (pv 1) pe_str (nomark _)) (pss_one (ps_ret (pe_mk N.bo hr (by omega) (by rfl) (pa_cons (pe_ix ix_tup (pv 0) pe_int (fun _ _ => rfl)) pa_nil)))) pss_nil)
    (pss_cons (ps_if (pt_cmpR op_eq (pv 1) pe_str (nomark _)) (pss_one (ps_ret (pe_mk N.ri hr (by omega) (by rfl) (pa_cons (pe_ix ix_tup (pv 0) pe_int (fun _ _ => rfl)) pa_nil)))) pss_nil)
    (pss_cons (ps_if (pt_cmpR op_eq (pv 1) pe_str (nomark _)) (pss_one (ps_ret (pe_mk N.fl hr (by omega) (by rfl) (pa_cons (pe_ix ix_tup (pv 0) pe_int (fun _ _ => rfl)) pa_nil)))) pss_nil)
    (pss_cons (ps_if (pt_cmpR op_eq (pv 1) pe_str (nomark _)) (pss_one (ps_ret (pe_mk N.tu hr (by omega) (by rfl) (pa_cons (pe_ix ix_tup (pv 0) pe_int (fun _ _ => rfl)) pa_nil)))) pss_nil)
    (pss_cons (ps_set (i := 2) sc_built.nd rfl (by first | exact Or.inl rfl | exact Or.inr rfl) (pe_callD D_built (by first | exact hr | exact hr.mono (by decide) | exact hr.mono (by omega)) (by rfl) (pa_cons (pe_ix ix_tup (pv 0) pe_int (fun _ _ => rfl)) pa_nil)))
    (pss_cons (ps_if (pt_cmpR op_eq (pv 1) pe_str (nomark _)) (pss_one (ps_ret (pe_k1 O.inv hr (by omega) (pv 2)))) pss_nil)
    (pss_cons (ps_set (i := 3) sc_built.nd rfl (by first | exact Or.inl rfl | exact Or.inr rfl) (pe_callD D_built (by first | exact hr | exact hr.mono (by decide) | exact hr.mono (by omega)) (by rfl) (pa_cons (pe_ix ix_tup (pv 0) pe_int (fun _ _ => rfl)) pa_nil)))
    (pss_cons (ps_if (pt_cmpR op_eq (pv 1) pe_str (nomark _)) (pss_one (ps_ret (pe_k2 O.and O.sub hr (by omega) (pv 2) (pv 3)))) pss_nil)
    (pss_one (ps_ret (pe_ifExp (pt_cmpR op_eq (pv 1) pe_str (nomark _)) (pe_k2 O.or O.sub hr (by omega) (pv 2) (pv 3)) (pe_k2 O.add O.sub hr (by omega) (pv 2) (pv 3))))))))))))))), ?_⟩
    cases k with
    | halves q =>
      cases hv with
      | @tup a xs _ hs ha =>
        cases ha with
        | @cons c0 _ _ _ r0 q0 =>
          cases r0
          cases q0 with
          | @cons c1 _ _ _ r1 q0 =>
            cases q0
            cases r1
            refine Evl.q_asg (v := .str "halves") (Evl.ev_op (Evl.ev_var (v := .ref a) rfl) Evl.ev_c (Evl.rv_ixT (Evl.ex_t (w_sub (L := L)) hs) rfl)) fun H1 e1 => ?_
            refine Evl.q_when (b := true) (Evl.et_is (Evl.et_test (Evl.ev_op (Evl.ev_var (v := .str "halves") rfl) Evl.ev_c (Evl.rv_eq rfl))) (by decide)) (fun _ H2 e2 => ?_) (fun z => nomatch z)
            have eA := (e1.trans e2)
            have eqp : q = p := hok
            subst eqp
            exact k_ret (L := L) (k := .halves q) (mk_1 (i := .ha) (Evl.ev_op (Evl.ev_var (v := .ref a) rfl) Evl.ev_c (Evl.rv_ixT (Evl.ex_t (w_sub (L := L)) (Evl.ex_t (w_ex (L := L) eA) hs)) rfl)) (hid_ex eA hL) p1 p3 (fun _ _ dx h => ⟨dx, h⟩)) (fun x H' hx e q => kk x H' (Evl.fresh_back eA hx) (eA.trans e) q)
    | boxes q =>
      cases hv with
      | @tup a xs _ hs ha =>
        cases ha with
        | @cons c0 _ _ _ r0 q0 =>
          cases r0
          cases q0 with
          | @cons c1 _ _ _ r1 q0 =>
            cases q0
            cases r1
            refine Evl.q_asg (v := .str "boxes") (Evl.ev_op (Evl.ev_var (v := .ref a) rfl) Evl.ev_c (Evl.rv_ixT (Evl.ex_t (w_sub (L := L)) hs) rfl)) fun H1 e1 => ?_
            refine Evl.q_when (b := false) (Evl.et_is (Evl.et_test (Evl.ev_op (Evl.ev_var (v := .str "boxes") rfl) Evl.ev_c (Evl.rv_eq rfl))) (by decide)) (fun z => nomatch z) (fun _ H2 e2 => ?_)
            refine Evl.q_when (b := true) (Evl.et_is (Evl.et_test (Evl.ev_op (Evl.ev_var (v := .str "boxes") rfl) Evl.ev_c (Evl.rv_eq rfl))) (by decide)) (fun _ H3 e3 => ?_) (fun z => nomatch z)
            have eA := ((e1.trans e2).trans e3)
            have eqp : q = p := hok
            subst eqp
            exact k_ret (L := L) (k := .boxes q) (mk_1 (i := .bo) (Evl.ev_op (Evl.ev_var (v := .ref a) rfl) Evl.ev_c (Evl.rv_ixT (Evl.ex_t (w_sub (L := L)) (Evl.ex_t (w_ex (L := L) eA) hs)) rfl)) (hid_ex eA hL) p1 p3 (fun _ _ dx h => ⟨dx, h⟩)) (fun x H' hx e q => kk x H' (Evl.fresh_back eA hx) (eA.trans e) q)
    | rising q =>
      cases hv with
      | @tup a xs _ hs ha =>
        cases ha with
        | @cons c0 _ _ _ r0 q0 =>
          cases r0
          cases q0 with
          | @cons c1 _ _ _ r1 q0 =>
            cases q0
            cases r1
            refine Evl.q_asg (v := .str "rising") (Evl.ev_op (Evl.ev_var (v := .ref a) rfl) Evl.ev_c (Evl.rv_ixT (Evl.ex_t (w_sub (L := L)) hs) rfl)) fun H1 e1 => ?_
            refine Evl.q_when (b := false) (Evl.et_is (Evl.et_test (Evl.ev_op (Evl.ev_var (v := .str "rising") rfl) Evl.ev_c (Evl.rv_eq rfl))) (by decide)) (fun z => nomatch z) (fun _ H2 e2 => ?_)
            refine Evl.q_when (b := false) (Evl.et_is (Evl.et_test (Evl.ev_op (Evl.ev_var (v := .str "rising") rfl) Evl.ev_c (Evl.rv_eq rfl))) (by decide)) (fun z => nomatch z) (fun _ H3 e3 => ?_)
            refine Evl.q_when (b := true) (Evl.et_is (Evl.et_test (Evl.ev_op (Evl.ev_var (v := .str "rising") rfl) Evl.ev_c (Evl.rv_eq rfl))) (by decide)) (fun _ H4 e4 => ?_) (fun z => nomatch z)
            have eA := (((e1.trans e2).trans e3).trans e4)
            have eqp : q = p := hok
            subst eqp
            exact k_ret (L := L) (k := .rising q) (mk_1 (i := .ri) (Evl.ev_op (Evl.ev_var (v := .ref a) rfl) Evl.ev_c (Evl.rv_ixT (Evl.ex_t (w_sub (L := L)) (Evl.ex_t (w_ex (L := L) eA) hs)) rfl)) (hid_ex eA hL) p1 p3 (fun _ _ dx h => ⟨dx, h⟩)) (fun x H' hx e q => kk x H' (Evl.fresh_back eA hx) (eA.trans e) q)
    | flats q =>
      cases hv with
      | @tup a xs _ hs ha =>
        cases ha with
        | @cons c0 _ _ _ r0 q0 =>
          cases r0
          cases q0 with
          | @cons c1 _ _ _ r1 q0 =>
            cases q0
            cases r1
            refine Evl.q_asg (v := .str "flats") (Evl.ev_op (Evl.ev_var (v := .ref a) rfl) Evl.ev_c (Evl.rv_ixT (Evl.ex_t (w_sub (L := L)) hs) rfl)) fun H1 e1 => ?_
            refine Evl.q_when (b := false) (Evl.et_is (Evl.et_test (Evl.ev_op (Evl.ev_var (v := .str "flats") rfl) Evl.ev_c (Evl.rv_eq rfl))) (by decide)) (fun z => nomatch z) (fun _ H2 e2 => ?_)
            refine Evl.q_when (b := false) (Evl.et_is (Evl.et_test (Evl.ev_op (Evl.ev_var (v := .str "flats") rfl) Evl.ev_c (Evl.rv_eq rfl))) (by decide)) (fun z => nomatch z) (fun _ H3 e3 => ?_)
            refine Evl.q_when (b := false) (Evl.et_is (Evl.et_test (Evl.ev_op (Evl.ev_var (v := .str "flats") rfl) Evl.ev_c (Evl.rv_eq rfl))) (by decide)) (fun z => nomatch z) (fun _ H4 e4 => ?_)
            refine Evl.q_when (b := true) (Evl.et_is (Evl.et_test (Evl.ev_op (Evl.ev_var (v := .str "flats") rfl) Evl.ev_c (Evl.rv_eq rfl))) (by decide)) (fun _ H5 e5 => ?_) (fun z => nomatch z)
            have eA := ((((e1.trans e2).trans e3).trans e4).trans e5)
            have eqp : q = p := hok
            subst eqp
            exact k_ret (L := L) (k := .flats q) (mk_1 (i := .fl) (Evl.ev_op (Evl.ev_var (v := .ref a) rfl) Evl.ev_c (Evl.rv_ixT (Evl.ex_t (w_sub (L := L)) (Evl.ex_t (w_ex (L := L) eA) hs)) rfl)) (hid_ex eA hL) p1 p3 (fun _ _ dx h => ⟨dx, h⟩)) (fun x H' hx e q => kk x H' (Evl.fresh_back eA hx) (eA.trans e) q)
    | turns q =>
      cases hv with
      | @tup a xs _ hs ha =>
        cases ha with
        | @cons c0 _ _ _ r0 q0 =>
          cases r0
          cases q0 with
          | @cons c1 _ _ _ r1 q0 =>
            cases q0
            cases r1
            refine Evl.q_asg (v := .str "turns") (Evl.ev_op (Evl.ev_var (v := .ref a) rfl) Evl.ev_c (Evl.rv_ixT (Evl.ex_t (w_sub (L := L)) hs) rfl)) fun H1 e1 => ?_
            refine Evl.q_when (b := false) (Evl.et_is (Evl.et_test (Evl.ev_op (Evl.ev_var (v := .str "turns") rfl) Evl.ev_c (Evl.rv_eq rfl))) (by decide)) (fun z => nomatch z) (fun _ H2 e2 => ?_)
            refine Evl.q_when (b := false) (Evl.et_is (Evl.et_test (Evl.ev_op (Evl.ev_var (v := .str "turns") rfl) Evl.ev_c (Evl.rv_eq rfl))) (by decide)) (fun z => nomatch z) (fun _ H3 e3 => ?_)
            refine Evl.q_when (b := false) (Evl.et_is (Evl.et_test (Evl.ev_op (Evl.ev_var (v := .str "turns") rfl) Evl.ev_c (Evl.rv_eq rfl))) (by decide)) (fun z => nomatch z) (fun _ H4 e4 => ?_)
            refine Evl.q_when (b := false) (Evl.et_is (Evl.et_test (Evl.ev_op (Evl.ev_var (v := .str "turns") rfl) Evl.ev_c (Evl.rv_eq rfl))) (by decide)) (fun z => nomatch z) (fun _ H5 e5 => ?_)
            refine Evl.q_when (b := true) (Evl.et_is (Evl.et_test (Evl.ev_op (Evl.ev_var (v := .str "turns") rfl) Evl.ev_c (Evl.rv_eq rfl))) (by decide)) (fun _ H6 e6 => ?_) (fun z => nomatch z)
            have eA := (((((e1.trans e2).trans e3).trans e4).trans e5).trans e6)
            exact k_ret (L := L) (k := .turns q) (mk_T (Evl.ev_op (Evl.ev_var (v := .ref a) rfl) Evl.ev_c (Evl.rv_ixT (Evl.ex_t (w_sub (L := L)) (Evl.ex_t (w_ex (L := L) eA) hs)) rfl)) (hid_ex eA hL) hok.2.1 (by have := hok.2.2; omega)) (fun x H' hx e q => kk x H' (Evl.fresh_back eA hx) (eA.trans e) q)
    | no k1 =>
      cases hv with
      | @tup a xs _ hs ha =>
        cases ha with
        | @cons c0 _ _ _ r0 q0 =>
          cases r0
          cases q0 with
          | @cons c1 _ _ _ r1 q0 =>
            cases q0
            have dp := hdep
            simp only [depK] at dp
            obtain ⟨m, rfl⟩ : ∃ m, n = m + 1 := ⟨n - 1, by omega⟩
            refine Evl.q_asg (v := .str "not") (Evl.ev_op (Evl.ev_var (v := .ref a) rfl) Evl.ev_c (Evl.rv_ixT (Evl.ex_t (w_sub (L := L)) hs) rfl)) fun H1 e1 => ?_
            refine Evl.q_when (b := false) (Evl.et_is (Evl.et_test (Evl.ev_op (Evl.ev_var (v := .str "not") rfl) Evl.ev_c (Evl.rv_eq rfl))) (by decide)) (fun z => nomatch z) (fun _ H2 e2 => ?_)
            refine Evl.q_when (b := false) (Evl.et_is (Evl.et_test (Evl.ev_op (Evl.ev_var (v := .str "not") rfl) Evl.ev_c (Evl.rv_eq rfl))) (by decide)) (fun z => nomatch z) (fun _ H3 e3 => ?_)
            refine Evl.q_when (b := false) (Evl.et_is (Evl.et_test (Evl.ev_op (Evl.ev_var (v := .str "not") rfl) Evl.ev_c (Evl.rv_eq rfl))) (by decide)) (fun z => nomatch z) (fun _ H4 e4 => ?_)
            refine Evl.q_when (b := false) (Evl.et_is (Evl.et_test (Evl.ev_op (Evl.ev_var (v := .str "not") rfl) Evl.ev_c (Evl.rv_eq rfl))) (by decide)) (fun z => nomatch z) (fun _ H5 e5 => ?_)
            refine Evl.q_when (b := false) (Evl.et_is (Evl.et_test (Evl.ev_op (Evl.ev_var (v := .str "not") rfl) Evl.ev_c (Evl.rv_eq rfl))) (by decide)) (fun z => nomatch z) (fun _ H6 e6 => ?_)
            have eA := (((((e1.trans e2).trans e3).trans e4).trans e5).trans e6)
            refine q_asgK (L := L) (k := k1) (ev_built (Evl.ev_op (Evl.ev_var (v := .ref a) rfl) Evl.ev_c (Evl.rv_ixT (Evl.ex_t (w_sub (L := L)) (Evl.ex_t (w_ex (L := L) eA) hs)) rfl)) (hid_ex eA hL) (r1.up (w_ex eA)) hok p1 p3 (by omega)) fun x1 H7 n1 e7 k1' => ?_
            refine Evl.q_when (b := true) (Evl.et_is (Evl.et_test (Evl.ev_op (Evl.ev_var (v := .str "not") rfl) Evl.ev_c (Evl.rv_eq rfl))) (by decide)) (fun _ H8 e8 => ?_) (fun z => nomatch z)
            have eB := (eA.trans e7).trans e8
            exact k_ret (L := L) (k := .no k1) (evk_1 (Evl.ev_var rfl) (hid_ex eB hL) (k1'.up (w_ex e8))) (fun x H' hx e q => kk x H' (Evl.fresh_back eB hx) (eB.trans e) q)
    | both k1 k2 =>
      cases hv with
      | @tup a xs _ hs ha =>
        cases ha with
        | @cons c0 _ _ _ r0 q0 =>
          cases r0
          cases q0 with
          | @cons c1 _ _ _ r1 q0 =>
            cases q0 with
            | @cons c2 _ _ _ r2 q0 =>
              cases q0
              have dp := hdep
              simp only [depK] at dp
              obtain ⟨m, rfl⟩ : ∃ m, n = m + 1 := ⟨n - 1, by omega⟩
              refine Evl.q_asg (v := .str "both") (Evl.ev_op (Evl.ev_var (v := .ref a) rfl) Evl.ev_c (Evl.rv_ixT (Evl.ex_t (w_sub (L := L)) hs) rfl)) fun H1 e1 => ?_
              refine Evl.q_when (b := false) (Evl.et_is (Evl.et_test (Evl.ev_op (Evl.ev_var (v := .str "both") rfl) Evl.ev_c (Evl.rv_eq rfl))) (by decide)) (fun z => nomatch z) (fun _ H2 e2 => ?_)
              refine Evl.q_when (b := false) (Evl.et_is (Evl.et_test (Evl.ev_op (Evl.ev_var (v := .str "both") rfl) Evl.ev_c (Evl.rv_eq rfl))) (by decide)) (fun z => nomatch z) (fun _ H3 e3 => ?_)
              refine Evl.q_when (b := false) (Evl.et_is (Evl.et_test (Evl.ev_op (Evl.ev_var (v := .str "both") rfl) Evl.ev_c (Evl.rv_eq rfl))) (by decide)) (fun z => nomatch z) (fun _ H4 e4 => ?_)
              refine Evl.q_when (b := false) (Evl.et_is (Evl.et_test (Evl.ev_op (Evl.ev_var (v := .str "both") rfl) Evl.ev_c (Evl.rv_eq rfl))) (by decide)) (fun z => nomatch z) (fun _ H5 e5 => ?_)
              refine Evl.q_when (b := false) (Evl.et_is (Evl.et_test (Evl.ev_op (Evl.ev_var (v := .str "both") rfl) Evl.ev_c (Evl.rv_eq rfl))) (by decide)) (fun z => nomatch z) (fun _ H6 e6 => ?_)
              have eA := (((((e1.trans e2).trans e3).trans e4).trans e5).trans e6)
              refine q_asgK (L := L) (k := k1) (ev_built (Evl.ev_op (Evl.ev_var (v := .ref a) rfl) Evl.ev_c (Evl.rv_ixT (Evl.ex_t (w_sub (L := L)) (Evl.ex_t (w_ex (L := L) eA) hs)) rfl)) (hid_ex eA hL) (r1.up (w_ex eA)) hok.1 p1 p3 (by omega)) fun x1 H7 n1 e7 k1' => ?_
              refine Evl.q_when (b := false) (Evl.et_is (Evl.et_test (Evl.ev_op (Evl.ev_var (v := .str "both") rfl) Evl.ev_c (Evl.rv_eq rfl))) (by decide)) (fun z => nomatch z) (fun _ H8 e8 => ?_)
              have eB := (eA.trans e7).trans e8
              refine q_asgK (L := L) (k := k2) (ev_built (Evl.ev_op (Evl.ev_var (v := .ref a) rfl) Evl.ev_c (Evl.rv_ixT (Evl.ex_t (w_sub (L := L)) (Evl.ex_t (w_ex (L := L) eB) hs)) rfl)) (hid_ex eB hL) (r2.up (w_ex eB)) hok.2 p1 p3 (by omega)) fun x2 H9 n2 e9 k2' => ?_
              have ep : placesK k1 = placesK k2 := (okK_places hok.1).trans (okK_places hok.2).symm
              refine Evl.q_when (b := true) (Evl.et_is (Evl.et_test (Evl.ev_op (Evl.ev_var (v := .str "both") rfl) Evl.ev_c (Evl.rv_eq rfl))) (by decide)) (fun _ H10 e10 => ?_) (fun z => nomatch z)
              have eC := (eB.trans e9).trans e10
              exact k_ret (L := L) (k := .both k1 k2) (evk_2 (Evl.ev_var rfl) (Evl.ev_var rfl) (hid_ex eC hL) (k1'.up (w_ex ((e8.trans e9).trans e10))) (k2'.up (w_ex e10)) ep) (fun x H' hx e q => kk x H' (Evl.fresh_back eC hx) (eC.trans e) q)
    | either k1 k2 =>
      cases hv with
      | @tup a xs _ hs ha =>
        cases ha with
        | @cons c0 _ _ _ r0 q0 =>
          cases r0
          cases q0 with
          | @cons c1 _ _ _ r1 q0 =>
            cases q0 with
            | @cons c2 _ _ _ r2 q0 =>
              cases q0
              have dp := hdep
              simp only [depK] at dp
              obtain ⟨m, rfl⟩ : ∃ m, n = m + 1 := ⟨n - 1, by omega⟩
              refine Evl.q_asg (v := .str "either") (Evl.ev_op (Evl.ev_var (v := .ref a) rfl) Evl.ev_c (Evl.rv_ixT (Evl.ex_t (w_sub (L := L)) hs) rfl)) fun H1 e1 => ?_
              refine Evl.q_when (b := false) (Evl.et_is (Evl.et_test (Evl.ev_op (Evl.ev_var (v := .str "either") rfl) Evl.ev_c (Evl.rv_eq rfl))) (by decide)) (fun z => nomatch z) (fun _ H2 e2 => ?_)
              refine Evl.q_when (b := false) (Evl.et_is (Evl.et_test (Evl.ev_op (Evl.ev_var (v := .str "either") rfl) Evl.ev_c (Evl.rv_eq rfl))) (by decide)) (fun z => nomatch z) (fun _ H3 e3 => ?_)
              refine Evl.q_when (b := false) (Evl.et_is (Evl.et_test (Evl.ev_op (Evl.ev_var (v := .str "either") rfl) Evl.ev_c (Evl.rv_eq rfl))) (by decide)) (fun z => nomatch z) (fun _ H4 e4 => ?_)
              refine Evl.q_when (b := false) (Evl.et_is (Evl.et_test (Evl.ev_op (Evl.ev_var (v := .str "either") rfl) Evl.ev_c (Evl.rv_eq rfl))) (by decide)) (fun z => nomatch z) (fun _ H5 e5 => ?_)
              refine Evl.q_when (b := false) (Evl.et_is (Evl.et_test (Evl.ev_op (Evl.ev_var (v := .str "either") rfl) Evl.ev_c (Evl.rv_eq rfl))) (by decide)) (fun z => nomatch z) (fun _ H6 e6 => ?_)
              have eA := (((((e1.trans e2).trans e3).trans e4).trans e5).trans e6)
              refine q_asgK (L := L) (k := k1) (ev_built (Evl.ev_op (Evl.ev_var (v := .ref a) rfl) Evl.ev_c (Evl.rv_ixT (Evl.ex_t (w_sub (L := L)) (Evl.ex_t (w_ex (L := L) eA) hs)) rfl)) (hid_ex eA hL) (r1.up (w_ex eA)) hok.1 p1 p3 (by omega)) fun x1 H7 n1 e7 k1' => ?_
              refine Evl.q_when (b := false) (Evl.et_is (Evl.et_test (Evl.ev_op (Evl.ev_var (v := .str "either") rfl) Evl.ev_c (Evl.rv_eq rfl))) (by decide)) (fun z => nomatch z) (fun _ H8 e8 => ?_)
              have eB := (eA.trans e7).trans e8
              refine q_asgK (L := L) (k := k2) (ev_built (Evl.ev_op (Evl.ev_var (v := .ref a) rfl) Evl.ev_c (Evl.rv_ixT (Evl.ex_t (w_sub (L := L)) (Evl.ex_t (w_ex (L := L) eB) hs)) rfl)) (hid_ex eB hL) (r2.up (w_ex eB)) hok.2 p1 p3 (by omega)) fun x2 H9 n2 e9 k2' => ?_
              have ep : placesK k1 = placesK k2 := (okK_places hok.1).trans (okK_places hok.2).symm
              refine Evl.q_when (b := false) (Evl.et_is (Evl.et_test (Evl.ev_op (Evl.ev_var (v := .str "either") rfl) Evl.ev_c (Evl.rv_eq rfl))) (by decide)) (fun z => nomatch z) (fun _ H10 e10 => ?_)
              have eC := (eB.trans e9).trans e10
              exact k_ret (L := L) (k := .either k1 k2) (evk_ift (Evl.et_is (Evl.et_test (Evl.ev_op (Evl.ev_var (v := .str "either") rfl) Evl.ev_c (Evl.rv_eq rfl))) (by decide)) (fun H11 e11 => evk_2 (Evl.ev_var rfl) (Evl.ev_var rfl) (hid_ex (eC.trans e11) hL) (k1'.up (w_ex (((e8.trans e9).trans e10).trans e11))) (k2'.up (w_ex (e10.trans e11))) ep)) (fun x H' hx e q => kk x H' (Evl.fresh_back eC hx) (eC.trans e) q)
    | any k1 k2 =>
      cases hv with
      | @tup a xs _ hs ha =>
        cases ha with
        | @cons c0 _ _ _ r0 q0 =>
          cases r0
          cases q0 with
          | @cons c1 _ _ _ r1 q0 =>
            cases q0 with
            | @cons c2 _ _ _ r2 q0 =>
              cases q0
              have dp := hdep
              simp only [depK] at dp
              obtain ⟨m, rfl⟩ : ∃ m, n = m + 1 := ⟨n - 1, by omega⟩
              refine Evl.q_asg (v := .str "any") (Evl.ev_op (Evl.ev_var (v := .ref a) rfl) Evl.ev_c (Evl.rv_ixT (Evl.ex_t (w_sub (L := L)) hs) rfl)) fun H1 e1 => ?_
              refine Evl.q_when (b := false) (Evl.et_is (Evl.et_test (Evl.ev_op (Evl.ev_var (v := .str "any") rfl) Evl.ev_c (Evl.rv_eq rfl))) (by decide)) (fun z => nomatch z) (fun _ H2 e2 => ?_)
              refine Evl.q_when (b := false) (Evl.et_is (Evl.et_test (Evl.ev_op (Evl.ev_var (v := .str "any") rfl) Evl.ev_c (Evl.rv_eq rfl))) (by decide)) (fun z => nomatch z) (fun _ H3 e3 => ?_)
              refine Evl.q_when (b := false) (Evl.et_is (Evl.et_test (Evl.ev_op (Evl.ev_var (v := .str "any") rfl) Evl.ev_c (Evl.rv_eq rfl))) (by decide)) (fun z => nomatch z) (fun _ H4 e4 => ?_)
              refine Evl.q_when (b := false) (Evl.et_is (Evl.et_test (Evl.ev_op (Evl.ev_var (v := .str "any") rfl) Evl.ev_c (Evl.rv_eq rfl))) (by decide)) (fun z => nomatch z) (fun _ H5 e5 => ?_)
              refine Evl.q_when (b := false) (Evl.et_is (Evl.et_test (Evl.ev_op (Evl.ev_var (v := .str "any") rfl) Evl.ev_c (Evl.rv_eq rfl))) (by decide)) (fun z => nomatch z) (fun _ H6 e6 => ?_)
              have eA := (((((e1.trans e2).trans e3).trans e4).trans e5).trans e6)
              refine q_asgK (L := L) (k := k1) (ev_built (Evl.ev_op (Evl.ev_var (v := .ref a) rfl) Evl.ev_c (Evl.rv_ixT (Evl.ex_t (w_sub (L := L)) (Evl.ex_t (w_ex (L := L) eA) hs)) rfl)) (hid_ex eA hL) (r1.up (w_ex eA)) hok.1 p1 p3 (by omega)) fun x1 H7 n1 e7 k1' => ?_
              refine Evl.q_when (b := false) (Evl.et_is (Evl.et_test (Evl.ev_op (Evl.ev_var (v := .str "any") rfl) Evl.ev_c (Evl.rv_eq rfl))) (by decide)) (fun z => nomatch z) (fun _ H8 e8 => ?_)
              have eB := (eA.trans e7).trans e8
              refine q_asgK (L := L) (k := k2) (ev_built (Evl.ev_op (Evl.ev_var (v := .ref a) rfl) Evl.ev_c (Evl.rv_ixT (Evl.ex_t (w_sub (L := L)) (Evl.ex_t (w_ex (L := L) eB) hs)) rfl)) (hid_ex eB hL) (r2.up (w_ex eB)) hok.2 p1 p3 (by omega)) fun x2 H9 n2 e9 k2' => ?_
              have ep : placesK k1 = placesK k2 := (okK_places hok.1).trans (okK_places hok.2).symm
              refine Evl.q_when (b := false) (Evl.et_is (Evl.et_test (Evl.ev_op (Evl.ev_var (v := .str "any") rfl) Evl.ev_c (Evl.rv_eq rfl))) (by decide)) (fun z => nomatch z) (fun _ H10 e10 => ?_)
              have eC := (eB.trans e9).trans e10
              exact k_ret (L := L) (k := .any k1 k2) (evk_iff (Evl.et_is (Evl.et_test (Evl.ev_op (Evl.ev_var (v := .str "any") rfl) Evl.ev_c (Evl.rv_eq rfl))) (by decide)) (fun H11 e11 => evk_2 (Evl.ev_var rfl) (Evl.ev_var rfl) (hid_ex (eC.trans e11) hL) (k1'.up (w_ex (((e8.trans e9).trans e10).trans e11))) (k2'.up (w_ex (e10.trans e11))) ep)) (fun x H' hx e q => kk x H' (Evl.fresh_back eC hx) (eC.trans e) q)
end
end U
set_option Elab.async false
set_option linter.all false
set_option maxRecDepth 100000
set_option maxHeartbeats 2000000
/-! == of any data with a str -/
namespace U
open PySem PySem.Spec PyProof.Rows L2
open Evl (Ex)
section
open PySem.SeqAt PySem.AutoSeq1 PySem.MeetsSeq
theorem str_eq_declines_dict (b : Str) (u : Tok) (l : Addr) (c : Value) (es : Array DictEntry) (n : Nat) (dd : Option Addr) (sl : Array (Option Value)) :
    Meets (Builtin.«str.__eq__» ⟨[.str b u, .ref l], []⟩) (fun _ R s => s.heap.get? l = some { cls := c, dict := dd, data := .dict es n, slots := sl } ∧ R (.ok (.ret .notImplemented)) s) :=
  .of_wp fun prog w A R s h => by obtain ⟨hp, g, d, tk, os⟩ := s; obtain ⟨hl, h⟩ := h; wp_walk using wpAny_loadPart' hl, wpAny_load hl; exact ⟨_, rfl, h⟩
theorem rc_dict_str {A : Around} {s : Shared} {d : Addr} {dd : Option Addr} {es : Array DictEntry} {n : Nat} {sl : Array (Option Value)} (b : Str) (u : Tok)
    (ho : s.heap.get? d = some { cls := .type "dict", dict := dd, data := .dict es n, slots := sl }) (hu : A.units < cLine) : RcAt A s (.ref d) (.str b u) false := fun prog w E Q h => by
  have T : s.TypeIs (.ref d) "dict" := ⟨_, ho, rfl⟩
  refine rc_eq_decline_or (k := false) T (typeIs_str s b u) (by decide) F.sub_str_dict F.slot_dict_eq F.slot_str_eq_refl
    (fun Q' hq => wpAny_call_entry PySem.F.slot_dict_eq T PySem.F.entry_dict_eq ?_ (PySem.F.args_dict_eq_2 _ _))
    (fun _ hq => call_meets F.slot_str_eq_refl (typeIs_str s b u) F.entry_str_eq (F.args_str_eq_2 _ _) (str_eq_declines_dict b u d (.type "dict") es n dd sl) ⟨ho, hq⟩)
    (fun _ hq => wpAny_of_eq (rfl : isSame (.ref d) (.str b u) = pure false) hq) (.inr hu) h
  show wpAny _ _ (Builtin.Dict.dictSlotArgs "__eq__" ⟨[.ref d, .str b u], []⟩ >>= _) _ _ s
  refine wpAny_bind ?_
  unfold Builtin.Dict.dictSlotArgs
  refine wpAny_bind (wpAny_notOrdered_dict T ?_)
  show wpAny _ _ (pure (Value.ref d, Value.str b u)) _ _ s
  refine wpAny_pure ?_
  refine wpAny_bind (wpAny_isInstance (T := "str") (typeIs_str s b u) PySem.F.sub_str_dict ?_)
  simp only [Bool.not_false, if_true]
  obtain ⟨hp, g, dm, tk, os⟩ := s
  wp_walk
  exact ⟨_, rfl, hq⟩
end
/-- is data just that text? -/
def isS (d : PyData) (z : Str) : Bool := match d with | .str y => y == z | _ => false
section
variable {X : Cx}
def rEqS (K : PySem.W.Frag) : R2 := fun x y H Q => ∃ d z, Dq K H x d ∧ y = .str z ∧ Q (.bl (isS d z)) H
theorem op_eqS (hu : X.A.units < cLine) : OpR X (compareOp .Eq) (rEqS X.K) := by
  intro pins s σ H x y v u Q I rx ry h
  obtain ⟨d, z, hd, rfl, q⟩ := h
  have cs : ∀ (i : Bool), scal x (.str z) = true → decide (x = .str z) = i → Q (.bl i) H → wpAny (model X.prog X.w) X.A (compareOp .Eq v u) (EP X pins σ Q) X.xe s := fun i hs hi hq => op_eq pins s σ H x _ v u Q I rx ry ⟨hs, by rw [hi]; exact hq⟩
  cases hd with
  | non => exact cs false rfl (by simp) q
  | bl b => exact cs false rfl (by simp) q
  | int i => exact cs false rfl (by simp) q
  | str y => exact cs (y == z) rfl dec_str q
  | lst hs _ =>
    cases rx
    obtain ⟨t, rfl⟩ := ry
    obtain ⟨its, _, ⟨o, n, ho, hc, _, hd⟩, _⟩ := I.list hs
    exact SeqAt.RcAt.list_str z t ⟨_, ho, hc, _, hd⟩ hu _ _ _ _ (fin_bl I q rfl)
  | tup hs _ =>
    cases rx
    obtain ⟨t, rfl⟩ := ry
    obtain ⟨its, _, ⟨o, ho, hc, n, hd⟩, _⟩ := I.tuple hs
    exact SeqAt.RcAt.tuple_str z t ⟨_, ho, hc, _, hd⟩ hu _ _ _ _ (fin_bl I q rfl)
  | dct ha =>
    cases rx
    obtain ⟨t, rfl⟩ := ry
    obtain ⟨_, _, vs, _, dd⟩ := (show ObjOk X.prog X.w H s.heap _ (.dK []) from I.hok _ _ ha)
    obtain ⟨⟨cls, di, da, sl⟩, es, ep, ho, hx, hda, _⟩ := dd
    have hc : cls = .type "dict" := hx.1
    subst hc
    cases hda
    exact rc_dict_str z t ho hu _ _ _ _ (fin_bl I q rfl)
end
end U
set_option Elab.async false
set_option linter.all false
set_option maxRecDepth 100000
set_option maxHeartbeats 2000000
/-! zip(xs, xs[1:]) of a list or a tuple -/
namespace U
open PySem L2
open Evl (Ex)
section
variable {X : Cx}
def rSlS (K : PySem.W.Frag) : V → Option Int → Option Int → Hp → VK → Prop := fun x lo hi H Q => rSlL K x lo hi H Q ∨ rSlA K x lo hi H Q
theorem sl_seq : L2.SlR X (rSlS X.K) := SlR.or sl_list sl_tupA
end
section
variable {K : PySem.W.Frag} {σ : L2.St} {H : Hp} {a : Addr} {xs : List V}
theorem cut_1 : ∀ {xs : List V}, cutV xs (some 1) none = xs.drop 1
  | [] => rfl
  | x :: us => by
    have e1 : HT.sIx (x :: us).length 0 (some ((1 : Nat) : Int)) = 1 := by
      rw [HT.sIx_nat, List.length_cons]
      omega
    show ((x :: us).drop (HT.sIx (x :: us).length 0 (some ((1 : Nat) : Int)))).take ((x :: us).length - HT.sIx (x :: us).length 0 (some ((1 : Nat) : Int))) = us
    rw [e1]
    simp
def EvZ (K : PySem.W.Frag) (ta : TA) (σ : L2.St) (H : Hp) (a : Addr) (xs : List V) : Prop := ∀ H1, Ex H H1 → ∀ Q : List V → Hp → Prop, (∀ b H2, Ex H1 H2 → ((SqL K H2 a xs ∧ SqL K H2 b (xs.drop 1)) ∨ (SqT K H2 a xs ∧ SqT K H2 b (xs.drop 1))) → Q [.ref a, .ref b] H2) → ta σ H1 Q
theorem ez_tail {te : TE} (h : Evl.Ev te σ H (.ref a)) (hx : SqL K H a xs ∨ SqT K H a xs) : EvZ K (tCons te (tCons (tSl (rSlS K) te (tPart (tC (.int 1))) tNoPart) tNil)) σ H a xs := fun H1 e Q q =>
  h H1 e _ fun H2 e2 => h H2 (e.trans e2) _ fun H3 e3 => by
    have eA := (e.trans e2).trans e3
    show ∃ i, _ ∧ _
    refine ⟨1, rfl, ?_⟩
    show rSlS K (.ref a) (some 1) none H3 _
    rcases hx with hx | hx
    · refine .inl ⟨a, xs, rfl, Evl.ex_l eA hx, fun p hp => q p _ ((e2.trans e3).trans (Ex.new hp)) (.inl ⟨Evl.ex_l (eA.trans (Ex.new hp)) hx, SqL.of (by rw [upd_same, cut_1])⟩)⟩
    · refine .inr ⟨a, xs, rfl, Evl.ex_t eA hx, fun hw => ?_, fun _ p hp => q p _ ((e2.trans e3).trans (Ex.new hp)) (.inr ⟨Evl.ex_t (eA.trans (Ex.new hp)) hx, SqT.of (by rw [upd_same, cut_1])⟩)⟩
      have e0 : xs = [] := by
        cases xs with
        | nil => rfl
        | cons x us =>
          have e1 : HT.sIx (x :: us).length 0 (some ((1 : Nat) : Int)) = 1 := by
            rw [HT.sIx_nat, List.length_cons]
            omega
          have := hw.1
          exact absurd (e1.symm.trans this) (by decide)
      subst e0
      exact q a H3 (e2.trans e3) (.inr ⟨Evl.ex_t eA hx, Evl.ex_t eA hx⟩)
theorem el_zip1 {ta : TA} {te : TE} {i1 i2 : Nat} {vs : List Nat} {v : Nat → V} (h : EvZ K ta σ H a xs) (hz : xs.length ≤ 40000)
    (hw : ∀ x y, wipe (((wipe σ vs).set i1 (some x)).set i2 (some y)) vs = wipe σ vs)
    (he : ∀ (i : Nat) (x y : V) H1, Ex H H1 → xs[i]? = some x → xs[i + 1]? = some y → Evl.Ev te (((wipe σ vs).set i1 (some x)).set i2 (some y)) H1 (v i)) :
    Evl.EvL (tLc (RZ.iZipA K ta) (gTup K 2 (gCons (gName i1) (gCons (gName i2) gNil))) tYes te vs) σ H ((List.range (xs.length - 1)).map v) := fun H0 e0 Q q => h H0 e0 _ fun b H1 e1 hx => by
  have turn : ∀ (Dl : Addr) (i : Nat) (x : V) (H2 H3 : Hp), i < xs.length - 1 → Cm H1 v Dl i H2 → YPair (fun i => xs[i]?) (fun i => (xs.drop 1)[i]?) i H2 x H3 → gTup K 2 (gCons (gName i1) (gCons (gName i2) gNil)) x (wipe σ vs) H3 fun σ2 H2 => wipe σ2 vs = wipe σ vs ∧ tYes σ2 H2 fun b H3 =>
      if b = true then te σ2 H3 fun y H4 => ∃ acc, H4 Dl = some (.lst acc) ∧ acc.length < sizeLine ∧ Cm H1 v Dl (i + 1) (upd H4 Dl (.lst (acc ++ [y]))) else Cm H1 v Dl (i + 1) H3 := by
    intro Dl i x H2 H3 hi p yp
    obtain ⟨T, u, w, rfl, hT, rfl, hu, hw'⟩ := yp
    have hw2 : xs[i + 1]? = some w := by
      rw [← hw']
      show _ = (xs.drop 1)[i]?
      rw [List.getElem?_drop, Nat.add_comm]
    refine ⟨T, [u, w], rfl, SqT.of upd_same, rfl, u, [w], rfl, w, [], rfl, rfl, hw u w, ?_⟩
    exact yes_lc (A := fun H3 => te ((List.set (wipe σ vs) i1 (some u)).set i2 (some w)) H3 fun y H4 => ∃ acc, H4 Dl = some (.lst acc) ∧ acc.length < sizeLine ∧ Cm H1 v Dl (i + 1) (upd H4 Dl (.lst (acc ++ [y])))) (B := fun H3 => Cm H1 v Dl (i + 1) H3) <| cm_turn p (by omega) _ (Ex.new hT) (he i u w _ (e0.trans e1) hu hw2)
  have hn : xs.length - 1 = min xs.length (xs.drop 1).length := by
    rw [List.length_drop]
    omega
  rcases hx with ⟨x1, x2⟩ | ⟨x1, x2⟩
  · refine ⟨a, b, xs, xs.drop 1, rfl, .inl ⟨x1, x2, fun Dl hD => ?_⟩⟩
    exact lc_it (walk_zip (n := xs.length - 1) hn) (Cm H1 v Dl) (cm_0 hD) (fun i H2 _ p => ⟨Evl.ex_l p.2.1 x1, Evl.ex_l p.2.1 x2⟩) (fun i x H2 H3 hi p y => turn Dl i x H2 H3 hi p y)
      (fun H2 p => q Dl H2 (Evl.fresh_back e1 p.1) (e1.trans p.2.1) p.2.2)
  · refine ⟨a, b, xs, xs.drop 1, rfl, .inr ⟨x1, x2, fun Dl hD => ?_⟩⟩
    exact lc_it (walk_zipT (n := xs.length - 1) hn) (Cm H1 v Dl) (cm_0 hD) (fun i H2 _ p => ⟨Evl.ex_t p.2.1 x1, Evl.ex_t p.2.1 x2⟩) (fun i x H2 H3 hi p y => turn Dl i x H2 H3 hi p y)
      (fun H2 p => q Dl H2 (Evl.fresh_back e1 p.1) (e1.trans p.2.1) p.2.2)
end
end U
set_option Elab.async false
set_option linter.all false
set_option maxRecDepth 100000
set_option maxHeartbeats 4000000
/-! forms of data -/
namespace U
open PySem PySem.Spec PyProof.Rows L2
open Evl (Ex)
abbrev s_is_form : Stmt := top 16
abbrev sc_is_form_N : List Str := ["thing", "word", "many"]
theorem sc_is_form : FnScope sc_is_form_N ["thing", "word", "many"] (defScope s_is_form) := ⟨rfl, rfl, rfl, by decide +kernel, rfl, by decide +kernel, by decide +kernel⟩
section
def entries : PyData → List PyData
  | .list ds => ds
  | .tuple ds => ds
  | _ => []
end
section
def el (d : PyData) (i : Nat) : PyData := (entries d).getD i .none
end
section
def allD (f : PyData → Bool) (d : PyData) : Bool := (entries d).all f
end
section
def isF (w : Str) (p : Int) (d : PyData) : Bool := isO p d && isS (el d 0) w
end
section
def valI : PyData → Int
  | .int i => i
  | _ => 0
end
section
def spF (K : PySem.W.Frag) : Sp := fun vs H Q _ => ∃ v d z p, vs = [v, .str z, .int p] ∧ 1 ≤ p ∧ Dq K H v d ∧ (∃ n, fits n d) ∧ ∀ H', Ex H H' → Q (.bl (isF z p d)) H'
end
section
variable {K : PySem.W.Frag} {H : Hp}
theorem seq_of {v : V} {d : PyData} (hd : Dq K H v d) (h : isR d = true) (hw : ∃ n, fits n d) : ∃ a xs, v = .ref a ∧ (SqL K H a xs ∨ SqT K H a xs) ∧ DqAll K H xs (entries d) ∧ (entries d).length ≤ 40000 ∧ ∀ x ∈ entries d, ∃ n, fits n x := by
  cases d with
  | list ds =>
    cases hd with
    | lst hs ha => exact ⟨_, _, rfl, .inl hs, ha, fits_len (.inl hw), fun x hx => fits_in (.inl hw) hx⟩
  | tuple ds =>
    cases hd with
    | tup hs ha => exact ⟨_, _, rfl, .inr hs, ha, fits_len (.inr hw), fun x hx => fits_in (.inr hw) hx⟩
  | _ => cases h
end
section
variable {K : PySem.W.Frag} {H : Hp}
theorem isO_R {p : Int} {d : PyData} (h : isO p d = true) : isR d = true ∧ ((entries d).length : Int) = p := by
  cases d with
  | list ds => exact ⟨rfl, of_decide_eq_true h⟩
  | tuple ds => exact ⟨rfl, of_decide_eq_true h⟩
  | _ => cases h
end
section
variable {K : PySem.W.Frag} {H : Hp}
theorem dqa_at : ∀ {vs : List V} {ds : List PyData} {i : Nat}, DqAll K H vs ds → i < ds.length → ∃ v, vs[i]? = some v ∧ Dq K H v (ds.getD i .none)
  | _, _, _, .nil, h => absurd h (Nat.not_lt_zero _)
  | _, _, 0, .cons r _, _ => ⟨_, rfl, r⟩
  | _, _, i + 1, .cons _ t, h => by
    obtain ⟨v, h1, h2⟩ := dqa_at (i := i) t (Nat.lt_of_succ_lt_succ h)
    exact ⟨v, by simpa using h1, by simpa using h2⟩
end
section
variable {K : PySem.W.Frag} {H : Hp}
theorem ev_at {σ : L2.St} {te : TE} {v : V} {d : PyData} {n : Nat} (h : Evl.Ev te σ H v) (hd : Dq K H v d) (hr : isR d = true) (hw : ∃ n, fits n d) (hn : n < (entries d).length) : ∃ y, Evl.Ev (tOp (rIxA K) te (tC (.int (n : Int)))) σ H y ∧ Dq K H y (el d n) ∧ ∃ m, fits m (el d n) := by
  obtain ⟨a, xs, rfl, hx, ha, hz, hf⟩ := seq_of hd hr hw
  obtain ⟨y, hy, dy⟩ := dqa_at ha hn
  refine ⟨y, ev_ixA h hx ?_, dy, hf _ ?_⟩
  · show atI xs (n : Int) = some y
    have lt : n < xs.length := by rw [dqa_len ha]; exact hn
    have e : ixN xs.length (n : Int) = some n := by
      unfold ixN
      rw [if_pos (by omega), if_pos (by omega)]
      simp
    simp [atI, e, hy]
  · show (entries d).getD n .none ∈ entries d
    rw [List.getD_eq_getElem?_getD, List.getElem?_eq_getElem hn]
    exact List.getElem_mem hn
end
section
variable {P : Program} {w : World} {K : PySem.W.Frag} {mg : Str → Option Value} {base : Heap} {c : KC}
theorem ok_is_form {f : Addr} {fd : FuncData} (F : Fun K "is_form" "is_form" s_is_form f fd) (T : TxF mg) (D_is_row_of : DefAt P w K mg base "is_row_of" 2 ["thing", "many"] (spBp K isO)) : FnOk P w K mg base CX0 3 f fd ["thing", "word", "many"] (spF K) := by
  refine F.ok sc_is_form (fun vs H Q E h => ?_) (fun cdv A outer s H vs Q E hr h => ?_)
  · obtain ⟨_, _, _, _, rfl, _⟩ := h
    rfl
  · obtain ⟨v, d, z, p, rfl, hp, hd, hw, k⟩ := h
    refine ⟨_, (pss_one (ps_ret (pe_and (pe_callD D_is_row_of (by first | exact hr | exact hr.mono (by decide) | exact hr.mono (by omega)) (by rfl) (pa_cons (pv 0) (pa_cons (pv 2) pa_nil))) (pe_one (pe_cmpR (op_eqS (Nat.lt_of_le_of_lt (Nat.le_add_right _ 64) hr.units)) (pe_ix ix_seq (pv 0) pe_int (fun _ _ => rfl)) (pv 1) (nomark _)))))), ?_⟩
    have v0 : Evl.Ev (tVar 0) (start sc_is_form_N [v, .str z, .int p]) H v := Evl.ev_var rfl
    have v1 : Evl.Ev (tVar 1) (start sc_is_form_N [v, .str z, .int p]) H (.str z) := Evl.ev_var rfl
    have v2 : Evl.Ev (tVar 2) (start sc_is_form_N [v, .str z, .int p]) H (.int p) := Evl.ev_var rfl
    refine Evl.s_ret (v := .bl (isF z p d)) (Evl.ev_andV (a := isO p d) (b := isS (el d 0) z) (ev_spBpq v0 v2 hd hw) fun hz => ?_) k
    obtain ⟨r, l⟩ := isO_R hz
    obtain ⟨y, ey, dy, _⟩ := ev_at (n := 0) v0 hd r hw (by omega)
    exact Evl.ev_op ey v1 fun H1 e1 Q q => ⟨_, z, dy.up e1, rfl, q H1 (Ex.refl _)⟩
end
section
variable {P : Program} {w : World} {K : PySem.W.Frag} {mg : Str → Option Value} {base : Heap} {c : KC}
theorem ev_spF {σ : L2.St} {H : Hp} {te : TE} {v : V} {d : PyData} {z : Str} {p : Int} (h : Evl.Ev te σ H v) (hp : 1 ≤ p) (hd : Dq K H v d) (hw : ∃ n, fits n d) : Evl.Ev (tCallD (spF K) (tCons te (tCons (tC (.str z)) (tCons (tC (.int p)) tNil)))) σ H (.bl (isF z p d)) :=
  ev_callD (Evl.ea_cons h (Evl.ea_cons Evl.ev_c (Evl.ea_cons Evl.ev_c Evl.ea_nil))) fun H1 e1 Q q => ⟨v, d, z, p, rfl, hp, hd.up e1, hw, q⟩
end
section
variable {P : Program} {w : World} {K : PySem.W.Frag} {mg : Str → Option Value} {base : Heap} {c : KC}
theorem isF_R {w : Str} {p : Int} {d : PyData} (h : isF w p d = true) : isR d = true ∧ ((entries d).length : Int) = p := isO_R (Bool.and_eq_true_iff.mp h).1
end
section
variable {P : Program} {w : World} {K : PySem.W.Frag} {mg : Str → Option Value} {base : Heap} {c : KC}
theorem ev_allQ {σ : L2.St} {H : Hp} {tl te : TE} {v : V} {d : PyData} {f : PyData → Bool} {j : Nat} {vs : List Nat} (h : Evl.Ev tl σ H v) (hd : Dq K H v d) (hr : isR d = true) (hw : ∃ n, fits n d) (hs : ∀ x, wipe ((wipe σ vs).set j (some x)) vs = wipe σ vs)
    (he : ∀ (x : V) e H1, (∃ n, fits n e) → Ex H H1 → Dq K H1 x e → Evl.Ev te ((wipe σ vs).set j (some x)) H1 (.bl (f e))) : Evl.Ev (tCB (rAll K) (tCons (tLc (iSeq K tl) (gName j) tYes te vs) tNil)) σ H (.bl (allD f d)) := by
  obtain ⟨a, xs, rfl, hx, ha, hl, hf⟩ := seq_of hd hr hw
  exact Evl.ev_is (ev_all (bs := (entries d).map f) (el_seqBq h hx ha hl hs fun x e H1 m e1 hd' => he x e H1 (hf e m) e1 hd')) (congrArg V.bl (by simp [allD]))
end
end U
set_option Elab.async false
set_option linter.all false
set_option maxRecDepth 100000
set_option maxHeartbeats 4000000
/-! samples made and their rows drawn -/
namespace U
open PySem PySem.Spec PyProof.Rows L2
open Evl (Ex)
open C8 (Met Mak pe_mt pe_mt0 pe_mk)
abbrev s_Sample_init : Stmt := inClass (top 59) 0
abbrev sc_Sample_init_N : List Str := ["self", "places", "examples", "index", "thing", "example"]
theorem sc_Sample_init : FnScope sc_Sample_init_N ["self", "places", "examples"] (defScope s_Sample_init) := ⟨rfl, rfl, rfl, by decide +kernel, rfl, by decide +kernel, by decide +kernel⟩
abbrev s_Sample_examples : Stmt := inClass (top 59) 1
abbrev sc_Sample_examples_N : List Str := ["self"]
theorem sc_Sample_examples : FnScope sc_Sample_examples_N ["self"] (defScope s_Sample_examples) := ⟨rfl, rfl, rfl, by decide +kernel, rfl, by decide +kernel, by decide +kernel⟩
abbrev s_point : Stmt := top 65
abbrev sc_point_N : List Str := ["_law_draws", "_law_places", "_law_wide", "_law_k"]
theorem sc_point : FnScope sc_point_N ["_law_draws", "_law_places", "_law_wide"] (defScope s_point) := ⟨rfl, rfl, rfl, by decide +kernel, rfl, by decide +kernel, by decide +kernel⟩
abbrev s_rows : Stmt := top 66
abbrev sc_rows_N : List Str := ["_law_draws", "_law_places", "_law_most", "_law_wide", "_law_rows_here", "_law_k", "_law_point_here"]
theorem sc_rows : FnScope sc_rows_N ["_law_draws", "_law_places", "_law_most", "_law_wide"] (defScope s_rows) := ⟨rfl, rfl, rfl, by decide +kernel, rfl, by decide +kernel, by decide +kernel⟩
section
def Smp (K : PySem.W.Frag) (L : List Addr) (H : Hp) (x C : Addr) (p : Int) (ds : List PyData) : Prop := ∃ dx v, H x = some (.ins C dx [("places", .int p), ("_pairs", v)]) ∧ Dp K (W L H) v (.tuple ds)
end
section
structure SmpC (K : PySem.W.Frag) (C : Addr) : Prop where
  cl : Cls K C
  nP : NoAttr K C "places"
  nQ : NoAttr K C "_pairs"
  kS : PySem.W.kitOne K (.ref C) (.ref C) = some true
  ha : PySem.W.findIn K (.ref C) "__class__" = some (some (.builtin "object.__class__"))
  hn : PySem.W.specialIn K (.builtin "object.__class__") "__get__" = some (some (.builtin "getset_descriptor.__get__"))
  htk : PySem.W.takesIn K (.builtin "object.__class__") = some true
  hm : PySem.W.mroIn K C (.type "object") = some true
end
section
def Rws (p : Int) (ds : List PyData) : Prop := ds.length ≤ 20000 ∧ ∀ d ∈ ds, Rw p d
end
section
def spInit (K : PySem.W.Frag) (C : Addr) : Sp := fun vs H Q _ => ∃ x dx v p ds L, vs = [.ref x, .int p, v] ∧ H x = some (.ins C dx []) ∧ 1 ≤ p ∧ p ≤ 3 ∧ Hid (x :: L) H ∧ (Dp K (W (x :: L) H) v (.list ds) ∨ Dp K (W (x :: L) H) v (.tuple ds)) ∧ Rws p ds ∧
  ∀ H', (∀ a o, a ≠ x → H a = some o → H' a = some o) → Smp K (x :: L) H' x C p ds → Q .non H'
end
section
def spExamples (K : PySem.W.Frag) (C : Addr) : Sp := fun vs H Q _ => ∃ x p ds L, vs = [.ref x] ∧ Hid L H ∧ Smp K L H x C p ds ∧ ∀ t H', H t = none → Ex H H' → Gr K L H' t ds → Q (.ref t) H'
end
section
variable {P : Program} {w : World} {K : PySem.W.Frag} {mg : Str → Option Value} {base : Heap} {C : Addr}
theorem funD_ok0 {x qual : Str} {params : Arguments} {body : List Stmt} {scope : Scope} {dvs : List V} {kws : List (Str × V)} {f : Addr} {fd : FuncData} {N ps : List Str} {k : Nat} {sp : Sp} (F : FunD K x qual params body scope dvs kws f fd) (S : FnScope N ps scope) (len : ∀ vs H Q E, sp vs H Q E → vs.length = ps.length)
    (hbody : ∀ (cdv : Value) (A : Around) (outer : List Env) (s : Shared) (H : Hp) (vs : List V) (Q : VK) (E : XK), Room k (A.deeper (envOfC qual scope s.heap.objs.size f cdv)) → sp vs H Q E →
      ∃ t, PSs (cxOf CX0 P w K mg base N qual scope f cdv A outer s H E).nox body t ∧ t { nx := fun _ H' => Q .non H', rt := Q } (start N vs) H) : FnOk P w K mg base CX0 (k + 1) f fd ps sp :=
  F.ok S len fun cdv A outer s H vs Q E hr h => by
    obtain ⟨t, h1, h2⟩ := hbody cdv A outer s H vs Q E hr h
    exact ⟨t, h1.nox, h2⟩
end
section
variable {P : Program} {w : World} {K : PySem.W.Frag} {mg : Str → Option Value} {base : Heap} {C : Addr}
theorem ev_spCopy {L : List Addr} {σ : L2.St} {H : Hp} {te : TE} {v : V} {d : PyData} {p : Int} (h : Evl.Ev te σ H v) (hL : Hid L H) (hd : Dp K (W L H) v d) (hr : Rw p d) : EvD K L (tCallD (spCopy K) (tCons te tNil)) σ H d := fun H1 e Q q =>
  h H1 e _ fun H2 e2 => ⟨v, p, d, L, rfl, hid_ex (e.trans e2) hL, hd.up (w_ex (e.trans e2)), hr, fun v' H' e' hv => q v' H' (e2.trans e') hv⟩
end
section
variable {P : Program} {w : World} {K : PySem.W.Frag} {mg : Str → Option Value} {base : Heap} {C : Addr}
theorem Smp.up {L : List Addr} {H H' : Hp} {x : Addr} {p : Int} {ds : List PyData} (h : Smp K L H x C p ds) (e : Ex H H') : Smp K L H' x C p ds := by
  obtain ⟨dx, v, h1, h2⟩ := h
  exact ⟨dx, v, e _ _ h1, h2.up (w_ex e)⟩
end
section
variable {P : Program} {w : World} {K : PySem.W.Frag} {mg : Str → Option Value} {base : Heap} {C : Addr}
theorem Smp.low {L L2 : List Addr} {H : Hp} {x : Addr} {p : Int} {ds : List PyData} (h : Smp K L2 H x C p ds) (s : ∀ a ∈ L, a ∈ L2) : Smp K L H x C p ds := by
  obtain ⟨dx, v, h1, h2⟩ := h
  exact ⟨dx, v, h1, h2.up (w_sub2 s)⟩
end
section
variable {P : Program} {w : World} {K : PySem.W.Frag} {mg : Str → Option Value} {base : Heap} {C : Addr}
theorem sfld_run {ta tv : TE} {f : Str} {D : Ends} {σ : L2.St} {H : Hp} (h : tv σ H fun y H1 => ta σ H1 fun x H2 => ∃ a C dx fs, x = .ref a ∧ H2 a = some (.ins C dx fs) ∧ Cls K C ∧ NoAttr K C f ∧ fs.length < 1000 ∧ D.nx σ (upd H2 a (.ins C dx (putF f y fs)))) : sFld K ta tv f D σ H := h
end
section
variable {P : Program} {w : World} {K : PySem.W.Frag} {mg : Str → Option Value} {base : Heap} {C : Addr}
theorem ok_Sinit {f : Addr} {fd : FuncData} {T0 : Addr} (F : FunD K "__init__" "Sample.__init__" (defArgs s_Sample_init) (defBody s_Sample_init) (defScope s_Sample_init) [.ref T0] [] f fd) (T : TxF mg) (S : SmpC K C)
    (D_is_number_of_places : DefAt P w K mg base "is_number_of_places" 2 ["thing"] (spB K isN)) (D_is_row : DefAt P w K mg base "is_row" 1 ["thing"] (spB K isR)) (D_is_example : DefAt P w K mg base "is_example" 4 ["thing", "places"] (spBp K isX))
    (D_copied_example : DefAt P w K mg base "copied_example" 1 ["example"] (spCopy K)) : FnOk P w K mg base CX0 5 f fd ["self", "places", "examples"] (spInit K C) := by
  refine funD_ok0 F sc_Sample_init (fun vs H Q E h => ?_) (fun cdv A outer s H vs Q E hr h => ?_)
  · obtain ⟨_, _, _, _, _, _, rfl, _⟩ := h
    rfl
  · obtain ⟨x, dx, v, p, ds, L, rfl, hx, p1, p3, hL, hd, hR, k⟩ := h
    refine ⟨_, (pss_cons (ps_if (pt_not (pt_val (pe_callD D_is_number_of_places (by first | exact hr | exact hr.mono (by decide) | exact hr.mono (by omega)) (by rfl) (pa_cons (pv 1) pa_nil)))) (pss_one ps_never) pss_nil)
    (pss_cons (ps_if (pt_not (pt_val (pe_callD D_is_row (by first | exact hr | exact hr.mono (by decide) | exact hr.mono (by omega)) (by rfl) (pa_cons (pv 2) pa_nil)))) (pss_one ps_never) pss_nil)
    (pss_cons (ps_for PassesOwn.never rfl (pi_enumA (by rfl) T.m_enumerate (pa_cons (pv 2) pa_nil)) (pg_tup (by rfl) (pgs_cons (pg_name (i := 3) sc_Sample_init.nd rfl (by first | exact Or.inl rfl | exact Or.inr rfl)) (pgs_cons (pg_name (i := 4) sc_Sample_init.nd rfl (by first | exact Or.inl rfl | exact Or.inr rfl)) pgs_nil)))
      (pss_one (ps_if (pt_not (pt_val (pe_callD D_is_example (by first | exact hr | exact hr.mono (by decide) | exact hr.mono (by omega)) (by rfl) (pa_cons (pv 4) (pa_cons (pv 1) pa_nil))))) (pss_one ps_never) pss_nil)))
    (pss_cons (ps_fld (pv 0) (pv 1) rfl)
    (pss_one (ps_fld (pv 0) (pe_callTy call_tuple_of (by rfl) T.m_tuple (by decide +kernel) (pa_cons (pe_lc (own := [("example", 5)]) (g := gName 5) (tt := tYes) (by rfl) sc_Sample_init.nd (pi_seq (pv 2)) (blkOk_by (N := sc_Sample_init_N) (sc := defScope s_Sample_init) (by decide +kernel)) (fun _ _ _ _ _ => (pg_name (i := 5) sc_Sample_init.nd rfl (by first | exact Or.inl rfl | exact Or.inr rfl))) (fun _ _ _ _ _ => pts_nil) (fun _ _ _ _ _ => (pe_callD D_copied_example (by first | exact hr | exact hr.mono (by decide) | exact hr.mono (by omega)) (by rfl) (pa_cons (pv 5) pa_nil)))) pa_nil)) rfl)))))), ?_⟩
    have v1 : Evl.Ev (tVar 1) (start sc_Sample_init_N [.ref x, .int p, v]) H (.int p) := Evl.ev_var rfl
    have v2 : Evl.Ev (tVar 2) (start sc_Sample_init_N [.ref x, .int p, v]) H v := Evl.ev_var rfl
    have hN : isN (.int p) = true := by
      show (decide (1 ≤ p) && decide (p ≤ 3)) = true
      simp [p1, p3]
    obtain ⟨d0, hd0, hR0⟩ : ∃ d0, Dp K H v d0 ∧ isR d0 = true := hd.elim (fun z => ⟨_, z.up w_sub, rfl⟩) fun z => ⟨_, z.up w_sub, rfl⟩
    refine Evl.q_when (b := false) (Evl.et_is (Evl.et_not (Evl.et_B (ev_spB v1 (.int p)))) (by rw [hN]; rfl)) (fun z => by cases z) (fun _ H1 e1 => ?_)
    refine Evl.q_when (b := false) (Evl.et_is (Evl.et_not (Evl.et_B (ev_spB (v2.mono e1) (hd0.up e1)))) (by rw [hR0]; rfl)) (fun z => by cases z) (fun _ H2 e2 => ?_)
    have e12 := e1.trans e2
    obtain ⟨a, xs, rfl, hs, ha⟩ : ∃ a xs, v = .ref a ∧ (SqL K (W (x :: L) H) a xs ∨ SqT K (W (x :: L) H) a xs) ∧ DpAll K (W (x :: L) H) xs ds := by
      rcases hd with hd | hd
      · cases hd with
        | lst hs ha => exact ⟨_, _, rfl, .inl hs, ha⟩
      · cases hd with
        | tup hs ha => exact ⟨_, _, rfl, .inr hs, ha⟩
    have hs' : SqL K H a xs ∨ SqT K H a xs := hs.imp (Evl.ex_l w_sub) (Evl.ex_t w_sub)
    have hlen := dpa_len ha
    let Pv : Nat → L2.St → Hp → Prop := fun _ σ' H' => Ex H H' ∧ ∃ s3 s4, σ' = [some (.ref x), some (.int p), some (.ref a), s3, s4, none]
    have turn : ∀ (i : Nat) (y : V) (σ' : L2.St) (H3 H4 : Hp) (D : Ends) (u : TS), i < xs.length → Pv i σ' H3 → YPair (fun i => some (.int (i : Nat))) (fun i => xs[i]?) i H3 y H4 → gTup K 2 (gCons (gName 3) (gCons (gName 4) gNil)) y σ' H4 fun σ2 H5 =>
        tIfS (tNot (tB (tCallD (spBp K isX) (tCons (tVar 4) (tCons (tVar 1) tNil))))) tNever tNext { D with nx := Pv (i + 1), ct := Pv (i + 1), bk := D.nx } σ2 H5 := by
      intro i y σ' H3 H4 D u hi pv yp
      obtain ⟨e3, s3, s4, rfl⟩ := pv
      obtain ⟨Tt, u1, u2, rfl, hT, rfl, hu1, hu2⟩ := yp
      have hu2' : xs[i]? = some u2 := hu2
      obtain ⟨d, hd1, hd2⟩ := dpa_get ha hu2'
      have hrw := hR.2 d (List.mem_of_getElem? hd1)
      refine ⟨Tt, [u1, u2], rfl, SqT.of upd_same, rfl, u1, [u2], rfl, u2, [], rfl, rfl, ?_⟩
      have e4 := e3.trans (Ex.new (o := .tup [u1, u2]) hT)
      refine Evl.s_when (b := false) (Evl.et_is (Evl.et_not (Evl.et_B (ev_spBp (d := d) (p := p) (Evl.ev_var rfl) (Evl.ev_var rfl) ((hd2.up w_sub).up e4) ⟨2, rw_fits hrw⟩))) (by rw [rw_isX hrw]; rfl)) (fun z => by cases z) (fun _ H6 e6 => ?_)
      exact ⟨e4.trans e6, _, _, rfl⟩
    have fin : ∀ σ' H3, Pv xs.length σ' H3 → tSeq (sFld K (tVar 0) (tVar 1) "places") (sFld K (tVar 0) (tCB (fun xs H Q => ∃ p ys, xs = [.ref p] ∧ ((SqL K H p ys ∧ ∀ l, H l = none → Q (.ref l) (upd H l (.tup ys))) ∨ (SqT K H p ys ∧ Q (.ref p) H)))
        (tCons (tLc (iSeq K (tVar 2)) (gName 5) tYes (tCallD (spCopy K) (tCons (tVar 5) tNil)) [5]) tNil)) "_pairs") { nx := fun _ H' => Q .non H', rt := Q } σ' H3 := by
      rintro σ' H3 ⟨e3, s3, s4, rfl⟩
      refine ⟨_, rfl, _, rfl, x, C, dx, [], rfl, e3 x _ hx, S.cl, S.nP, by decide, ?_⟩
      have hLx : Hid (x :: L) (upd H3 x (.ins C dx (putF "places" (.int p) []))) := hid_upd (hid_ex e3 hL)
      have hW : W (x :: L) (upd H3 x (.ins C dx (putF "places" (.int p) []))) = W (x :: L) H3 := w_upd_in (List.mem_cons_self ..)
      have ha2 : DpAll K (W (x :: L) (upd H3 x (.ins C dx (putF "places" (.int p) [])))) xs ds := by
        rw [hW]
        exact ha.up (w_ex e3)
      have hs2 : SqL K (upd H3 x (.ins C dx (putF "places" (.int p) []))) a xs ∨ SqT K (upd H3 x (.ins C dx (putF "places" (.int p) []))) a xs := by
        have hs3 : SqL K (W (x :: L) (upd H3 x (.ins C dx (putF "places" (.int p) [])))) a xs ∨ SqT K (W (x :: L) (upd H3 x (.ins C dx (putF "places" (.int p) [])))) a xs := by
          rw [hW]
          exact hs.imp (Evl.ex_l (w_ex e3)) (Evl.ex_t (w_ex e3))
        exact hs3.imp (Evl.ex_l w_sub) (Evl.ex_t w_sub)
      have eg := eg_seq (K := K) (L := x :: L) (te := tCallD (spCopy K) (tCons (tVar 5) tNil)) (tl := tVar 2) (j := 5) (vs := [5]) (g := id) (σ := [some (.ref x), some (.int p), some (.ref a), s3, s4, none]) (Evl.ev_var rfl) hs2 ha2 hLx (by have := hR.1; omega) (fun _ => rfl)
        (fun L' y d H1 hd1 hL' e' hd' => ev_spCopy (Evl.ev_var rfl) hL' hd' (hR.2 d hd1))
      rw [List.map_id] at eg
      refine sfld_run (evd_tupG eg hLx _ (Ex.refl _) _ fun y H4 e4 hy => ?_)
      refine ⟨_, rfl, x, C, dx, _, rfl, e4 x _ upd_same, S.cl, S.nQ, by show 1 < 1000; omega, ?_⟩
      refine k _ (fun b o nb hb => ?_) ⟨dx, y, upd_same, ?_⟩
      · rw [upd_ne nb]
        refine e4 b o ?_
        rw [upd_ne nb]
        exact e3 b o hb
      · rw [w_upd_in (List.mem_cons_self ..)]
        exact hy
    refine ⟨_, rfl, a, xs, rfl, ?_⟩
    rcases hs' with x1 | x1
    · exact .inl ⟨Evl.ex_l e12 x1, for_it (walk_enum (xs := xs)) Pv ⟨e12, none, none, rfl⟩ (fun i σ' H3 _ pv => Evl.ex_l pv.1 x1) (fun i y σ' H3 H4 hi pv yp => turn i y σ' H3 H4 _ tNext hi pv yp) fin⟩
    · exact .inr ⟨Evl.ex_t e12 x1, for_it (walk_enumT (xs := xs)) Pv ⟨e12, none, none, rfl⟩ (fun i σ' H3 _ pv => Evl.ex_t pv.1 x1) (fun i y σ' H3 H4 hi pv yp => turn i y σ' H3 H4 _ tNext hi pv yp) fin⟩
end
section
variable {P : Program} {w : World} {K : PySem.W.Frag} {mg : Str → Option Value} {base : Heap} {C : Addr}
theorem ok_Sexamples {f : Addr} {fd : FuncData} (F : Fun K "examples" "Sample.examples" s_Sample_examples f fd) (T : TxF mg) (S : SmpC K C) : FnOk P w K mg base CX0 1 f fd ["self"] (spExamples K C) := by
  refine F.ok sc_Sample_examples (fun vs H Q E h => ?_) (fun cdv A outer s H vs Q E hr h => ?_)
  · obtain ⟨_, _, _, _, rfl, _⟩ := h
    rfl
  · obtain ⟨x, p, ds, L, rfl, hL, hS, k⟩ := h
    refine ⟨_, (pss_one (ps_ret (pe_callTy call_list_of (by rfl) T.m_list (by decide +kernel) (pa_cons (pe_fld (pv 0) rfl) pa_nil)))), ?_⟩
    obtain ⟨dx, v, h1, h2⟩ := hS
    exact eg_list (ev_fld (v := v) (Evl.ev_var (v := .ref x) rfl) h1 S.cl S.nQ rfl) (.inr h2) hL _ (Ex.refl _) _ k
end
section
def EvS (K : PySem.W.Frag) (L : List Addr) (C : Addr) (p : Int) (ds : List PyData) (te : TE) (σ : L2.St) (H : Hp) : Prop := ∀ H1, Ex H H1 → ∀ Q : VK, (∀ y H2, Ex H1 H2 → Smp K L H2 y C p ds → Q (.ref y) H2) → te σ H1 Q
end
section
variable {P : Program} {w : World} {K : PySem.W.Frag} {mg : Str → Option Value} {base : Heap} {C : Addr} {L : List Addr} {σ : L2.St} {H H1 H' : Hp} {p : Int} {ds es : List PyData} {tp tl te : TE} {x y : Addr}
theorem mk_run (hp : Evl.Ev tp σ H (.int p)) (hd : EvD K L tl σ H (.list ds) ∨ EvD K L tl σ H (.tuple ds)) (hL : Hid L H) (p1 : 1 ≤ p) (p3 : p ≤ 3) (hR : Rws p ds) : EvS K L C p ds (tMake C (spInit K C) [] E0 (tCons tp (tCons tl tNil))) σ H := fun H1 e Q q => by
  refine hp H1 e _ fun H2 e2 => ?_
  have main : ∀ v H3, Ex H2 H3 → (Dp K (W L H3) v (.list ds) ∨ Dp K (W L H3) v (.tuple ds)) → ∀ x dx, H3 x = none → H3 dx = none → dx ≠ x → spInit K C [.ref x, .int p, v] (upd (upd H3 dx (.own x)) x (.ins C dx [])) (fun v H2 => v = .non ∧ Q (.ref x) H2) E0 := by
    intro v H3 e3 hv x dx hx hdx ne
    have ex2 : (upd H3 dx (.own x)) x = none := by rw [upd_ne (Ne.symm ne)]; exact hx
    have eN : Ex H3 (upd (upd H3 dx (.own x)) x (.ins C dx [])) := (Ex.new hdx).trans (Ex.new ex2)
    have hL3 : Hid L (upd (upd H3 dx (.own x)) x (.ins C dx [])) := hid_upd (hid_upd (hid_ex ((e.trans e2).trans e3) hL))
    refine ⟨x, dx, v, p, ds, L, rfl, upd_same, p1, p3, fun b hb => ?_, hv.imp (fun z => z.up (w_past hx eN)) (fun z => z.up (w_past hx eN)), hR, fun H' hk hS => ⟨rfl, q x H' ?_ (hS.low fun b hb => List.mem_cons_of_mem _ hb)⟩⟩
    · rcases List.mem_cons.mp hb with z | z
      · rw [z, upd_same]
        simp
      · exact hL3 b z
    · intro b o hb
      have hb3 := e3 b o (e2 b o hb)
      exact hk b o (ne_of_none hb3 hx) (eN b o hb3)
  rcases hd with hd | hd
  · exact hd H2 (e.trans e2) _ fun v H3 e3 hv => main v H3 e3 (.inl hv)
  · exact hd H2 (e.trans e2) _ fun v H3 e3 hv => main v H3 e3 (.inr hv)
end
section
variable {P : Program} {w : World} {K : PySem.W.Frag} {mg : Str → Option Value} {base : Heap} {C : Addr} {L : List Addr} {σ : L2.St} {H H1 H' : Hp} {p : Int} {ds es : List PyData} {tp tl te : TE} {x y : Addr}
theorem Smp.inv (h : Smp K L H x C p ds) : ∃ dx t xs, H x = some (.ins C dx [("places", .int p), ("_pairs", .ref t)]) ∧ SqT K H t xs ∧ DpAll K (W L H) xs ds ∧ Dp K (W L H) (.ref t) (.tuple ds) := by
  obtain ⟨dx, v, h1, h2⟩ := h
  have h2' := h2
  cases h2 with
  | @tup t xs _ hs ha => exact ⟨dx, t, xs, h1, Evl.ex_t w_sub hs, ha, h2'⟩
end
section
theorem lay_all : ∀ {ds : List PyData}, (∀ d ∈ ds, d.canLay0 = true ∧ d.depth ≤ 2) → PyData.canLayAll0 ds = true ∧ PyData.depthAll ds ≤ 2
  | [], _ => ⟨rfl, Nat.zero_le _⟩
  | d :: ds, h => by
    obtain ⟨h1, h2⟩ := h d (List.mem_cons_self ..)
    obtain ⟨h3, h4⟩ := lay_all (ds := ds) fun e he => h e (List.mem_cons_of_mem _ he)
    exact ⟨by show (d.canLay0 && PyData.canLayAll0 ds) = true; rw [h1, h3]; rfl, by show max d.depth (PyData.depthAll ds) ≤ 2; omega⟩
end
section
theorem lay_ints : ∀ ns : List Int, PyData.canLayAll0 (ns.map .int) = true ∧ PyData.depthAll (ns.map .int) = 0
  | [] => ⟨rfl, rfl⟩
  | n :: ns => by
    obtain ⟨h1, h2⟩ := lay_ints ns
    exact ⟨by show (true && PyData.canLayAll0 (ns.map .int)) = true; rw [h1]; rfl, by show max 0 (PyData.depthAll (ns.map .int)) = 0; rw [h2]; rfl⟩
end
section
theorem Rws.shaped {p : Int} {ds : List PyData} (h : Rws p ds) : SeqAt.shaped (.tuple ds) = true ∧ SeqAt.shaped (.list ds) = true := by
  have q : ∀ d ∈ ds, d.canLay0 = true ∧ d.depth ≤ 2 := fun d hd => by
    obtain ⟨ns, b, rfl, _⟩ := h.2 d hd
    obtain ⟨h1, h2⟩ := lay_ints ns
    refine ⟨?_, ?_⟩
    · show (PyData.canLayAll0 (ns.map .int) && true) = true
      rw [h1]
      rfl
    · show max (PyData.depthAll (ns.map .int) + 1) 0 + 1 ≤ 2
      rw [h2]
      decide
  obtain ⟨h1, h2⟩ := lay_all q
  have e1 : PyData.canLay0 (.tuple ds) = true := h1
  have e2 : PyData.depth (.tuple ds) ≤ 64 := by show PyData.depthAll ds + 1 ≤ 64; omega
  have e3 : PyData.canLay0 (.list ds) = true := h1
  have e4 : PyData.depth (.list ds) ≤ 64 := by show PyData.depthAll ds + 1 ≤ 64; omega
  exact ⟨Bool.and_eq_true_iff.mpr ⟨e1, decide_eq_true e2⟩, Bool.and_eq_true_iff.mpr ⟨e3, decide_eq_true e4⟩⟩
end
section
def spPoint (K : PySem.W.Frag) : Sp := fun vs H Q _ => ∃ (l : Addr) (p w : Int) (n : Nat) (L : List Addr), vs = [.ref l, .int p, .int w] ∧ Dr n H l ∧ n < 900000 ∧ l ∈ L ∧ Hid L H ∧ 1 ≤ p ∧ p ≤ 3 ∧ 0 ≤ w ∧ w ≤ 1000 ∧
  ∀ v ns H', ExB l H H' → Dr (n + 3) H' l → ((ns : List Int).length : Int) = p → Dp K (W L H') v (.tuple (ns.map .int)) → Q v H'
end
section
def spRows (K : PySem.W.Frag) : Sp := fun vs H Q _ => ∃ (l : Addr) (p m w : Int) (n : Nat) (L : List Addr), vs = [.ref l, .int p, .int m, .int w] ∧ Dr n H l ∧ n < 800000 ∧ l ∈ L ∧ Hid L H ∧ 1 ≤ p ∧ p ≤ 3 ∧ 0 ≤ m ∧ m ≤ 100 ∧ 0 ≤ w ∧ w ≤ 1000 ∧
  ∀ t ds H', ExB l H H' → Dr (n + 701) H' l → Gr K L H' t ds → (ds.length : Int) ≤ m → (∀ d ∈ ds, Rw p d) → Q (.ref t) H'
end
section
theorem dpa_ints {K : PySem.W.Frag} {H : Hp} : ∀ ns : List Int, DpAll K H (ns.map V.int) (ns.map PyData.int)
  | [] => .nil
  | n :: ns => .cons (.int n) (dpa_ints ns)
end
section
variable {P : Program} {w : World} {K : PySem.W.Frag} {mg : Str → Option Value} {base : Heap}
theorem draw_run {σ : L2.St} {H : Hp} {tm : TE} {l : Addr} {n : Nat} {many : Int} {Q : VK} (h0 : σ[0]? = some (some (.ref l))) (hd : Dr n H l) (hn : n < 1000000) (hm : Evl.Ev tm σ H (.int many)) (m0 : 0 < many) (m1 : many < 1073741824)
    (k : ∀ r H', 0 ≤ r → r < many → Dr (n + 1) H' l → ExB l H H' → Q (.int r) H') : tCallD spDraw (tCons (tVar 0) (tCons tm tNil)) σ H Q :=
  ⟨_, h0, hm H (Ex.refl H) _ fun H1 e1 => ⟨l, many, n, rfl, hd.ex e1, hn, m0, m1, fun r o r0 r1 hd' => k r _ r0 r1 hd' ((ExB.of e1).trans ExB.upd)⟩⟩
end
section
variable {P : Program} {w : World} {K : PySem.W.Frag} {mg : Str → Option Value} {base : Heap}
theorem ok_point {f : Addr} {fd : FuncData} (F : Fun K "_law_point" "_law_point" s_point f fd) (T : TxF mg) (D_draw : DefAt P w K mg base "_law_draw" 1 ["_law_draws", "_law_many"] spDraw) : FnOk P w K mg base CX0 2 f fd ["_law_draws", "_law_places", "_law_wide"] (spPoint K) := by
  refine F.ok sc_point (fun vs H Q E h => ?_) (fun cdv A outer s H vs Q E hr h => ?_)
  · obtain ⟨_, _, _, _, _, rfl, _⟩ := h
    rfl
  · obtain ⟨l, p, w, n, L, rfl, hd, hn, hl, hL, p1, p3, w0, w1, k⟩ := h
    refine ⟨_, (pss_one (ps_ret (pe_callTy call_tuple_of (by rfl) T.m_tuple (by decide +kernel) (pa_cons (pe_lc (own := [("_law_k", 3)]) (g := gName 3) (tt := tYes) (by rfl) sc_point.nd (pi_range1 (by rfl) T.m_range (pa_cons (pv 1) pa_nil)) (blkOk_by (N := sc_point_N) (sc := defScope s_point) (by decide +kernel)) (fun _ _ _ _ _ => (pg_name (i := 3) sc_point.nd rfl (by first | exact Or.inl rfl | exact Or.inr rfl))) (fun _ _ _ _ _ => pts_nil) (fun _ _ _ _ _ => (pe_op op_sub (pe_callD D_draw (by first | exact hr | exact hr.mono (by decide) | exact hr.mono (by omega)) (by rfl) (pa_cons (pv 0) (pa_cons (pe_op op_add (pe_op op_mul pe_int (pv 2)) pe_int) pa_nil))) (pv 2)))) pa_nil)))), ?_⟩
    refine ⟨_, rfl, p, rfl, by omega, by omega, fun Dl hD => ?_⟩
    have hDl : Dl ≠ l := fun e => hd.ne (by rw [← e]; exact hD)
    let Pv : Nat → Hp → Prop := fun i H' => ExB l H H' ∧ Dr (n + i) H' l ∧ ∃ ns : List Int, ns.length = i ∧ H' Dl = some (.lst (ns.map V.int))
    refine lc_range (lo := 0) (n := p.toNat) Pv ⟨ExB.of (Ex.new hD), hd.ex (Ex.new hD), [], rfl, upd_same⟩ (fun i H2 hi pv => ?_) (fun H2 pv => ?_)
    · obtain ⟨e2, hd2, ns, hns, hl2⟩ := pv
      refine ⟨rfl, ?_⟩
      refine yes_lc (B := fun H3 => Pv (i + 1) H3) ?_
      refine draw_run (n := n + i) (many := 2 * w + 1) (by rfl) hd2 (by omega) (Evl.ev_op (Evl.ev_op Evl.ev_c (Evl.ev_var rfl) (Evl.rv_I (C := CMul) (g := fun i j => .int (i * j)) (i := 2) (j := w) (.inl ⟨by decide, by decide⟩))) Evl.ev_c (Evl.rv_I0 (g := fun i j => .int (i + j)))) (by omega) (by omega) fun r H3 r0 r1 hd3 e3 => ?_
      have h3 : H3 Dl = some (.lst (ns.map V.int)) := e3 Dl _ hDl hl2
      refine ⟨_, rfl, _, _, rfl, rfl, ns.map V.int, h3, Evl.sz_lt (by rw [List.length_map]; omega), ?_, ?_, ns ++ [r - w], ?_, ?_⟩
      · intro b o hb hbo
        have nb : b ≠ Dl := ne_of_none hbo hD
        rw [upd_ne nb]
        exact e3 b o hb (e2 b o hb hbo)
      · obtain ⟨x, y, z, q1, q2⟩ := hd3
        exact ⟨x, y, z, by rw [upd_ne (Ne.symm hDl)]; exact q1, q2⟩
      · rw [List.length_append, hns]
        rfl
      · rw [upd_same, List.map_append]
        rfl
    · obtain ⟨e2, hd2, ns, hns, hl2⟩ := pv
      have hDL : Dl ∉ L := hid_not hL hD
      refine ⟨Dl, ns.map V.int, rfl, .inl ⟨SqL.of hl2, fun r hr => ?_⟩⟩
      have hLr : r ∉ L := fun m => (e2.hid hd2.ne hL) r m hr
      refine k _ ns _ (e2.trans (ExB.of (Ex.new hr))) ((hd2.ex (Ex.new hr)).up (by omega)) (by omega) (.tup (SqT.of (w_of hLr upd_same)) (dpa_ints ns))
end
section
variable {P : Program} {w : World} {K : PySem.W.Frag} {mg : Str → Option Value} {base : Heap}
theorem Dr.upd_ne {n : Nat} {H : Hp} {l t : Addr} {o : HO} (h : Dr n H l) (ne : t ≠ l) : Dr n (upd H t o) l := by
  obtain ⟨x, y, z, q1, q2⟩ := h
  exact ⟨x, y, z, by rw [L2.upd_ne (Ne.symm ne)]; exact q1, q2⟩
end
section
variable {P : Program} {w : World} {K : PySem.W.Frag} {mg : Str → Option Value} {base : Heap}
theorem Gr.exB {L : List Addr} {H H' : Hp} {l t : Addr} {ds : List PyData} (h : Gr K L H t ds) (e : ExB l H H') (m : l ∈ L) : Gr K L H' t ds := by
  obtain ⟨n, xs, h1, h2⟩ := h
  exact ⟨n, xs, e t _ (fun z => n (by rw [z]; exact m)) h1, h2.up (e.w (List.mem_cons_of_mem _ m))⟩
end
section
variable {P : Program} {w : World} {K : PySem.W.Frag} {mg : Str → Option Value} {base : Heap}
def spPickV (K : PySem.W.Frag) : Sp := fun vs H Q _ => ∃ (l t : Addr) (xs : List V) (n : Nat) (L : List Addr), vs = [.ref l, .ref t] ∧ Dr n H l ∧ n < 1000000 ∧ l ∈ L ∧ SqL K (W L H) t xs ∧ 0 < xs.length ∧ xs.length < 1073741824 ∧
  ∀ v o, v ∈ xs → Dr (n + 1) (upd H l o) l → Q v (upd H l o)
end
section
variable {P : Program} {w : World} {K : PySem.W.Frag} {mg : Str → Option Value} {base : Heap}
theorem ok_pickV {f : Addr} {fd : FuncData} (F : Fun K "_law_pick" "_law_pick" s_pick f fd) (T : TxB mg) (D_draw : DefAt P w K mg base "_law_draw" 1 ["_law_draws", "_law_many"] spDraw) : FnOk P w K mg base CX0 2 f fd ["_law_draws", "_law_things"] (spPickV K) := by
  refine F.ok sc_pick (fun vs H Q E h => ?_) (fun cdv A outer s H vs Q E hr h => ?_)
  · obtain ⟨_, _, _, _, _, rfl, _⟩ := h
    rfl
  · obtain ⟨l, t, xs, n, L, rfl, hd, hn, hL, hs, h0, h1, k⟩ := h
    refine ⟨_, (pss_one (ps_ret (pe_ix ix_list (pv 1) (pe_callD D_draw (by first | exact hr | exact hr.mono (by decide) | exact hr.mono (by omega)) (by rfl) (pa_cons (pv 0) (pa_cons (pe_callB call_len_seq (by rfl) T.m_len (by decide +kernel) (pa_cons (pv 1) pa_nil)) pa_nil))) (fun _ _ => rfl)))), ?_⟩
    refine ⟨_, rfl, _, rfl, _, rfl, t, xs, rfl, .inl (Evl.ex_l w_sub hs), ?_⟩
    refine ⟨l, _, n, rfl, hd, hn, by omega, by omega, fun r o r0 r1 hd' => ?_⟩
    have hr' : r.toNat < xs.length := by omega
    have er : ((r.toNat : Nat) : Int) = r := by omega
    refine ⟨t, xs, r, xs[r.toNat], rfl, rfl, Evl.ex_l (w_sub (L := L)) (by rw [w_upd_in hL]; exact hs), ?_, ?_⟩
    · have q := atI_nat (List.getElem?_eq_getElem hr')
      rw [er] at q
      exact q
    · exact k _ o (List.getElem_mem hr') hd'
end
section
variable {P : Program} {w : World} {K : PySem.W.Frag} {mg : Str → Option Value} {base : Heap}
theorem ok_rows {f : Addr} {fd : FuncData} (F : Fun K "_law_rows" "_law_rows" s_rows f fd) (T : TxF mg) (D_draw : DefAt P w K mg base "_law_draw" 1 ["_law_draws", "_law_many"] spDraw) (D_pick : DefAt P w K mg base "_law_pick" 2 ["_law_draws", "_law_things"] (spPickV K))
    (D_point : DefAt P w K mg base "_law_point" 2 ["_law_draws", "_law_places", "_law_wide"] (spPoint K)) : FnOk P w K mg base CX0 3 f fd ["_law_draws", "_law_places", "_law_most", "_law_wide"] (spRows K) := by
  refine F.ok sc_rows (fun vs H Q E h => ?_) (fun cdv A outer s H vs Q E hr h => ?_)
  · obtain ⟨_, _, _, _, _, _, rfl, _⟩ := h
    rfl
  · obtain ⟨l, p, m, wd, n, L, rfl, hd, hn, hl, hL, p1, p3, m0, m1, w0, w1, k⟩ := h
    refine ⟨_, (pss_cons (ps_set (i := 4) sc_rows.nd rfl (by first | exact Or.inl rfl | exact Or.inr rfl) (pe_lst pa_nil))
    (pss_cons (ps_for PassesOwn.never rfl (pi_range1 (by rfl) T.m_range (pa_cons (pe_callD D_draw (by first | exact hr | exact hr.mono (by decide) | exact hr.mono (by omega)) (by rfl) (pa_cons (pv 0) (pa_cons (pe_op op_add (pv 2) pe_int) pa_nil))) pa_nil)) (pg_name (i := 5) sc_rows.nd rfl (by first | exact Or.inl rfl | exact Or.inr rfl))
      (pss_cons (ps_set (i := 6) sc_rows.nd rfl (by first | exact Or.inl rfl | exact Or.inr rfl) (pe_callD D_point (by first | exact hr | exact hr.mono (by decide) | exact hr.mono (by omega)) (by rfl) (pa_cons (pv 0) (pa_cons (pv 1) (pa_cons (pv 3) pa_nil)))))
      (pss_cons (ps_if (PW.pt (pw_and (pt_cmpR (op_neD hr.units) (pv 4) (pe_lst pa_nil) (nomark _)) (pw_and1 (pt_cmpR op_eq (pe_callD D_draw (by first | exact hr | exact hr.mono (by decide) | exact hr.mono (by omega)) (by rfl) (pa_cons (pv 0) (pa_cons pe_int pa_nil))) pe_int (nomark _))))) (pss_one (ps_set (i := 6) sc_rows.nd rfl (by first | exact Or.inl rfl | exact Or.inr rfl) (pe_ix ix_tup (pe_callD D_pick (by first | exact hr | exact hr.mono (by decide) | exact hr.mono (by omega)) (by rfl) (pa_cons (pv 0) (pa_cons (pv 4) pa_nil))) pe_int (fun _ _ => rfl)))) pss_nil)
      (pss_one (ps_expr (pe_bm PySem.F.plainAttrs_list PySem.F.slot_list_append PySem.F.type_list_append mt_append (pv 4) (pa_cons (pe_tup (pa_cons (pv 6) (pa_cons (pe_cmpR op_eq (pe_callD D_draw (by first | exact hr | exact hr.mono (by decide) | exact hr.mono (by omega)) (by rfl) (pa_cons (pv 0) (pa_cons pe_int pa_nil))) pe_int (nomark _)) pa_nil))) pa_nil)))))))
    (pss_one (ps_ret (pv 4))))), ?_⟩
    refine Evl.q_asgL (xs := []) (Evl.el_lst Evl.ea_nil (by decide)) fun t H1 ht e1 ht1 => ?_
    have htl : t ≠ l := fun e => hd.ne (by rw [← e]; exact ht)
    have htL : t ∉ L := hid_not hL ht
    have lt : l ∈ t :: L := List.mem_cons_of_mem _ hl
    let Pv : Nat → L2.St → Hp → Prop := fun i σ' H' => ExB l H H' ∧ Dr (n + 1 + 7 * i) H' l ∧ (∃ ds : List PyData, ds.length = i ∧ Gr K L H' t ds ∧ ∀ d ∈ ds, Rw p d) ∧ ∃ s5 s6, σ' = [some (.ref l), some (.int p), some (.int m), some (.int wd), some (.ref t), s5, s6]
    refine draw_run (n := n) (many := m + 1) (by rfl) (hd.ex e1) (by omega) (Evl.ev_op (Evl.ev_var rfl) Evl.ev_c (Evl.rv_I0 (g := fun i j => .int (i + j)))) (by omega) (by omega) fun r H2 r0 r1 hd2 e2 => ⟨r, rfl, by omega, by omega, for_range (lo := 0) (n := r.toNat) Pv ?_ (fun i σ' H3 hi pv => ?_) (fun σ' H3 pv => ?_)⟩
    · refine ⟨(ExB.of e1).trans e2, hd2, ⟨[], rfl, ?_, fun _ z => nomatch z⟩, none, none, rfl⟩
      exact ⟨htL, [], e2 t _ htl ht1, .nil⟩
    · obtain ⟨e3, hd3, ⟨ds, hds, hg, hrw⟩, s5, s6, rfl⟩ := pv
      have hi100 : i < 101 := by omega
      -- the row is made and kept
      have app : ∀ (s5 : Option V) (v6 : V) (ns : List Int) (N : Nat) (H5 : Hp) (D : Ends), D.nx = Pv (i + 1) → ExB l H3 H5 → Dr N H5 l → N ≤ n + 1 + 7 * i + 6 → Gr K L H5 t ds → Dp K (W (t :: L) H5) v6 (.tuple (ns.map .int)) → (ns.length : Int) = p →
          tDrop (tBM K "list" rAppend (tVar 4) (tCons (tTup (tCons (tVar 6) (tCons (tOp rEq (tCallD spDraw (tCons (tVar 0) (tCons (tC (.int 2)) tNil))) (tC (.int 0))) tNil))) tNil)) D [some (.ref l), some (.int p), some (.int m), some (.int wd), some (.ref t), s5, some v6] H5 := by
        intro s5 v6 ns N H5 D hD e5 hd5 hN hg5 hv hns
        obtain ⟨_, xs, hx, hxs⟩ := id hg5
        have hlen := dpa_len hxs
        refine ⟨_, rfl, Or.inl ⟨rfl, xs, SqL.of hx⟩, _, rfl, ?_⟩
        refine draw_run (n := N) (many := 2) (by rfl) hd5 (by omega) Evl.ev_c (by omega) (by omega) fun q H6 q0 q1 hd6 e6 => ?_
        refine ⟨rfl, by show 2 ≤ sizeLine; decide, fun a ha => ?_⟩
        have g6 : Gr K L H6 t ds := hg5.exB e6 hl
        obtain ⟨_, xs6, hx6, hxs6⟩ := id g6
        have hlen6 := dpa_len hxs6
        have eN : Ex H6 (upd H6 a (.tup [v6, .bl (decide (V.int q = V.int 0))])) := Ex.new ha
        have hid6 : Hid (t :: L) H6 := fun b hb => by
          rcases List.mem_cons.mp hb with z | z
          · rw [z]
            exact g6.ne
          · exact (((e3.trans e5).trans e6).hid hd6.ne hL) b z
        refine ⟨t, xs6, .ref a, rfl, rfl, eN t _ hx6, Evl.sz_lt (by omega), ?_⟩
        show D.nx _ _
        rw [hD]
        refine ⟨?_, ?_, ⟨ds ++ [rowD ns (decide (V.int q = V.int 0))], by rw [List.length_append, hds]; rfl, ?_, ?_⟩, s5, some v6, rfl⟩
        · intro b o hb hbo
          have nb : b ≠ t := ne_of_none hbo ht
          rw [L2.upd_ne nb]
          exact eN b o (((e3.trans e5).trans e6) b o hb hbo)
        · exact ((hd6.ex eN).upd_ne htl).up (by omega)
        · refine gr_app htL (eN t _ hx6) (hxs6.up (w_ex eN)) (.tup (SqT.of (w_new hid6 ha)) (.cons ?_ (.cons (.bl _) .nil)))
          exact (hv.up (e6.w lt)).up (w_ex eN)
        · intro d hd
          rcases List.mem_append.mp hd with z | z
          · exact hrw d z
          · have : d = rowD ns (decide (V.int q = V.int 0)) := by simpa using z
            exact ⟨ns, _, this, hns, by omega⟩
      have hidt : ∀ {H5 : Hp}, ExB l H3 H5 → Dr 1000000 H5 l → Gr K L H5 t ds → Hid (t :: L) H5 := fun e5 hd5 g5 b hb => by
        rcases List.mem_cons.mp hb with z | z
        · rw [z]
          exact g5.ne
        · exact ((e3.trans e5).hid hd5.ne hL) b z
      refine ⟨_, rfl, _, rfl, _, rfl, l, p, wd, n + 1 + 7 * i, t :: L, rfl, hd3, by omega, lt, hidt (ExB.refl _ _) (hd3.up (by omega)) hg, p1, p3, w0, w1, fun v ns H4 e4 hd4 hns hv => ?_⟩
      have g4 : Gr K L H4 t ds := hg.exB e4 hl
      refine ⟨_, rfl, by show 0 ≤ sizeLine; exact Nat.zero_le _, fun q hq => ?_⟩
      have eq : Ex H4 (upd H4 q (.lst [])) := Ex.new hq
      have hRws : Rws p ds := ⟨by omega, hrw⟩
      refine ⟨.list ds, .list [], (g4.dp.up w_sub).up eq, .lst (SqL.of upd_same) .nil, hRws.shaped.2, by decide, _, rfl, ?_⟩
      have hdq : Dr (n + 1 + 7 * i + 3) (upd H4 q (.lst [])) l := hd4.ex eq
      refine ite2 (fun hb => ?_) (fun hb => ite2 (fun z => by cases z) fun _ => ?_)
      · have hne : 0 < ds.length := by
          rcases Nat.eq_zero_or_pos ds.length with z | z
          · have : ds = [] := List.eq_nil_of_length_eq_zero z
            subst this
            rw [PySem.SeqAt.eqv_refl _ (SeqAt.canLay_of_shaped hRws.shaped.2)] at hb
            cases hb
          · exact z
        refine draw_run (n := n + 1 + 7 * i + 3) (many := 6) (by rfl) hdq (by omega) Evl.ev_c (by omega) (by omega) fun c H5 c0 c1 hd5 e5 => ⟨rfl, _, rfl, ?_⟩
        have e45 : ExB l H3 H5 := (e4.trans (ExB.of eq)).trans e5
        have g5 : Gr K L H5 t ds := (g4.up eq).exB e5 hl
        refine ite2 (fun hc => ?_) (fun hc => ?_)
        · obtain ⟨_, ys, hy, hys⟩ := id g5
          have ylen := dpa_len hys
          refine ⟨_, rfl, _, rfl, l, t, ys, n + 1 + 7 * i + 3 + 1, L, rfl, hd5, by omega, hl, SqL.of (w_of htL hy), by omega, by omega, fun u o hum hd6 => ?_⟩
          obtain ⟨j, hj, rfl⟩ := List.getElem_of_mem hum
          obtain ⟨d, hd1, hd2⟩ := dpa_get hys (List.getElem?_eq_getElem hj)
          obtain ⟨ns2, b2, rfl, hns2, _⟩ := hrw d (List.mem_of_getElem? hd1)
          have e6 : ExB l H5 (upd H5 l o) := ExB.upd
          have hd3 := hd2.up (e6.w lt)
          generalize ys[j] = u at hd3 ⊢
          cases hd3 with
          | @tup a6 zs _ hs6 ha6 =>
            cases ha6 with
            | @cons v6 _ _ _ r6 rr6 =>
              cases rr6 with
              | @cons v7 _ _ _ r7 rr7 =>
                cases rr7
                refine ⟨a6, [v6, v7], 0, v6, rfl, rfl, Evl.ex_t w_sub hs6, rfl, ?_⟩
                exact app _ v6 ns2 (n + 1 + 7 * i + 3 + 1 + 1) _ _ rfl (e45.trans e6) hd6 (by omega) (g5.exB e6 hl) r6 hns2
        · exact app _ v ns (n + 1 + 7 * i + 3 + 1) H5 _ rfl e45 hd5 (by omega) g5 ((hv.up (w_ex eq)).up (e5.w lt)) hns
      · exact app _ v ns (n + 1 + 7 * i + 3) (upd H4 q (.lst [])) _ rfl (e4.trans (ExB.of eq)) hdq (by omega) (g4.up eq) (hv.up (w_ex eq)) hns
    · obtain ⟨e3, hd3, ⟨ds, hds, hg, hrw⟩, s5, s6, rfl⟩ := pv
      exact Evl.s_ret (Evl.ev_var rfl) fun H4 e4 => k t ds H4 (e3.trans (ExB.of e4)) ((hd3.ex e4).up (by omega)) (hg.up e4) (by omega) hrw
end
end U
set_option Elab.async false
set_option linter.all false
set_option maxRecDepth 100000
set_option maxHeartbeats 2000000
/-! == and != by an own __eq__, against any value: at the library's level -/
set_option Elab.async false
set_option linter.all false
set_option maxRecDepth 100000
set_option maxHeartbeats 2000000
/-! == and != of an instance by its own __eq__, against any value -/
namespace U
open PySem PySem.Spec PyProof.Rows L2
open Evl (Ex)
section
variable {X : Cx} {n : Nat} {sp : Sp} {C f : Addr} {fd : FuncData} {ps : List Str}
/-- a def called somewhere below the running body -/
theorem run_sub {A : Around} {pins : List (Addr × Obj)} {σ : L2.St} {H : Hp} {s : Shared} {Q : VK} {us : List Value} {vs : List V} (F : FnOk X.prog X.w X.K X.mg X.base CX0 n f fd ps sp) (sb : Sub X n A) (hb : Binds X.K fd ps []) (I : Inv X pins σ H s) (r : Vals vs us) (h : sp vs H Q E0) :
    wpAny (model X.prog X.w) A (call (.ref f) us) (EP X pins σ Q) X.xe s := by
  have e0 : Env0 X.prog X.w X.K X.mg X.base A X.stack s H := by
    have e := I.env0
    exact ⟨by rw [sb.fr]; exact e.frames, e.mod, e.bs, e.bsz, e.funs, e.frf, e.hok, e.bare⟩
  have hl := F.len _ _ _ _ h
  refine wpAny_call (codeAny_mono (F.run A X.stack s H ⟨us, []⟩ us vs _ E0 sb.room e0 (by
    have := hb s us I.kIn (by rw [List.append_nil, ← r.length]; exact hl)
    simpa using this) r h) fun r s' hq => ?_)
  cases r with
  | error e => exact pass0 pins σ H s e s' I hq
  | ok fl =>
    cases fl with
    | ret w => exact I.after hq
    | next => exact False.elim hq
    | brk => exact False.elim hq
    | cont => exact False.elim hq
end
end U
set_option Elab.async false
set_option linter.all false
set_option maxRecDepth 100000
set_option maxHeartbeats 4000000
/-! len(o) and x in o by own methods; data in a tuple of data -/
namespace U
open PySem PySem.Spec PyProof.Rows L2
open Evl (Ex)
section
variable {X : Cx} {n : Nat} {sp : Sp} {C f : Addr} {fd : FuncData} {ps : List Str}
/-- an own method found by its special name -/
structure SpM (K : PySem.W.Frag) (C f : Addr) (name : Str) : Prop where
  fi : PySem.W.findIn K (.ref C) name = some (some (.ref f))
  fn : PySem.W.isFn K (.ref f) = true
def rLenO (C : Addr) (sp : Sp) : List V → Hp → VK → Prop := fun xs H Q => ∃ a dx fs, xs = [.ref a] ∧ H a = some (.ins C dx fs) ∧ sp [.ref a] H (fun v H' => ∃ n : Nat, v = .int n ∧ n ≤ 100000 ∧ Q (.int n) H') E0
theorem call_lenO (F : FnOk X.prog X.w X.K X.mg X.base CX0 n f fd ps sp) (hr : Room (n + 1) X.A) (e : SpM X.K C f "__len__") (hb : Binds X.K fd ps []) : CallR X (.builtin "len") (rLenO C sp) := by
  intro pins s σ H xs us Q I r h
  obtain ⟨a, dx, fs, rfl, ha, hsp⟩ := h
  obtain ⟨u, rfl, ru⟩ := vals1 r
  cases ru
  obtain ⟨mA, J, _⟩ := ins_get I.hok ha
  obtain ⟨od, J, _⟩ := J.look
  obtain ⟨m, hF⟩ := I.fr
  refine PySem.W.len_K hF I.ok.mod.kin J e.fi e.fn ?_
  refine wpAny_mono (run_sub F (Sub.in1 ⟨hr, rfl⟩) hb I (show Vals [V.ref a] [Value.ref a] from .cons rfl .nil) hsp) (fun v s' z => ?_) fun _ _ x => x
  obtain ⟨v', H', I', rv, n, rfl, hn, q⟩ := z
  obtain ⟨t, rfl⟩ := rv
  exact ⟨⟨by omega, by omega⟩, .int n, H', I'.tok _, ⟨_, rfl⟩, q⟩
end
end U
set_option Elab.async false
set_option linter.all false
set_option maxRecDepth 100000
set_option maxHeartbeats 4000000
/-! views: dicts from numbers to points -/
namespace U
open PySem PySem.Spec PyProof.Rows L2
open Evl (Ex)
abbrev Vw := List (Int × List Int)
def vget (m : Vw) (i : Int) : Option (List Int) := (m.find? fun q => decide (q.1 = i)).map (·.2)
def ptD (p : List Int) : PyData := .tuple (p.map .int)
/-- at a a dict of this view -/
def DV (K : PySem.W.Frag) (H : Hp) (a : Addr) (m : Vw) : Prop := ∃ kvs : List (L2.Key × V), H a = some (.dK kvs) ∧ Paired (fun kv q => kv.1 = Sum.inl q.1 ∧ Dp K H kv.2 (ptD q.2)) kvs m ∧ (m.map (·.1)).Nodup
/-- all points have p places -/
def Vp (p : Nat) (m : Vw) : Prop := ∀ q ∈ m, q.2.length = p
def isNum (m : Vw) : PyData → Bool
  | .int i => (vget m i).isSome
  | _ => false
def ptOf (m : Vw) : PyData → List Int
  | .int i => (vget m i).getD []
  | _ => []
section
def gSq (K : PySem.W.Frag) (n : Nat) (t : TGs) : TG := fun v σ H Q => gTup K n t v σ H Q ∨ gLst K n t v σ H Q
end
section
theorem pg_sq {X : Cx} {pos : Pos} {es : List Expr} {k : Nat} {t : TGs} {n : Nat} (hc : X.calm = true) (h : PGs X es t)
    (hn : (assignEach es X.env).length = n := by rfl) (hst : (assignEach es X.env).findIdx? (·.1) = none := by rfl) : PG X (.Tuple es k pos) (gSq X.K n t) :=
  ⟨fun pins s σ H v u Q I r hw => hw.elim (fun z => (pg_tup hc h hn hst).run pins s σ H v u Q I r z) fun z => (pg_lst hc h hn hst).run pins s σ H v u Q I r z⟩
end
section
variable {P : Program} {w : World} {K : PySem.W.Frag} {mg : Str → Option Value} {base : Heap} {C : Addr}
theorem dpi_inv {K : PySem.W.Frag} {H : Hp} : ∀ {vs : List V} {ns : List Int}, DpAll K H vs (ns.map PyData.int) → vs = ns.map V.int
  | _, [], h => by cases h; rfl
  | _, n :: ns, h => by
    cases h with
    | cons h1 h2 =>
      cases h1
      rw [dpi_inv h2]
      rfl
end
theorem paired_imp {α β : Type} {F G : α → β → Prop} : ∀ {xs : List α} {ys : List β}, Paired F xs ys → (∀ x y, F x y → G x y) → Paired G xs ys
  | _, _, .nil, _ => .nil
  | _, _, .cons h t, q => .cons (q _ _ h) (paired_imp t q)
theorem paired_snoc {α β : Type} {F : α → β → Prop} : ∀ {xs : List α} {ys : List β} {x : α} {y : β}, Paired F xs ys → F x y → Paired F (xs ++ [x]) (ys ++ [y])
  | _, _, _, _, .nil, h => .cons h .nil
  | _, _, _, _, .cons r t, h => .cons r (paired_snoc t h)
section
variable {K : PySem.W.Frag} {H H' : Hp} {a : Addr} {m : Vw} {σ : L2.St} {te td : TE} {i : Int} {p : List Int} {d : PyData} {v : V} {n : Nat}
theorem DV.up (h : DV K H a m) (e : Ex H H') : DV K H' a m := by
  obtain ⟨kvs, h1, h2, h3⟩ := h
  exact ⟨kvs, e _ _ h1, paired_imp h2 fun x y q => ⟨q.1, q.2.up e⟩, h3⟩
theorem paired_val : ∀ {kvs : List (L2.Key × V)} {m : Vw}, Paired (fun kv q => kv.1 = Sum.inl q.1 ∧ Dp K H kv.2 (ptD q.2)) kvs m → (vget m i = none ∧ valV kvs (Sum.inl i : L2.Key) = none) ∨ ∃ p v, vget m i = some p ∧ valV kvs (Sum.inl i : L2.Key) = some v ∧ Dp K H v (ptD p)
  | _, _, .nil => .inl ⟨rfl, rfl⟩
  | kv :: kvs, q :: m, .cons h t => by
    obtain ⟨h1, h2⟩ := h
    by_cases e : q.1 = i
    · refine .inr ⟨q.2, kv.2, ?_, valV_pos (by rw [h1, e]), h2⟩
      unfold vget
      simp [List.find?_cons, e]
    · have e' : ¬ kv.1 = (Sum.inl i : L2.Key) := fun z => e (by rw [h1] at z; injection z)
      have ev : vget (q :: m) i = vget m i := by
        unfold vget
        simp [List.find?_cons, e]
      rw [ev, valV_neg e']
      exact paired_val t
theorem ev_din (h : Evl.Ev te σ H (.int i)) (hd : Evl.Ev td σ H (.ref a)) (hv : DV K H a m) : Evl.Ev (tDIn te td) σ H (.bl (vget m i).isSome) := fun H1 e Q q =>
  h H1 e _ fun H2 e2 => hd H2 (e.trans e2) _ fun H3 e3 => by
    obtain ⟨kvs, h1, h2, _⟩ := hv.up ((e.trans e2).trans e3)
    have es : (valV kvs (Sum.inl i : L2.Key)).isSome = (vget m i).isSome := by
      rcases paired_val (i := i) h2 with ⟨a1, a2⟩ | ⟨p, v, a1, a2, _⟩ <;> (rw [a1, a2]; rfl)
    refine ⟨a, valV kvs (Sum.inl i : L2.Key), rfl, DGet.k (k := Sum.inl i) h1, ?_⟩
    rw [es]
    exact q H3 (e2.trans e3)
theorem dv_get (hv : DV K H a m) (hp : vget m i = some p) : ∃ v, Dp K H v (ptD p) ∧ ∀ (te td : TE) (σ : L2.St) (H1 : Hp), Ex H H1 → Evl.Ev td σ H1 (.ref a) → Evl.Ev te σ H1 (.int i) → Evl.Ev (tDGet td te) σ H1 v := by
  obtain ⟨kvs, h1, h2, _⟩ := hv
  rcases paired_val (i := i) h2 with ⟨a1, _⟩ | ⟨p', v, a1, a2, a3⟩
  · rw [hp] at a1
    cases a1
  · rw [hp] at a1
    cases a1
    refine ⟨v, a3, fun te td σ H1 e ha hi H2 e2 Q q => ha H2 e2 _ fun H3 e3 => hi H3 (e2.trans e3) _ fun H4 e4 => ⟨a, v, rfl, ?_, q H4 (e3.trans e4)⟩⟩
    have := DGet.k (k := (Sum.inl i : L2.Key)) ((((e.trans e2).trans e3).trans e4) _ _ h1)
    rw [a2] at this
    exact this
theorem isNum_inv (h : isNum m d = true) : ∃ i p, d = .int i ∧ vget m i = some p ∧ ptOf m d = p := by
  cases d with
  | int i =>
    have h' : (vget m i).isSome = true := h
    obtain ⟨p, e⟩ := Option.isSome_iff_exists.mp h'
    exact ⟨i, p, rfl, e, by simp [ptOf, e]⟩
  | _ => cases h
theorem Vp.get (h : Vp n m) (e : vget m i = some p) : p.length = n := by
  unfold vget at e
  cases q : m.find? (fun q => decide (q.1 = i)) with
  | none =>
    rw [q] at e
    cases e
  | some y =>
    rw [q] at e
    cases e
    exact h _ (List.mem_of_find?_eq_some q)
/-- thing in a view, thing any data -/
theorem ev_isNum (h : Evl.Ev te σ H v) (hd : Dq K H v d) (ht : Evl.Ev td σ H (.ref a)) (hv : DV K H a m) : Evl.Ev (tAndV (tCallD (spB K isI) (tCons te tNil)) (tDIn te td)) σ H (.bl (isNum m d)) := by
  refine Evl.ev_is (Evl.ev_andV (a := isI d) (b := isNum m d) (ev_spBq h hd) fun z => ?_) (congrArg V.bl (by cases d <;> simp [isI, isNum]))
  cases d with
  | int i =>
    cases hd
    exact ev_din h ht hv
  | _ => cases z
def spNum (K : PySem.W.Frag) : Sp := fun vs H Q _ => ∃ v d a m, vs = [v, .ref a] ∧ Dq K H v d ∧ DV K H a m ∧ ∀ H', Ex H H' → Q (.bl (isNum m d)) H'
theorem ev_num (h : Evl.Ev te σ H v) (hd : Dq K H v d) (ht : Evl.Ev td σ H (.ref a)) (hv : DV K H a m) : Evl.Ev (tCallD (spNum K) (tCons te (tCons td tNil))) σ H (.bl (isNum m d)) :=
  ev_callD (Evl.ea_cons h (Evl.ea_cons ht Evl.ea_nil)) fun H1 e1 Q q => ⟨v, d, a, m, rfl, hd.up e1, hv.up e1, q⟩
theorem dp_pt {v : V} {p : List Int} (h : Dp K H v (ptD p)) : ∃ t xs, v = .ref t ∧ SqT K H t xs ∧ xs = p.map V.int := by
  cases h with
  | @tup t xs _ hs ha =>
    exact ⟨t, xs, rfl, hs, dpi_inv ha⟩
/-- an entry of a point -/
theorem ev_ent {tt : TE} {j : Int} {e : Int} (h : Evl.Ev te σ H v) (hp : Dp K H v (ptD p)) (hj : Evl.Ev tt σ H (.int j)) (j0 : 0 ≤ j) (hn : p[j.toNat]? = some e) : Evl.Ev (tOp (rIxT K) te tt) σ H (.int e) := by
  obtain ⟨t, xs, rfl, hs, rfl⟩ := dp_pt hp
  refine Evl.ev_op h hj (Evl.rv_ixT hs ?_)
  have := atI_nat (xs := p.map V.int) (j := j.toNat) (v := .int e) (by rw [List.getElem?_map, hn]; rfl)
  rw [show ((j.toNat : Nat) : Int) = j by omega] at this
  exact this
/-- [.. for i, x in enumerate(a list or a tuple)] -/
theorem el_enumA {ta : TA} {te : TE} {i1 i2 : Nat} {vs : List Nat} {vv : Nat → V} {xs : List V} (h : Evl.EvA ta σ H [.ref a]) (hx : SqL K H a xs ∨ SqT K H a xs) (hz : xs.length ≤ 40000)
    (hw : ∀ x y, wipe (((wipe σ vs).set i1 (some x)).set i2 (some y)) vs = wipe σ vs)
    (he : ∀ (i : Nat) (x : V) H1, Ex H H1 → xs[i]? = some x → Evl.Ev te (((wipe σ vs).set i1 (some (.int (i : Int)))).set i2 (some x)) H1 (vv i)) :
    Evl.EvL (tLc (iEnumA K ta) (gTup K 2 (gCons (gName i1) (gCons (gName i2) gNil))) tYes te vs) σ H ((List.range xs.length).map vv) := fun H0 e0 Q q => h H0 e0 _ fun H1 e1 => by
  have turn : ∀ (Dl : Addr) (i : Nat) (x : V) (H2 H3 : Hp), i < xs.length → Cm H1 vv Dl i H2 → YPair (fun i => some (.int (i : Nat))) (fun i => xs[i]?) i H2 x H3 → gTup K 2 (gCons (gName i1) (gCons (gName i2) gNil)) x (wipe σ vs) H3 fun σ2 H2 => wipe σ2 vs = wipe σ vs ∧ tYes σ2 H2 fun b H3 =>
      if b = true then te σ2 H3 fun y H4 => ∃ acc, H4 Dl = some (.lst acc) ∧ acc.length < sizeLine ∧ Cm H1 vv Dl (i + 1) (upd H4 Dl (.lst (acc ++ [y]))) else Cm H1 vv Dl (i + 1) H3 := by
    intro Dl i x H2 H3 hi p yp
    obtain ⟨T, u, w, rfl, hT, rfl, hu, hw'⟩ := yp
    cases hu
    refine ⟨T, [.int (i : Int), w], rfl, SqT.of upd_same, rfl, .int (i : Int), [w], rfl, w, [], rfl, rfl, hw _ w, ?_⟩
    exact yes_lc (A := fun H3 => te ((List.set (wipe σ vs) i1 (some (.int (i : Int)))).set i2 (some w)) H3 fun y H4 => ∃ acc, H4 Dl = some (.lst acc) ∧ acc.length < sizeLine ∧ Cm H1 vv Dl (i + 1) (upd H4 Dl (.lst (acc ++ [y])))) (B := fun H3 => Cm H1 vv Dl (i + 1) H3) <| cm_turn p (by omega) _ (Ex.new hT) (he i w _ (e0.trans e1) hw')
  rcases hx with x1 | x1
  · refine ⟨a, xs, rfl, .inl ⟨Evl.ex_l (e0.trans e1) x1, fun Dl hD => ?_⟩⟩
    exact lc_it (walk_enum (xs := xs)) (Cm H1 vv Dl) (cm_0 hD) (fun i H2 _ p => Evl.ex_l ((e0.trans e1).trans p.2.1) x1) (fun i x H2 H3 hi p y => turn Dl i x H2 H3 hi p y)
      (fun H2 p => q Dl H2 (Evl.fresh_back e1 p.1) (e1.trans p.2.1) p.2.2)
  · refine ⟨a, xs, rfl, .inr ⟨Evl.ex_t (e0.trans e1) x1, fun Dl hD => ?_⟩⟩
    exact lc_it (walk_enumT (xs := xs)) (Cm H1 vv Dl) (cm_0 hD) (fun i H2 _ p => Evl.ex_t ((e0.trans e1).trans p.2.1) x1) (fun i x H2 H3 hi p y => turn Dl i x H2 H3 hi p y)
      (fun H2 p => q Dl H2 (Evl.fresh_back e1 p.1) (e1.trans p.2.1) p.2.2)
/-- a, b, c = a list or a tuple of three -/
theorem unpack3 {D : Ends} {tz : TS} {j i0 i1 i2 : Nat} (h : σ[j]? = some (some v)) (hd : Dq K H v d) (hr : isR d = true) (hl : (entries d).length = 3) (hw : ∃ n, fits n d)
    (k : ∀ x0 x1 x2, Dq K H x0 (el d 0) → Dq K H x1 (el d 1) → Dq K H x2 (el d 2) → tz D (((σ.set i0 (some x0)).set i1 (some x1)).set i2 (some x2)) H) :
    tSeq (tAsg (tVar j) (gSq K 3 (gCons (gName i0) (gCons (gName i1) (gCons (gName i2) gNil))))) tz D σ H := by
  obtain ⟨t, xs, rfl, hx, ha, _, _⟩ := seq_of hd hr hw
  have hl2 := (dqa_len ha).trans hl
  match xs, hl2 with
  | [x0, x1, x2], _ =>
    have key : DqAll K H [x0, x1, x2] (entries d) := ha
    match he : entries d, hl with
    | [d0, d1, d2], _ =>
      rw [he] at key
      cases key with
      | cons r0 key =>
        cases key with
        | cons r1 key =>
          cases key with
          | cons r2 key =>
            have e0 : el d 0 = d0 := by simp [el, he]
            have e1 : el d 1 = d1 := by simp [el, he]
            have e2 : el d 2 = d2 := by simp [el, he]
            have fin := k x0 x1 x2 (by rw [e0]; exact r0) (by rw [e1]; exact r1) (by rw [e2]; exact r2)
            rcases hx with hx | hx
            · exact ⟨_, h, .inr ⟨t, _, rfl, hx, rfl, x0, [x1, x2], rfl, x1, [x2], rfl, x2, [], rfl, rfl, fin⟩⟩
            · exact ⟨_, h, .inl ⟨t, _, rfl, hx, rfl, x0, [x1, x2], rfl, x1, [x2], rfl, x2, [], rfl, rfl, fin⟩⟩
end
end U
set_option Elab.async false
set_option linter.all false
set_option maxRecDepth 100000
set_option maxHeartbeats 4000000
/-! certificates of kinds that compare entries -/
namespace U
open PySem PySem.Spec PyProof.Rows L2
open Evl (Ex)
abbrev s_is_number_of : Stmt := top 17
abbrev sc_is_number_of_N : List Str := ["thing", "table"]
theorem sc_is_number_of : FnScope sc_is_number_of_N ["thing", "table"] (defScope s_is_number_of) := ⟨rfl, rfl, rfl, by decide +kernel, rfl, by decide +kernel, by decide +kernel⟩
abbrev s_lies_below : Stmt := top 34
abbrev sc_lies_below_N : List Str := ["one", "other", "low", "high"]
theorem sc_lies_below : FnScope sc_lies_below_N ["one", "other"] (defScope s_lies_below) := ⟨rfl, rfl, rfl, by decide +kernel, rfl, by decide +kernel, by decide +kernel⟩
abbrev s_is_above : Stmt := top 33
abbrev sc_is_above_N : List Str := ["thing", "yeses", "noes", "_", "i", "j"]
theorem sc_is_above : FnScope sc_is_above_N ["thing", "yeses", "noes"] (defScope s_is_above) := ⟨rfl, rfl, rfl, by decide +kernel, rfl, by decide +kernel, by decide +kernel⟩
abbrev s_encloses : Stmt := top 32
abbrev sc_encloses_N : List Str := ["pair", "points", "place", "entry", "number"]
theorem sc_encloses : FnScope sc_encloses_N ["pair", "points", "place", "entry"] (defScope s_encloses) := ⟨rfl, rfl, rfl, by decide +kernel, rfl, by decide +kernel, by decide +kernel⟩
abbrev s_is_between : Stmt := top 31
abbrev sc_is_between_N : List Str := ["thing", "places", "yeses", "noes", "_", "number", "pairs", "place", "pair"]
theorem sc_is_between : FnScope sc_is_between_N ["thing", "places", "yeses", "noes"] (defScope s_is_between) := ⟨rfl, rfl, rfl, by decide +kernel, rfl, by decide +kernel, by decide +kernel⟩
theorem notT {b : Bool} (h : (!b) = true) : b = false := by cases b <;> simp_all
theorem notF {b : Bool} (h : (!b) = false) : b = true := by cases b <;> simp_all
def ptLe (p q : List Int) : Bool := (List.range p.length).all fun i => decide (p.getD i 0 ≤ q.getD i 0)
def isAbove (y n : Vw) (d : PyData) : Bool := isF "above" 3 d && (isNum y (el d 1) && (isNum n (el d 2) && ptLe (ptOf y (el d 1)) (ptOf n (el d 2))))
def encl (m : Vw) (j : Nat) (e : Int) (d : PyData) : Bool := (isO 2 d && allD (isNum m) d) && (decide ((ptOf m (el d 0)).getD j 0 ≤ e) && decide (e ≤ (ptOf m (el d 1)).getD j 0))
def isBetween (p : Nat) (y n : Vw) (d : PyData) : Bool := isF "between" 3 d && ((isNum n (el d 1) && isO p (el d 2)) && (List.range p).all fun j => encl y j ((ptOf n (el d 1)).getD j 0) (el (el d 2) j))
/-- two views, at a and b, of points of p places -/
def VV2 (K : PySem.W.Frag) (H : Hp) (a b : Addr) (y n : Vw) (p : Nat) : Prop := DV K H a y ∧ DV K H b n ∧ Vp p y ∧ Vp p n ∧ p ≤ 3
theorem VV2.up {K : PySem.W.Frag} {H H' : Hp} {a b : Addr} {y n : Vw} {p : Nat} (h : VV2 K H a b y n p) (e : Ex H H') : VV2 K H' a b y n p := ⟨h.1.up e, h.2.1.up e, h.2.2⟩
section
variable {P : Program} {w : World} {K : PySem.W.Frag} {mg : Str → Option Value} {base : Heap}
theorem ok_is_number_of {f : Addr} {fd : FuncData} (F : Fun K "is_number_of" "is_number_of" s_is_number_of f fd) (D_is_integer : DefAt P w K mg base "is_integer" 1 ["thing"] (spB K isI)) : FnOk P w K mg base CX0 2 f fd ["thing", "table"] (spNum K) := by
  refine F.ok sc_is_number_of (fun vs H Q E h => ?_) (fun cdv A outer s H vs Q E hr h => ?_)
  · obtain ⟨_, _, _, _, rfl, _⟩ := h
    rfl
  · obtain ⟨v, d, a, m, rfl, hd, hm, k⟩ := h
    refine ⟨_, (pss_one (ps_ret (pe_and (pe_callD D_is_integer (by first | exact hr | exact hr.mono (by decide) | exact hr.mono (by omega)) (by rfl) (pa_cons (pv 0) pa_nil)) (pe_one (pe_cmp (pc_din (Nat.lt_of_le_of_lt (Nat.add_le_add_left (by decide : 1 ≤ 64) _) hr.units) (pv 0) (pv 1)) (by rfl)))))), ?_⟩
    exact Evl.s_ret (ev_isNum (Evl.ev_var rfl) hd (Evl.ev_var (v := .ref a) rfl) hm) k
def spLe (K : PySem.W.Frag) : Sp := fun vs H Q _ => ∃ v u p q, vs = [v, u] ∧ Dp K H v (ptD p) ∧ Dp K H u (ptD q) ∧ p.length = q.length ∧ p.length ≤ 3 ∧ ∀ H', Ex H H' → Q (.bl (ptLe p q)) H'
theorem ev_ptLe {σ : L2.St} {H : Hp} {ta : TA} {i1 i2 : Nat} {vs : List Nat} {a b : Addr} {p q : List Int} (h : Evl.EvA ta σ H [.ref a, .ref b]) (ha : SqT K H a (p.map V.int)) (hb : SqT K H b (q.map V.int)) (hl : p.length = q.length) (h3 : p.length ≤ 3) (hw : ∀ x y, wipe (((wipe σ vs).set i1 (some x)).set i2 (some y)) vs = wipe σ vs)
    (g1 : ∀ x y, (((wipe σ vs).set i1 (some x)).set i2 (some y))[i1]? = some (some x)) (g2 : ∀ x y, (((wipe σ vs).set i1 (some x)).set i2 (some y))[i2]? = some (some y)) :
    Evl.Ev (tCB (rAll K) (tCons (tLc (RZ.iZipA K ta) (gTup K 2 (gCons (gName i1) (gCons (gName i2) gNil))) tYes (tOp (rI0 (fun a b => .bl (decide (a ≤ b)))) (tVar i1) (tVar i2)) vs) tNil)) σ H (.bl (ptLe p q)) := by
  refine Evl.ev_is (ev_all (bs := (List.range p.length).map fun i => decide (p.getD i 0 ≤ q.getD i 0)) ?_) (congrArg V.bl (by simp [ptLe]))
  have z := el_zip (K := K) (v := fun i => V.bl (decide (p.getD i 0 ≤ q.getD i 0))) (te := tOp (rI0 (fun a b => .bl (decide (a ≤ b)))) (tVar i1) (tVar i2)) (i1 := i1) (i2 := i2) (vs := vs) (σ := σ) (H := H) (ta := ta) (a := a) (b := b) (xs := p.map V.int) (ys := q.map V.int) h (.inr ⟨ha, hb⟩) (by simp [hl]) (by rw [List.length_map]; omega) hw (fun i x y H1 e1 hx hy => by
    rw [List.getElem?_map] at hx hy
    obtain ⟨x', hx', rfl⟩ := Option.map_eq_some_iff.mp hx
    obtain ⟨y', hy', rfl⟩ := Option.map_eq_some_iff.mp hy
    have ex : p.getD i 0 = x' := by simp [List.getD_eq_getElem?_getD, hx']
    have ey : q.getD i 0 = y' := by simp [List.getD_eq_getElem?_getD, hy']
    rw [ex, ey]
    exact Evl.ev_op (Evl.ev_var (g1 _ _)) (Evl.ev_var (g2 _ _)) (Evl.rv_I0 (g := fun a b => .bl (decide (a ≤ b)))))
  rw [List.length_map] at z
  rw [List.map_map]
  exact z
theorem ok_lies_below {f : Addr} {fd : FuncData} (F : Fun K "_lies_below" "_lies_below" s_lies_below f fd) (T : TxF mg) : FnOk P w K mg base CX0 1 f fd ["one", "other"] (spLe K) := by
  refine F.ok sc_lies_below (fun vs H Q E h => ?_) (fun cdv A outer s H vs Q E hr h => ?_)
  · obtain ⟨_, _, _, _, rfl, _⟩ := h
    rfl
  · obtain ⟨v, u, p, q, rfl, hp, hq, hl, h3, k⟩ := h
    refine ⟨_, (pss_one (ps_ret (pe_callB (cr_all rfl) (by rfl) T.m_all (by decide +kernel) (pa_cons (pe_lc (own := [("low", 2), ("high", 3)]) (g := gTup K 2 (gCons (gName 2) (gCons (gName 3) (gNil)))) (tt := tYes) (te := tOp (rI0 (fun a b => .bl (decide (a ≤ b)))) (tVar 2) (tVar 3)) (by rfl) sc_lies_below.nd (RZ.pi_zipA (by rfl) T.m_zip (pa_cons (pv 0) (pa_cons (pv 1) pa_nil))) (blkOk_by (N := sc_lies_below_N) (sc := defScope s_lies_below) (by decide +kernel)) (fun _ _ _ _ _ => (pg_tup (by rfl) (pgs_cons (pg_name (i := 2) sc_lies_below.nd rfl (by first | exact Or.inl rfl | exact Or.inr rfl)) (pgs_cons (pg_name (i := 3) sc_lies_below.nd rfl (by first | exact Or.inl rfl | exact Or.inr rfl)) pgs_nil)))) (fun _ _ _ _ _ => pts_nil) (fun _ _ _ _ _ => (pe_cmpR op_le (pv 2) (pv 3) (nomark _)))) pa_nil)))), ?_⟩
    obtain ⟨t1, xs, rfl, hs1, rfl⟩ := dp_pt hp
    obtain ⟨t2, ys, rfl, hs2, rfl⟩ := dp_pt hq
    exact Evl.s_ret (ev_ptLe (Evl.ea_cons (Evl.ev_var (v := .ref t1) rfl) (Evl.ea_cons (Evl.ev_var (v := .ref t2) rfl) Evl.ea_nil)) hs1 hs2 hl h3 (fun _ _ => rfl) (fun _ _ => rfl) (fun _ _ => rfl)) k
def spAb (K : PySem.W.Frag) : Sp := fun vs H Q _ => ∃ v d a b y n p, vs = [v, .ref a, .ref b] ∧ Dq K H v d ∧ (∃ m, fits m d) ∧ VV2 K H a b y n p ∧ ∀ H', Ex H H' → Q (.bl (isAbove y n d)) H'
theorem ok_is_above {f : Addr} {fd : FuncData} (F : Fun K "is_above" "is_above" s_is_above f fd) (T : TxF mg) (D_is_form : DefAt P w K mg base "is_form" 3 ["thing", "word", "many"] (spF K)) (D_is_number_of : DefAt P w K mg base "is_number_of" 2 ["thing", "table"] (spNum K)) (D_lies_below : DefAt P w K mg base "_lies_below" 1 ["one", "other"] (spLe K)) : FnOk P w K mg base CX0 4 f fd ["thing", "yeses", "noes"] (spAb K) := by
  refine F.ok sc_is_above (fun vs H Q E h => ?_) (fun cdv A outer s H vs Q E hr h => ?_)
  · obtain ⟨_, _, _, _, _, _, _, rfl, _⟩ := h
    rfl
  · obtain ⟨v, d, a, b, y, n, p, rfl, hd, hw, hv, k⟩ := h
    refine ⟨_, (pss_cons (ps_if (pt_not (pt_val (pe_callD D_is_form (by first | exact hr | exact hr.mono (by decide) | exact hr.mono (by omega)) (by rfl) (pa_cons (pv 0) (pa_cons pe_str (pa_cons pe_int pa_nil)))))) (pss_one (ps_ret pe_bl)) pss_nil)
    (pss_cons (ps_asg (pv 0) (pg_sq (by rfl) (pgs_cons (pg_name (i := 3) sc_is_above.nd rfl (by first | exact Or.inl rfl | exact Or.inr rfl)) (pgs_cons (pg_name (i := 4) sc_is_above.nd rfl (by first | exact Or.inl rfl | exact Or.inr rfl)) (pgs_cons (pg_name (i := 5) sc_is_above.nd rfl (by first | exact Or.inl rfl | exact Or.inr rfl)) pgs_nil)))))
    (pss_one (ps_ret (pe_and (pe_callD D_is_number_of (by first | exact hr | exact hr.mono (by decide) | exact hr.mono (by omega)) (by rfl) (pa_cons (pv 4) (pa_cons (pv 1) pa_nil))) (pe_and (pe_callD D_is_number_of (by first | exact hr | exact hr.mono (by decide) | exact hr.mono (by omega)) (by rfl) (pa_cons (pv 5) (pa_cons (pv 2) pa_nil))) (pe_one (pe_callD D_lies_below (by first | exact hr | exact hr.mono (by decide) | exact hr.mono (by omega)) (by rfl) (pa_cons (pe_dget (Nat.lt_of_le_of_lt (Nat.add_le_add_left (by decide : 1 ≤ 64) _) hr.units) (pv 1) (pv 4) (fun _ _ => rfl)) (pa_cons (pe_dget (Nat.lt_of_le_of_lt (Nat.add_le_add_left (by decide : 1 ≤ 64) _) hr.units) (pv 2) (pv 5) (fun _ _ => rfl)) pa_nil)))))))))), ?_⟩
    have v0 : ∀ H1, Evl.Ev (tVar 0) (start sc_is_above_N [v, .ref a, .ref b]) H1 v := fun H1 => Evl.ev_var rfl
    refine Evl.q_when (b := !isF "above" 3 d) (Evl.et_not (Evl.et_B (ev_spF (v0 H) (by decide) hd hw))) (fun z H1 e1 => ?_) (fun z H1 e1 => ?_)
    · have z' : isF "above" 3 d = false := notT z
      refine Evl.s_ret (v := .bl false) Evl.ev_c fun H2 e2 => ?_
      have := k H2 (e1.trans e2)
      unfold isAbove at this
      rw [z'] at this
      exact this
    · have z' : isF "above" 3 d = true := notF z
      obtain ⟨r, l⟩ := isF_R z'
      refine unpack3 (d := d) rfl (hd.up e1) r (by omega) hw fun x0 x1 x2 d0 d1 d2 => ?_
      have hv1 := hv.up e1
      refine Evl.s_ret (v := .bl (isNum y (el d 1) && (isNum n (el d 2) && ptLe (ptOf y (el d 1)) (ptOf n (el d 2))))) ?_ fun H2 e2 => ?_
      · refine Evl.ev_andV (ev_num (Evl.ev_var (v := x1) rfl) d1 (Evl.ev_var (v := .ref a) rfl) hv1.1) fun z1 => ?_
        refine Evl.ev_andV (ev_num (Evl.ev_var (v := x2) rfl) d2 (Evl.ev_var (v := .ref b) rfl) hv1.2.1) fun z2 => ?_
        obtain ⟨i, pi, ei, gi, oi⟩ := isNum_inv z1
        obtain ⟨j, pj, ej, gj, oj⟩ := isNum_inv z2
        rw [ei] at d1
        cases d1
        rw [ej] at d2
        cases d2
        rw [oi, oj]
        obtain ⟨u1, du1, eu1⟩ := dv_get hv1.1 gi
        obtain ⟨u2, du2, eu2⟩ := dv_get hv1.2.1 gj
        have li := hv1.2.2.1.get gi
        have lj := hv1.2.2.2.1.get gj
        have h3 := hv1.2.2.2.2
        exact ev_callD (Evl.ea_cons (eu1 _ _ _ _ (Ex.refl _) (Evl.ev_var rfl) (Evl.ev_var rfl)) (Evl.ea_cons (eu2 _ _ _ _ (Ex.refl _) (Evl.ev_var rfl) (Evl.ev_var rfl)) Evl.ea_nil)) fun H3 e3 Q q => ⟨u1, u2, pi, pj, rfl, du1.up e3, du2.up e3, by omega, by omega, q⟩
      · have := k H2 (e1.trans e2)
        unfold isAbove at this
        rw [z'] at this
        exact this
def spEn (K : PySem.W.Frag) : Sp := fun vs H Q _ => ∃ v d a m p j e, vs = [v, .ref a, .int ((j : Nat) : Int), .int e] ∧ Dq K H v d ∧ (∃ n, fits n d) ∧ DV K H a m ∧ Vp p m ∧ j < p ∧ ∀ H', Ex H H' → Q (.bl (encl m j e d)) H'
theorem ok_encloses {f : Addr} {fd : FuncData} (F : Fun K "_encloses" "_encloses" s_encloses f fd) (T : TxF mg) (D_is_row_of : DefAt P w K mg base "is_row_of" 2 ["thing", "many"] (spBp K isO)) (D_is_number_of : DefAt P w K mg base "is_number_of" 2 ["thing", "table"] (spNum K)) : FnOk P w K mg base CX0 3 f fd ["pair", "points", "place", "entry"] (spEn K) := by
  refine F.ok sc_encloses (fun vs H Q E h => ?_) (fun cdv A outer s H vs Q E hr h => ?_)
  · obtain ⟨_, _, _, _, _, _, _, rfl, _⟩ := h
    rfl
  · obtain ⟨v, d, a, m, p, j, e, rfl, hd, hw, hm, hp, hj, k⟩ := h
    refine ⟨_, (pss_cons (ps_if (PW.pt (pw_or (pt_not (pt_val (pe_callD D_is_row_of (by first | exact hr | exact hr.mono (by decide) | exact hr.mono (by omega)) (by rfl) (pa_cons (pv 0) (pa_cons pe_int pa_nil))))) (pw_or1 (pt_not (pt_val (pe_callB (cr_all rfl) (by rfl) T.m_all (by decide +kernel) (pa_cons (pe_lc (own := [("number", 4)]) (g := gName 4) (tt := tYes) (te := tCallD (spNum K) (tCons (tVar 4) (tCons (tVar 1) tNil))) (by rfl) sc_encloses.nd (pi_seq (pv 0)) (blkOk_by (N := sc_encloses_N) (sc := defScope s_encloses) (by decide +kernel)) (fun _ _ _ _ _ => (pg_name (i := 4) sc_encloses.nd rfl (by first | exact Or.inl rfl | exact Or.inr rfl))) (fun _ _ _ _ _ => pts_nil) (fun _ _ _ _ _ => (pe_callD D_is_number_of (by first | exact hr | exact hr.mono (by decide) | exact hr.mono (by omega)) (by rfl) (pa_cons (pv 4) (pa_cons (pv 1) pa_nil))))) pa_nil))))))) (pss_one (ps_ret pe_bl)) pss_nil)
    (pss_one (ps_ret (pe_chain op_le op_le (pe_ix ix_tup (pe_dget (Nat.lt_of_le_of_lt (Nat.add_le_add_left (by decide : 1 ≤ 64) _) hr.units) (pv 1) (pe_ix ix_seq (pv 0) pe_int (fun _ _ => rfl)) (fun _ _ => rfl)) (pv 2) (fun _ _ => rfl)) (pv 3) (pe_ix ix_tup (pe_dget (Nat.lt_of_le_of_lt (Nat.add_le_add_left (by decide : 1 ≤ 64) _) hr.units) (pv 1) (pe_ix ix_seq (pv 0) pe_int (fun _ _ => rfl)) (fun _ _ => rfl)) (pv 2) (fun _ _ => rfl)))))), ?_⟩
    have v0 : ∀ H1, Evl.Ev (tVar 0) (start sc_encloses_N [v, .ref a, .int (j : Int), .int e]) H1 v := fun H1 => Evl.ev_var rfl
    have v1 : ∀ H1, Evl.Ev (tVar 1) (start sc_encloses_N [v, .ref a, .int (j : Int), .int e]) H1 (.ref a) := fun H1 => Evl.ev_var rfl
    refine Evl.q_when (b := !(isO 2 d && allD (isNum m) d)) (Evl.et_is (Evl.et_or (a := !isO 2 d) (b := !allD (isNum m) d) (Evl.et_not (Evl.et_B (ev_spBpq (v0 H) Evl.ev_c hd hw))) fun z => Evl.et_not (Evl.et_B ?_)) (by simp)) (fun z H1 e1 => ?_) (fun z H1 e1 => ?_)
    · have z' : isO 2 d = true := notF z
      exact ev_allQ (v0 H) hd (isO_R z').1 hw (fun _ => rfl) fun x e1 H1 hw1 e2 hd1 => ev_num (Evl.ev_var rfl) hd1 (Evl.ev_var rfl) (hm.up e2)
    · have z' : (isO 2 d && allD (isNum m) d) = false := notT z
      refine Evl.s_ret (v := .bl false) Evl.ev_c fun H2 e2 => ?_
      have := k H2 (e1.trans e2)
      unfold encl at this
      rw [z'] at this
      exact this
    · have z' : (isO 2 d && allD (isNum m) d) = true := notF z
      obtain ⟨zo, za⟩ := Bool.and_eq_true_iff.mp z'
      obtain ⟨r, l⟩ := isO_R zo
      have hd1 := hd.up e1
      have hm1 := hm.up e1
      have nth : ∀ i : Nat, i < 2 → ∃ y pi, Evl.Ev (tOp (rIxA K) (tVar 0) (tC (.int (i : Int)))) (start sc_encloses_N [v, .ref a, .int (j : Int), .int e]) H1 (.int y) ∧ vget m y = some pi ∧ ptOf m (el d i) = pi := fun i hi => by
        obtain ⟨u, eu, du, _⟩ := ev_at (n := i) (v0 H1) hd1 r hw (by omega)
        have hin : isNum m (el d i) = true := by
          refine List.all_eq_true.mp za _ ?_
          show (entries d).getD i .none ∈ entries d
          have lt : i < (entries d).length := by omega
          rw [List.getD_eq_getElem?_getD, List.getElem?_eq_getElem lt]
          exact List.getElem_mem lt
        obtain ⟨y, pi, ei, gi, oi⟩ := isNum_inv hin
        rw [ei] at du
        cases du
        exact ⟨y, pi, eu, gi, oi⟩
      obtain ⟨y0, p0, ey0, gy0, oy0⟩ := nth 0 (by decide)
      obtain ⟨y1, p1, ey1, gy1, oy1⟩ := nth 1 (by decide)
      have ent : ∀ {te : TE} {y : Int} {pi : List Int}, Evl.Ev te (start sc_encloses_N [v, .ref a, .int (j : Int), .int e]) H1 (.int y) → vget m y = some pi → Evl.Ev (tOp (rIxT K) (tDGet (tVar 1) te) (tVar 2)) (start sc_encloses_N [v, .ref a, .int (j : Int), .int e]) H1 (.int (pi.getD j 0)) := fun {te y pi} h g => by
        obtain ⟨u1, du1, eu1⟩ := dv_get hm1 g
        have lp := hp.get g
        refine ev_ent (eu1 _ _ _ _ (Ex.refl _) (v1 H1) h) du1 (Evl.ev_var (v := .int (j : Int)) rfl) (by omega) ?_
        rw [show ((j : Nat) : Int).toNat = j by omega, List.getD_eq_getElem?_getD, List.getElem?_eq_getElem (by omega)]
        rfl
      refine Evl.s_ret (v := .bl (decide (p0.getD j 0 ≤ e) && decide (e ≤ p1.getD j 0))) (ev_chain (k := decide (p0.getD j 0 ≤ e)) (ent ey0 gy0) (Evl.ev_var (v := .int e) rfl) (Evl.rv_I0 (g := fun a b => .bl (decide (a ≤ b)))) (fun _ => ent ey1 gy1) (fun z => ?_) (fun z => by rw [z]; rfl)) fun H2 e2 => ?_
      · rw [z, Bool.true_and]
        exact Evl.rv_I0 (g := fun a b => .bl (decide (a ≤ b)))
      · have := k H2 (e1.trans e2)
        unfold encl at this
        rw [z', oy0, oy1] at this
        exact this
def spBw (K : PySem.W.Frag) : Sp := fun vs H Q _ => ∃ v d a b y n p, vs = [v, .int ((p : Nat) : Int), .ref a, .ref b] ∧ Dq K H v d ∧ (∃ m, fits m d) ∧ VV2 K H a b y n p ∧ ∀ H', Ex H H' → Q (.bl (isBetween p y n d)) H'
theorem ok_is_between {f : Addr} {fd : FuncData} (F : Fun K "is_between" "is_between" s_is_between f fd) (T : TxF mg) (D_is_form : DefAt P w K mg base "is_form" 3 ["thing", "word", "many"] (spF K)) (D_is_row_of : DefAt P w K mg base "is_row_of" 2 ["thing", "many"] (spBp K isO)) (D_is_number_of : DefAt P w K mg base "is_number_of" 2 ["thing", "table"] (spNum K)) (D_encloses : DefAt P w K mg base "_encloses" 3 ["pair", "points", "place", "entry"] (spEn K)) : FnOk P w K mg base CX0 4 f fd ["thing", "places", "yeses", "noes"] (spBw K) := by
  refine F.ok sc_is_between (fun vs H Q E h => ?_) (fun cdv A outer s H vs Q E hr h => ?_)
  · obtain ⟨_, _, _, _, _, _, _, rfl, _⟩ := h
    rfl
  · obtain ⟨v, d, a, b, y, n, p, rfl, hd, hw, hv, k⟩ := h
    refine ⟨_, (pss_cons (ps_if (pt_not (pt_val (pe_callD D_is_form (by first | exact hr | exact hr.mono (by decide) | exact hr.mono (by omega)) (by rfl) (pa_cons (pv 0) (pa_cons pe_str (pa_cons pe_int pa_nil)))))) (pss_one (ps_ret pe_bl)) pss_nil)
    (pss_cons (ps_asg (pv 0) (pg_sq (by rfl) (pgs_cons (pg_name (i := 4) sc_is_between.nd rfl (by first | exact Or.inl rfl | exact Or.inr rfl)) (pgs_cons (pg_name (i := 5) sc_is_between.nd rfl (by first | exact Or.inl rfl | exact Or.inr rfl)) (pgs_cons (pg_name (i := 6) sc_is_between.nd rfl (by first | exact Or.inl rfl | exact Or.inr rfl)) pgs_nil)))))
    (pss_cons (ps_if (PW.pt (pw_or (pt_not (pt_val (pe_callD D_is_number_of (by first | exact hr | exact hr.mono (by decide) | exact hr.mono (by omega)) (by rfl) (pa_cons (pv 5) (pa_cons (pv 3) pa_nil))))) (pw_or1 (pt_not (pt_val (pe_callD D_is_row_of (by first | exact hr | exact hr.mono (by decide) | exact hr.mono (by omega)) (by rfl) (pa_cons (pv 6) (pa_cons (pv 1) pa_nil)))))))) (pss_one (ps_ret pe_bl)) pss_nil)
    (pss_one (ps_ret (pe_callB (cr_all rfl) (by rfl) T.m_all (by decide +kernel) (pa_cons (pe_lc (own := [("place", 7), ("pair", 8)]) (g := gTup K 2 (gCons (gName 7) (gCons (gName 8) (gNil)))) (tt := tYes) (te := tCallD (spEn K) (tCons (tVar 8) (tCons (tVar 2) (tCons (tVar 7) (tCons (tOp (rIxT K) (tDGet (tVar 3) (tVar 5)) (tVar 7)) tNil))))) (by rfl) sc_is_between.nd (pi_enumA (by rfl) T.m_enumerate (pa_cons (pv 6) pa_nil)) (blkOk_by (N := sc_is_between_N) (sc := defScope s_is_between) (by decide +kernel)) (fun _ _ _ _ _ => (pg_tup (by rfl) (pgs_cons (pg_name (i := 7) sc_is_between.nd rfl (by first | exact Or.inl rfl | exact Or.inr rfl)) (pgs_cons (pg_name (i := 8) sc_is_between.nd rfl (by first | exact Or.inl rfl | exact Or.inr rfl)) pgs_nil)))) (fun _ _ _ _ _ => pts_nil) (fun _ _ _ _ _ => (pe_callD D_encloses (by first | exact hr | exact hr.mono (by decide) | exact hr.mono (by omega)) (by rfl) (pa_cons (pv 8) (pa_cons (pv 2) (pa_cons (pv 7) (pa_cons (pe_ix ix_tup (pe_dget (Nat.lt_of_le_of_lt (Nat.add_le_add_left (by decide : 1 ≤ 64) _) hr.units) (pv 3) (pv 5) (fun _ _ => rfl)) (pv 7) (fun _ _ => rfl)) pa_nil))))))) pa_nil))))))), ?_⟩
    have v0 : ∀ H1, Evl.Ev (tVar 0) (start sc_is_between_N [v, .int (p : Int), .ref a, .ref b]) H1 v := fun H1 => Evl.ev_var rfl
    refine Evl.q_when (b := !isF "between" 3 d) (Evl.et_not (Evl.et_B (ev_spF (v0 H) (by decide) hd hw))) (fun z H1 e1 => ?_) (fun z H1 e1 => ?_)
    · have z' : isF "between" 3 d = false := notT z
      refine Evl.s_ret (v := .bl false) Evl.ev_c fun H2 e2 => ?_
      have := k H2 (e1.trans e2)
      unfold isBetween at this
      rw [z'] at this
      exact this
    · have z' : isF "between" 3 d = true := notF z
      obtain ⟨r, l⟩ := isF_R z'
      refine unpack3 (d := d) rfl (hd.up e1) r (by omega) hw fun x0 x1 x2 d0 d1 d2 => ?_
      have hv1 := hv.up e1
      have hw2 : ∃ m, fits m (el d 2) := by
        obtain ⟨_, _, _, _, _, _, hf⟩ := seq_of hd r hw
        refine hf _ ?_
        show (entries d).getD 2 .none ∈ entries d
        rw [List.getD_eq_getElem?_getD, List.getElem?_eq_getElem (by omega : 2 < (entries d).length)]
        exact List.getElem_mem _
      refine Evl.q_when (b := !(isNum n (el d 1) && isO p (el d 2))) (Evl.et_is (Evl.et_or (a := !isNum n (el d 1)) (b := !isO p (el d 2)) (Evl.et_not (Evl.et_B (ev_num (Evl.ev_var (v := x1) rfl) d1 (Evl.ev_var (v := .ref b) rfl) hv1.2.1))) fun _ => Evl.et_not (Evl.et_B (ev_spBpq (Evl.ev_var (v := x2) rfl) (Evl.ev_var (v := .int (p : Int)) rfl) d2 hw2))) (by simp)) (fun z2 H2 e2 => ?_) (fun z2 H2 e2 => ?_)
      · have z3 : (isNum n (el d 1) && isO p (el d 2)) = false := notT z2
        refine Evl.s_ret (v := .bl false) Evl.ev_c fun H3 e3 => ?_
        have := k H3 ((e1.trans e2).trans e3)
        unfold isBetween at this
        rw [z', z3] at this
        exact this
      · have z3 : (isNum n (el d 1) && isO p (el d 2)) = true := notF z2
        obtain ⟨zn, zo⟩ := Bool.and_eq_true_iff.mp z3
        obtain ⟨i, pi, ei, gi, oi⟩ := isNum_inv zn
        rw [ei] at d1
        cases d1
        obtain ⟨r2, l2⟩ := isO_R zo
        have hv2 := hv1.up e2
        have li := hv2.2.2.2.1.get gi
        obtain ⟨u1, du1, eu1⟩ := dv_get hv2.2.1 gi
        obtain ⟨t2, xs2, rfl, hx2, ha2, _, hf2⟩ := seq_of (d2.up e2) r2 hw2
        have lx := dqa_len ha2
        have lp : xs2.length = p := by omega
        refine Evl.s_ret (v := .bl ((List.range p).all fun j => encl y j (pi.getD j 0) (el (el d 2) j))) (Evl.ev_is (ev_all (bs := (List.range p).map fun j => encl y j (pi.getD j 0) (el (el d 2) j)) ?_) (congrArg V.bl (by simp))) fun H3 e3 => ?_
        · rw [List.map_map, ← lp]
          refine el_enumA (Evl.ea_cons (Evl.ev_var (v := .ref t2) rfl) Evl.ea_nil) hx2 (by have := hv2.2.2.2.2; omega) (fun _ _ => rfl) fun j x H3 e3 hx => ?_
          have jl : j < xs2.length := (List.getElem?_eq_some_iff.mp hx).1
          obtain ⟨dj, dj1, dj2⟩ := dqa_get ha2 hx
          have ej : el (el d 2) j = dj := by simp [el, List.getD_eq_getElem?_getD] at dj1 ⊢; simp [dj1]
          have hv3 := hv2.up e3
          refine ev_callD (Evl.ea_cons (Evl.ev_var (v := x) rfl) (Evl.ea_cons (Evl.ev_var (v := .ref a) rfl) (Evl.ea_cons (Evl.ev_var (v := .int (j : Int)) rfl) (Evl.ea_cons (ev_ent (p := pi) (eu1 _ _ _ _ e3 (Evl.ev_var (v := .ref b) rfl) (Evl.ev_var (v := .int i) rfl)) (du1.up e3) (Evl.ev_var (v := .int (j : Int)) rfl) (by omega) (e := pi.getD j 0) ?_) Evl.ea_nil)))) fun H4 e4 Q q => ⟨x, dj, a, y, p, j, pi.getD j 0, rfl, dj2.up (e3.trans e4), hf2 _ (List.mem_of_getElem? dj1), hv3.1.up e4, hv3.2.2.1, by omega, fun H5 e5 => ?_⟩
          · rw [show ((j : Nat) : Int).toNat = j by omega, List.getD_eq_getElem?_getD, List.getElem?_eq_getElem (by omega)]
            rfl
          · have := q H5 e5
            dsimp only [Function.comp] at this
            rw [ej] at this
            exact this
        · have := k H3 ((e1.trans e2).trans e3)
          unfold isBetween at this
          rw [z', z3, oi] at this
          exact this
end
end U
set_option Elab.async false
set_option linter.all false
set_option maxRecDepth 100000
set_option maxHeartbeats 4000000
/-! certificates of few changes -/
namespace U
open PySem PySem.Spec PyProof.Rows L2
open Evl (Ex)
abbrev s_is_turning : Stmt := top 35
abbrev sc_is_turning_N : List Str := ["thing", "most", "yeses", "noes", "numbers", "pairs", "number", "one", "other"]
theorem sc_is_turning : FnScope sc_is_turning_N ["thing", "most", "yeses", "noes"] (defScope s_is_turning) := ⟨rfl, rfl, rfl, by decide +kernel, rfl, by decide +kernel, by decide +kernel⟩
section
variable {K : PySem.W.Frag} {L : List Addr} {σ σ2 : L2.St} {H H' H1 H2 : Hp} {te tl ta tb : TE} {tt : TT} {v : V} {d : PyData} {ds : List PyData} {l a Dl : Addr} {xs : List V} {f : Nat → List PyData} {i : Nat}
theorem eg_ctx {j : Nat} {vs : List Nat} {g : PyData → PyData} (h : Evl.Ev tl σ H (.ref a)) (hx : SqL K H a xs ∨ SqT K H a xs) (hd : DpAll K (W L H) xs ds) (hL : Hid L H) (hz : ds.length ≤ 50000) (hw : ∀ x, wipe ((wipe σ vs).set j (some x)) vs = wipe σ vs)
    (he : ∀ L' (x : V) d H1, d ∈ ds → Hid L' H1 → Ex H H1 → Ex (W L H) (W L' H1) → Dp K (W L' H1) x d → EvD K L' te ((wipe σ vs).set j (some x)) H1 (g d)) : EvG K L (tLc (iSeq K tl) (gName j) tYes te vs) σ H (ds.map g) := fun H0 e0 Q q => h H0 e0 _ fun H1 e1 => by
  have hlen := dpa_len hd
  have turn : ∀ (Dl : Addr) (i : Nat) (x : V) (H2 H3 : Hp), i < xs.length → Cmd K L H1 (fun i => (ds.take i).map g) Dl i H2 → YAt xs i H2 x H3 → gName j x (wipe σ vs) H3 fun σ2 H2 => wipe σ2 vs = wipe σ vs ∧ tYes σ2 H2 fun b H3 =>
      if b = true then te σ2 H3 fun y H4 => ∃ acc, H4 Dl = some (.lst acc) ∧ acc.length < sizeLine ∧ Cmd K L H1 (fun i => (ds.take i).map g) Dl (i + 1) (upd H4 Dl (.lst (acc ++ [y]))) else Cmd K L H1 (fun i => (ds.take i).map g) Dl (i + 1) H3 := by
    intro Dl i x H2 H3 hi p yp
    obtain ⟨rfl, hu⟩ := yp
    obtain ⟨d, hd1, hd2⟩ := dpa_get hd hu
    obtain ⟨p1, p2, p3⟩ := id p
    refine ⟨hw x, ?_⟩
    refine yes_lc (A := fun H3 => te ((wipe σ vs).set j (some x)) H3 fun y H4 => ∃ acc, H4 Dl = some (.lst acc) ∧ acc.length < sizeLine ∧ Cmd K L H1 (fun i => (ds.take i).map g) Dl (i + 1) (upd H4 Dl (.lst (acc ++ [y])))) (B := fun H3 => Cmd K L H1 (fun i => (ds.take i).map g) Dl (i + 1) H3) ?_
    refine cmd_yes p (by simp; omega) (Ex.refl _) (he _ x d _ (List.mem_of_getElem? hd1) ?_ ((e0.trans e1).trans p2) (w_past (Evl.fresh_back (e0.trans e1) p1) ((e0.trans e1).trans p2)) (hd2.up (w_past (Evl.fresh_back (e0.trans e1) p1) ((e0.trans e1).trans p2)))) ?_
    · intro b hb
      rcases List.mem_cons.mp hb with z | z
      · rw [z]
        exact p3.ne
      · exact hid_ex ((e0.trans e1).trans p2) hL b z
    · have hi' : i < ds.length := by omega
      rw [List.take_add_one, hd1]
      simp
  have fin : ∀ Dl H2, Cmd K L H1 (fun i => (ds.take i).map g) Dl xs.length H2 → Q (.ref Dl) H2 := fun Dl H2 p => by
    obtain ⟨p1, p2, p3⟩ := p
    refine q Dl H2 (Evl.fresh_back e1 p1) (e1.trans p2) ?_
    have e : (ds.take xs.length).map g = ds.map g := by rw [hlen, List.take_length]
    rw [← e]
    exact p3
  have hL1 : Hid L H1 := hid_ex (e0.trans e1) hL
  refine ⟨a, rfl, ?_⟩
  rcases hx with x1 | x1
  · refine .inl ⟨⟨xs, Evl.ex_l (e0.trans e1) x1⟩, fun Dl hD => ?_⟩
    exact lc_it (walk_list (xs := xs)) (Cmd K L H1 (fun i => (ds.take i).map g) Dl) (cmd_0 hL1 hD rfl) (fun i H2 _ p => Evl.ex_l ((e0.trans e1).trans p.2.1) x1) (fun i x H2 H3 hi p y => turn Dl i x H2 H3 hi p y) (fun H2 p => fin Dl H2 p)
  · refine .inr ⟨⟨xs, Evl.ex_t (e0.trans e1) x1⟩, fun Dl hD => ?_⟩
    exact lc_it (walk_tup (xs := xs)) (Cmd K L H1 (fun i => (ds.take i).map g) Dl) (cmd_0 hL1 hD rfl) (fun i H2 _ p => Evl.ex_t ((e0.trans e1).trans p.2.1) x1) (fun i x H2 H3 hi p y => turn Dl i x H2 H3 hi p y) (fun H2 p => fin Dl H2 p)
theorem q_asgGr {D : Ends} {tz : TS} {i : Nat} (h : EvG K L te σ H ds) (k : ∀ p H1, H p = none → Ex H H1 → Gr K L H1 p ds → tz D (σ.set i (some (.ref p))) H1) : tSeq (tAsg te (gName i)) tz D σ H := h H (Ex.refl H) _ fun p H1 hp e g => k p H1 hp e g
theorem evd_ift {tc : TT} (ht : Evl.EvT tc σ H true) (h : EvD K L ta σ H d) : EvD K L (tIf tc ta tb) σ H d := fun H1 e Q q => ht H1 e _ fun H2 e2 => by
  show (if true = true then _ else _)
  simp only [if_true]
  exact h H2 (e.trans e2) Q fun x H3 e3 hk => q x H3 (e2.trans e3) hk
theorem evd_iff {tc : TT} (ht : Evl.EvT tc σ H false) (h : EvD K L tb σ H d) : EvD K L (tIf tc ta tb) σ H d := fun H1 e Q q => ht H1 e _ fun H2 e2 => by
  show (if false = true then _ else _)
  simp only [Bool.false_eq_true, if_false]
  exact h H2 (e.trans e2) Q fun x H3 e3 hk => q x H3 (e2.trans e3) hk
end
/-- a row of a view: a point and whether it is a yes -/
def rowT (y n : Vw) (i : Int) : List Int × Bool := match vget y i with
  | some p => (p, true)
  | none => ((vget n i).getD [], false)
abbrev Rw2 := List Int × Bool
def rat (rs : List Rw2) (i : Nat) : Rw2 := rs.getD i ([], false)
def rD (r : Rw2) : PyData := rowD r.1 r.2
def turnsOk (m : Int) (rs : List Rw2) : Bool := ((List.range (rs.length - 1)).all fun i => (rat rs i).2 != (rat rs (i + 1)).2) &&
  ((decide (rs.length = 2) && decide ((rat rs 0).1 = (rat rs 1).1)) || (decide ((rs.length : Int) = m + 2) && (List.range (rs.length - 1)).all fun i => HT.lexLt (rat rs i).1 (rat rs (i + 1)).1))
def isTurning (m : Int) (y n : Vw) (d : PyData) : Bool := (isF "turns" 2 d && isR (el d 1)) && (allD (fun e => isNum y e || isNum n e) (el d 1) && turnsOk m ((entries (el d 1)).map fun e => rowT y n (valI e)))
section
variable {P : Program} {w : World} {K : PySem.W.Frag} {mg : Str → Option Value} {base : Heap}
theorem all_ints {y n : Vw} : ∀ {ds : List PyData}, (ds.all fun e => isNum y e || isNum n e) = true → ∃ ns : List Int, ds = ns.map .int ∧ ∀ i ∈ ns, (vget y i).isSome = true ∨ (vget n i).isSome = true
  | [], _ => ⟨[], rfl, fun _ h => nomatch h⟩
  | d :: ds, h => by
    rw [List.all_cons] at h
    obtain ⟨h1, h2⟩ := Bool.and_eq_true_iff.mp h
    obtain ⟨ns, rfl, h3⟩ := all_ints h2
    cases d with
    | int i =>
      have h1' : ((vget y i).isSome || (vget n i).isSome) = true := h1
      refine ⟨i :: ns, rfl, fun j hj => ?_⟩
      rcases List.mem_cons.mp hj with rfl | hj
      · exact Bool.or_eq_true_iff.mp h1'
      · exact h3 j hj
    | _ => cases h1
theorem dqi_inv {H : Hp} : ∀ {vs : List V} {ns : List Int}, DqAll K H vs (ns.map PyData.int) → vs = ns.map V.int
  | _, [], h => by cases h; rfl
  | _, n :: ns, h => by
    cases h with
    | cons h1 h2 =>
      cases h1
      rw [dqi_inv h2]
      rfl
theorem dpi_of {H : Hp} : ∀ ns : List Int, DpAll K H (ns.map V.int) (ns.map PyData.int)
  | [] => .nil
  | n :: ns => .cons (.int n) (dpi_of ns)
theorem dp_row {H : Hp} {v : V} {r : Rw2} (h : Dp K H v (rD r)) : ∃ t pv, v = .ref t ∧ SqT K H t [pv, .bl r.2] ∧ Dp K H pv (ptD r.1) := by
  cases h with
  | @tup t xs _ hs ha =>
    cases ha with
    | cons h1 h2 =>
      cases h2 with
      | cons h2 h3 =>
        cases h3
        cases h2
        exact ⟨t, _, rfl, hs, h1⟩
theorem lay_pt (p : List Int) : SeqAt.shaped (ptD p) = true := by
  have h1 : ∀ ns : List Int, PyData.canLayAll0 (ns.map .int) = true ∧ PyData.depthAll (ns.map .int) = 0 := by
    intro ns
    induction ns with
    | nil => exact ⟨rfl, rfl⟩
    | cons n ns ih =>
      refine ⟨?_, ?_⟩
      · show (true && PyData.canLayAll0 (ns.map .int)) = true
        rw [ih.1]
        rfl
      · show max 0 (PyData.depthAll (ns.map .int)) = 0
        rw [ih.2]
        rfl
  refine Bool.and_eq_true_iff.mpr ⟨(h1 p).1, decide_eq_true ?_⟩
  show PyData.depthAll (p.map .int) + 1 ≤ 64
  rw [(h1 p).2]
  decide
theorem eqv_pt : ∀ p q : List Int, PyData.eqvAll (p.map .int) (q.map .int) = decide (p = q)
  | [], [] => rfl
  | [], _ :: _ => rfl
  | _ :: _, [] => rfl
  | x :: p, y :: q => by
    show ((x == y) && PyData.eqvAll (p.map .int) (q.map .int)) = _
    rw [eqv_pt p q]
    by_cases h1 : x = y <;> by_cases h2 : p = q <;> simp [h1, h2]
def spTg (K : PySem.W.Frag) : Sp := fun vs H Q _ => ∃ v d a b y n p m, vs = [v, .int m, .ref a, .ref b] ∧ Dq K H v d ∧ (∃ m, fits m d) ∧ VV2 K H a b y n p ∧ ∀ H', Ex H H' → Q (.bl (isTurning m y n d)) H'
theorem ok_is_turning {f : Addr} {fd : FuncData} (F : Fun K "is_turning" "is_turning" s_is_turning f fd) (T : TxF mg) (D_is_form : DefAt P w K mg base "is_form" 3 ["thing", "word", "many"] (spF K)) (D_is_row : DefAt P w K mg base "is_row" 1 ["thing"] (spB K isR)) (D_is_number_of : DefAt P w K mg base "is_number_of" 2 ["thing", "table"] (spNum K)) : FnOk P w K mg base CX0 4 f fd ["thing", "most", "yeses", "noes"] (spTg K) := by
  refine F.ok sc_is_turning (fun vs H Q E h => ?_) (fun cdv A outer s H vs Q E hr h => ?_)
  · obtain ⟨_, _, _, _, _, _, _, _, rfl, _⟩ := h
    rfl
  · obtain ⟨v, d, a, b, y, n, p, m, rfl, hd, hw, hv, k⟩ := h
    refine ⟨_, (pss_cons (ps_if (PW.pt (pw_or (pt_not (pt_val (pe_callD D_is_form (by first | exact hr | exact hr.mono (by decide) | exact hr.mono (by omega)) (by rfl) (pa_cons (pv 0) (pa_cons pe_str (pa_cons pe_int pa_nil)))))) (pw_or1 (pt_not (pt_val (pe_callD D_is_row (by first | exact hr | exact hr.mono (by decide) | exact hr.mono (by omega)) (by rfl) (pa_cons (pe_ix ix_seq (pv 0) pe_int (fun _ _ => rfl)) pa_nil))))))) (pss_one (ps_ret pe_bl)) pss_nil)
    (pss_cons (ps_set (i := 4) sc_is_turning.nd rfl (by first | exact Or.inl rfl | exact Or.inr rfl) (pe_ix ix_seq (pv 0) pe_int (fun _ _ => rfl)))
    (pss_cons (ps_if (pt_not (pt_val (pe_callB (cr_all rfl) (by rfl) T.m_all (by decide +kernel) (pa_cons (pe_lc (own := [("number", 6)]) (g := gName 6) (tt := tYes) (te := tOrV (tCallD (spNum K) (tCons (tVar 6) (tCons (tVar 2) tNil))) (tCallD (spNum K) (tCons (tVar 6) (tCons (tVar 3) tNil)))) (by rfl) sc_is_turning.nd (pi_seq (pv 4)) (blkOk_by (N := sc_is_turning_N) (sc := defScope s_is_turning) (by decide +kernel)) (fun _ _ _ _ _ => (pg_name (i := 6) sc_is_turning.nd rfl (by first | exact Or.inl rfl | exact Or.inr rfl))) (fun _ _ _ _ _ => pts_nil) (fun _ _ _ _ _ => (pe_or (pe_callD D_is_number_of (by first | exact hr | exact hr.mono (by decide) | exact hr.mono (by omega)) (by rfl) (pa_cons (pv 6) (pa_cons (pv 2) pa_nil))) (pe_one (pe_callD D_is_number_of (by first | exact hr | exact hr.mono (by decide) | exact hr.mono (by omega)) (by rfl) (pa_cons (pv 6) (pa_cons (pv 3) pa_nil))))))) pa_nil)))) (pss_one (ps_ret pe_bl)) pss_nil)
    (pss_cons (ps_setLc (i := 5) (own := [("number", 6)]) (g := gName 6) (tt := tYes) (te := tTup (tCons (tIf (tB (tDIn (tVar 6) (tVar 2))) (tDGet (tVar 2) (tVar 6)) (tDGet (tVar 3) (tVar 6))) (tCons (tDIn (tVar 6) (tVar 2)) tNil))) (by rfl) sc_is_turning.nd rfl rfl (sw_true rfl rfl rfl (by decide +kernel)) (pi_seq (pv 4)) (blkOk_by (N := sc_is_turning_N) (sc := defScope s_is_turning) (by decide +kernel)) (fun _ _ _ _ _ => (pg_name (i := 6) sc_is_turning.nd rfl (by first | exact Or.inl rfl | exact Or.inr rfl))) (fun _ _ _ _ _ => pts_nil) (fun _ _ _ _ _ => (pe_tup (pa_cons (pe_ifExp (pt_cmp (pc_din (Nat.lt_of_le_of_lt (Nat.add_le_add_left (by decide : 1 ≤ 64) _) hr.units) (pv 6) (pv 2)) (by rfl)) (pe_dget (Nat.lt_of_le_of_lt (Nat.add_le_add_left (by decide : 1 ≤ 64) _) hr.units) (pv 2) (pv 6) (fun _ _ => rfl)) (pe_dget (Nat.lt_of_le_of_lt (Nat.add_le_add_left (by decide : 1 ≤ 64) _) hr.units) (pv 3) (pv 6) (fun _ _ => rfl))) (pa_cons (pe_cmp (pc_din (Nat.lt_of_le_of_lt (Nat.add_le_add_left (by decide : 1 ≤ 64) _) hr.units) (pv 6) (pv 2)) (by rfl)) pa_nil)))))
    (pss_cons (ps_if (pt_not (pt_val (pe_callB (cr_all rfl) (by rfl) T.m_all (by decide +kernel) (pa_cons (pe_lc (own := [("one", 7), ("other", 8)]) (g := gTup K 2 (gCons (gName 7) (gCons (gName 8) (gNil)))) (tt := tYes) (te := tOp rNe (tOp (rIxT K) (tVar 7) (tC (.int 1))) (tOp (rIxT K) (tVar 8) (tC (.int 1)))) (by rfl) sc_is_turning.nd (RZ.pi_zipA (by rfl) T.m_zip (pa_cons (pv 5) (pa_cons (pe_slice sl_seq (pv 5) (po_some pe_int) po_none) pa_nil))) (blkOk_by (N := sc_is_turning_N) (sc := defScope s_is_turning) (by decide +kernel)) (fun _ _ _ _ _ => (pg_tup (by rfl) (pgs_cons (pg_name (i := 7) sc_is_turning.nd rfl (by first | exact Or.inl rfl | exact Or.inr rfl)) (pgs_cons (pg_name (i := 8) sc_is_turning.nd rfl (by first | exact Or.inl rfl | exact Or.inr rfl)) pgs_nil)))) (fun _ _ _ _ _ => pts_nil) (fun _ _ _ _ _ => (pe_cmpR op_ne (pe_ix ix_tup (pv 7) pe_int (fun _ _ => rfl)) (pe_ix ix_tup (pv 8) pe_int (fun _ _ => rfl)) (nomark _)))) pa_nil)))) (pss_one (ps_ret pe_bl)) pss_nil)
    (pss_cons (ps_if (PW.pt (pw_and (pt_cmpR op_eq (pe_callB call_len_seq (by rfl) T.m_len (by decide +kernel) (pa_cons (pv 5) pa_nil)) pe_int (nomark _)) (pw_and1 (pt_cmpR (op_eqD hr.units) (pe_ix ix_tup (pe_ix ix_list (pv 5) pe_int (fun _ _ => rfl)) pe_int (fun _ _ => rfl)) (pe_ix ix_tup (pe_ix ix_list (pv 5) pe_int (fun _ _ => rfl)) pe_int (fun _ _ => rfl)) (nomark _))))) (pss_one (ps_ret pe_bl)) pss_nil)
    (pss_one (ps_ret (pe_and (pe_cmpR op_eq (pe_callB call_len_seq (by rfl) T.m_len (by decide +kernel) (pa_cons (pv 5) pa_nil)) (pe_op op_add (pv 1) pe_int) (nomark _)) (pe_one (pe_callB (cr_all rfl) (by rfl) T.m_all (by decide +kernel) (pa_cons (pe_lc (own := [("one", 7), ("other", 8)]) (g := gTup K 2 (gCons (gName 7) (gCons (gName 8) (gNil)))) (tt := tYes) (te := tOp (rLtT K) (tOp (rIxT K) (tVar 7) (tC (.int 0))) (tOp (rIxT K) (tVar 8) (tC (.int 0)))) (by rfl) sc_is_turning.nd (RZ.pi_zipA (by rfl) T.m_zip (pa_cons (pv 5) (pa_cons (pe_slice sl_seq (pv 5) (po_some pe_int) po_none) pa_nil))) (blkOk_by (N := sc_is_turning_N) (sc := defScope s_is_turning) (by decide +kernel)) (fun _ _ _ _ _ => (pg_tup (by rfl) (pgs_cons (pg_name (i := 7) sc_is_turning.nd rfl (by first | exact Or.inl rfl | exact Or.inr rfl)) (pgs_cons (pg_name (i := 8) sc_is_turning.nd rfl (by first | exact Or.inl rfl | exact Or.inr rfl)) pgs_nil)))) (fun _ _ _ _ _ => pts_nil) (fun _ _ _ _ _ => (pe_cmpR (op_ltT (Nat.lt_of_le_of_lt (Nat.le_add_right _ 64) hr.units)) (pe_ix ix_tup (pv 7) pe_int (fun _ _ => rfl)) (pe_ix ix_tup (pv 8) pe_int (fun _ _ => rfl)) (nomark _)))) pa_nil)))))))))))), ?_⟩
    have v0 : ∀ H1, Evl.Ev (tVar 0) (start sc_is_turning_N [v, .int m, .ref a, .ref b]) H1 v := fun H1 => Evl.ev_var rfl
    refine Evl.q_when (b := !(isF "turns" 2 d && isR (el d 1))) (Evl.et_is (Evl.et_or (a := !isF "turns" 2 d) (b := !isR (el d 1)) (Evl.et_not (Evl.et_B (ev_spF (v0 H) (by decide) hd hw))) fun z => Evl.et_not (Evl.et_B ?_)) (by simp)) (fun z H1 e1 => ?_) (fun z H1 e1 => ?_)
    · obtain ⟨r, l⟩ := isF_R (notF z)
      obtain ⟨u, eu, du, _⟩ := ev_at (n := 1) (v0 H) hd r hw (by omega)
      exact ev_spBq eu du
    · have z' := notT z
      refine Evl.s_ret (v := .bl false) Evl.ev_c fun H2 e2 => ?_
      have := k H2 (e1.trans e2)
      unfold isTurning at this
      rw [z'] at this
      exact this
    · have z' := notF z
      obtain ⟨zf, zr⟩ := Bool.and_eq_true_iff.mp z'
      obtain ⟨r, l⟩ := isF_R zf
      obtain ⟨u, eu, du, hw1⟩ := ev_at (n := 1) (v0 H1) (hd.up e1) r hw (by omega)
      refine Evl.q_asg (v := u) eu fun H2 e2 => ?_
      have hv2 := hv.up (e1.trans e2)
      have du2 := du.up e2
      refine Evl.q_when (b := !allD (fun e => isNum y e || isNum n e) (el d 1)) (Evl.et_not (Evl.et_B (ev_allQ (Evl.ev_var (v := u) rfl) du2 zr hw1 (fun _ => rfl) fun x e H3 hwe e3 hde => Evl.ev_orV (ev_num (Evl.ev_var rfl) hde (Evl.ev_var (v := .ref a) rfl) (hv2.1.up e3)) fun _ => ev_num (Evl.ev_var rfl) hde (Evl.ev_var (v := .ref b) rfl) (hv2.2.1.up e3)))) (fun z2 H3 e3 => ?_) (fun z2 H3 e3 => ?_)
      · have z3 := notT z2
        refine Evl.s_ret (v := .bl false) Evl.ev_c fun H4 e4 => ?_
        have := k H4 (((e1.trans e2).trans e3).trans e4)
        unfold isTurning at this
        rw [z', z3] at this
        exact this
      · have z3 := notF z2
        obtain ⟨ns, hns, hin⟩ := all_ints z3
        obtain ⟨t2, xs2, rfl, hx2, ha2, hlen, _⟩ := seq_of (du2.up e3) zr hw1
        rw [hns] at ha2 hlen
        obtain rfl := dqi_inv ha2
        have hv3 := hv2.up e3
        have hid0 : Hid [] H3 := fun _ m => nomatch m
        have hrs : (entries (el d 1)).map (fun e => rowT y n (valI e)) = ns.map (rowT y n) := by
          rw [hns, List.map_map]
          rfl
        refine q_asgGr (eg_ctx (K := K) (L := []) (tl := tVar 4) (a := t2) (j := 6) (vs := [6]) (te := tTup (tCons (tIf (tB (tDIn (tVar 6) (tVar 2))) (tDGet (tVar 2) (tVar 6)) (tDGet (tVar 3) (tVar 6))) (tCons (tDIn (tVar 6) (tVar 2)) tNil))) (σ := [some v, some (.int m), some (.ref a), some (.ref b), some (.ref t2), none, none, none, none]) (g := fun d => rD (rowT y n (valI d))) (Evl.ev_var (v := .ref t2) rfl) hx2 (dpi_of ns) hid0 (by omega) (fun _ => rfl) (fun L' x e H4 hm hL' e4 eW hx => ?_)) fun pr H4 hp4 e4 g4 => ?_
        · obtain ⟨i, hi, rfl⟩ := List.mem_map.mp hm
          cases hx
          have hv4 := hv3.up e4
          rw [w_nil] at eW
          show EvD K L' _ _ H4 (rowD (rowT y n i).1 (rowT y n i).2)
          have ti : ∀ {σ : L2.St}, σ[6]? = some (some (.int i)) → σ[2]? = some (some (.ref a)) → Evl.Ev (tDIn (tVar 6) (tVar 2)) σ H4 (.bl (vget y i).isSome) := fun h1 h2 => ev_din (Evl.ev_var h1) (Evl.ev_var h2) hv4.1
          cases gy : vget y i with
          | some pi =>
            have er : rowT y n i = (pi, true) := by simp [rowT, gy]
            rw [er]
            obtain ⟨u1, du1, eu1⟩ := dv_get hv3.1 gy
            have ti' := @ti
            rw [gy] at ti'
            exact evd_tup hL' (evds_cons (evd_ift (Evl.et_B (ti' rfl rfl)) (evd_of (eu1 _ _ _ _ e4 (Evl.ev_var rfl) (Evl.ev_var rfl)) (du1.up eW))) (evds_cons (evd_evB (ti' rfl rfl)) evds_nil)) (by show 2 ≤ 100000; omega)
          | none =>
            have gn : ∃ pi, vget n i = some pi := by
              rcases hin i hi with h | h
              · rw [gy] at h
                cases h
              · exact Option.isSome_iff_exists.mp h
            obtain ⟨pi, gn⟩ := gn
            have er : rowT y n i = (pi, false) := by simp [rowT, gy, gn]
            rw [er]
            obtain ⟨u1, du1, eu1⟩ := dv_get hv3.2.1 gn
            have ti' := @ti
            rw [gy] at ti'
            exact evd_tup hL' (evds_cons (evd_iff (Evl.et_B (ti' rfl rfl)) (evd_of (eu1 _ _ _ _ e4 (Evl.ev_var rfl) (Evl.ev_var rfl)) (du1.up eW))) (evds_cons (evd_evB (ti' rfl rfl)) evds_nil)) (by show 2 ≤ 100000; omega)
        · have fin : ∀ H', Ex H4 H' → Q (.bl (turnsOk m (ns.map (rowT y n)))) H' := fun H' e' => by
            have := k H' ((((e1.trans e2).trans e3).trans e4).trans e')
            unfold isTurning at this
            rw [z', z3, hrs] at this
            exact this
          rw [List.map_map, show (ns.map ((fun d => rD (rowT y n (valI d))) ∘ PyData.int)) = (ns.map (rowT y n)).map rD by rw [List.map_map]; rfl] at g4
          have lrs : (ns.map (rowT y n)).length ≤ 40000 := by
            rw [List.length_map] at hlen ⊢
            exact hlen
          generalize ns.map (rowT y n) = rs at g4 fin lrs
          obtain ⟨_, ps, hpx, hpa⟩ := id g4
          have lps : ps.length = rs.length := by rw [dpa_len hpa, List.length_map]
          have row : ∀ (j : Nat) (x : V), ps[j]? = some x → ∃ t pv, x = .ref t ∧ SqT K H4 t [pv, .bl (rat rs j).2] ∧ Dp K H4 pv (ptD (rat rs j).1) := fun j x hx => by
            obtain ⟨dj, hd1, hd2⟩ := dpa_get hpa hx
            rw [List.getElem?_map] at hd1
            obtain ⟨rj, hr1, rfl⟩ := Option.map_eq_some_iff.mp hd1
            have er : rat rs j = rj := by simp [rat, List.getD_eq_getElem?_getD, hr1]
            rw [er]
            exact dp_row (hd2.up w_sub)
          have ix1 : ∀ {σ : L2.St} {H5 : Hp} {i j : Nat} {x : V}, Ex H4 H5 → ps[j]? = some x → σ[i]? = some (some x) → Evl.Ev (tOp (rIxT K) (tVar i) (tC (.int 1))) σ H5 (.bl (rat rs j).2) := fun {σ H5 i j x} e hx h => by
            obtain ⟨t, pv, rfl, hs, hp⟩ := row j x hx
            exact Evl.ev_op (Evl.ev_var h) Evl.ev_c (Evl.rv_ixT (Evl.ex_t e hs) rfl)
          have ix0 : ∀ {te : TE} {σ : L2.St} {H5 : Hp} {j : Nat} {x : V}, Ex H4 H5 → ps[j]? = some x → Evl.Ev te σ H5 x → ∃ pv, Evl.Ev (tOp (rIxT K) te (tC (.int 0))) σ H5 pv ∧ Dp K H5 pv (ptD (rat rs j).1) := fun {te σ H5 j x} e hx h => by
            obtain ⟨t, pv, rfl, hs, hp⟩ := row j x hx
            exact ⟨pv, Evl.ev_op h Evl.ev_c (Evl.rv_ixT (Evl.ex_t e hs) rfl), hp.up e⟩
          dsimp only [gName, List.set]
          -- labels change
          refine Evl.q_when (b := !(List.range (rs.length - 1)).all fun i => (rat rs i).2 != (rat rs (i + 1)).2) (Evl.et_not (Evl.et_B (Evl.ev_is (ev_all (bs := (List.range (rs.length - 1)).map fun i => (rat rs i).2 != (rat rs (i + 1)).2) ?_) (congrArg V.bl (by simp))))) (fun z4 H5 e5 => ?_) (fun z4 H5 e5 => ?_)
          · rw [List.map_map, ← lps]
            refine el_zip1 (ez_tail (Evl.ev_var (v := .ref pr) rfl) (.inl (SqL.of hpx))) (by omega) (fun _ _ => rfl) fun j x y' H5 e5 hx hy => ?_
            refine Evl.ev_is (ev_neB (ix1 e5 hx rfl) (ix1 e5 hy rfl)) ?_
            show _ = V.bl ((rat rs j).2 != (rat rs (j + 1)).2)
            cases (rat rs j).2 <;> cases (rat rs (j + 1)).2 <;> rfl
          · have z5 := notT z4
            refine Evl.s_ret (v := .bl false) Evl.ev_c fun H6 e6 => ?_
            have := fin H6 (e5.trans e6)
            unfold turnsOk at this
            rw [z5] at this
            exact this
          · have z5 := notF z4
            have lenE : ∀ {σ : L2.St} {H6 : Hp}, Ex H4 H6 → σ[5]? = some (some (.ref pr)) → Evl.Ev (tCB (Evl.rLenS K) (tCons (tVar 5) tNil)) σ H6 (.int ((rs.length : Nat) : Int)) := fun e h => Evl.ev_is (ev_lenS (a := pr) (xs := ps) (Evl.ev_var h) (.inl (SqL.of (e _ _ hpx)))) (by rw [lps])
            refine Evl.q_when (b := decide (rs.length = 2) && decide ((rat rs 0).1 = (rat rs 1).1)) (Evl.et_and (a := decide (rs.length = 2)) (Evl.et_is (Evl.et_test (Evl.ev_op (lenE e5 rfl) Evl.ev_c (Evl.rv_eq rfl))) ?_) fun z6 => Evl.et_is (a := PyData.eqv (ptD (rat rs 0).1) (ptD (rat rs 1).1)) (b := decide ((rat rs 0).1 = (rat rs 1).1)) ?_ ?_) (fun z6 H6 e6 => ?_) (fun z6 H6 e6 => ?_)
            · exact decide_eq_decide.mpr ⟨fun z => by injection z with z; omega, fun z => by rw [z]; rfl⟩
            · have z7 : rs.length = 2 := of_decide_eq_true z6
              obtain ⟨q0, h0⟩ : ∃ q0, ps[0]? = some q0 := ⟨_, List.getElem?_eq_getElem (by omega)⟩
              obtain ⟨q1, h1⟩ : ∃ q1, ps[1]? = some q1 := ⟨_, List.getElem?_eq_getElem (by omega)⟩
              obtain ⟨p0, ep0, dp0⟩ := ix0 (te := tOp (rIxL K) (tVar 5) (tC (.int 0))) (σ := [some v, some (.int m), some (.ref a), some (.ref b), some (.ref t2), some (.ref pr), none, none, none]) e5 h0 (Evl.ev_op (Evl.ev_var (v := .ref pr) rfl) Evl.ev_c (Evl.rv_ixL (SqL.of (e5 _ _ hpx)) (atI_nat (j := 0) h0)))
              obtain ⟨p1, ep1, dp1⟩ := ix0 (te := tOp (rIxL K) (tVar 5) (tC (.int 1))) (σ := [some v, some (.int m), some (.ref a), some (.ref b), some (.ref t2), some (.ref pr), none, none, none]) e5 h1 (Evl.ev_op (Evl.ev_var (v := .ref pr) rfl) Evl.ev_c (Evl.rv_ixL (SqL.of (e5 _ _ hpx)) (atI_nat (j := 1) h1)))
              exact Evl.et_test (ev_eqD ep0 ep1 dp0 dp1 (lay_pt _) (lay_pt _))
            · show PyData.eqvAll _ _ = _
              exact eqv_pt _ _
            · refine Evl.s_ret (v := .bl true) Evl.ev_c fun H7 e7 => ?_
              have := fin H7 ((e5.trans e6).trans e7)
              unfold turnsOk at this
              rw [z5, z6] at this
              exact this
            · refine Evl.s_ret (v := .bl (decide ((rs.length : Int) = m + 2) && (List.range (rs.length - 1)).all fun i => HT.lexLt (rat rs i).1 (rat rs (i + 1)).1)) (Evl.ev_andV (Evl.ev_is (Evl.ev_op (lenE (e5.trans e6) rfl) (Evl.ev_op (x := .int m) (Evl.ev_var rfl) Evl.ev_c Evl.rv_I0) (Evl.rv_eq rfl)) ?_) fun z8 => Evl.ev_is (ev_all (bs := (List.range (rs.length - 1)).map fun i => HT.lexLt (rat rs i).1 (rat rs (i + 1)).1) ?_) (congrArg V.bl (by simp))) fun H7 e7 => ?_
              · exact congrArg V.bl (decide_eq_decide.mpr ⟨fun z => by injection z, fun z => by rw [z]⟩)
              · rw [List.map_map, ← lps]
                refine el_zip1 (ez_tail (Evl.ev_var (v := .ref pr) rfl) (.inl (SqL.of ((e5.trans e6) _ _ hpx)))) (by omega) (fun _ _ => rfl) fun j x y' H7 e7 hx hy => ?_
                have eA := (e5.trans e6).trans e7
                obtain ⟨p0, ep0, dp0⟩ := ix0 (te := tVar 7) (σ := [some v, some (.int m), some (.ref a), some (.ref b), some (.ref t2), some (.ref pr), none, some x, some y']) eA hx (Evl.ev_var rfl)
                obtain ⟨p1, ep1, dp1⟩ := ix0 (te := tVar 8) (σ := [some v, some (.int m), some (.ref a), some (.ref b), some (.ref t2), some (.ref pr), none, some x, some y']) eA hy (Evl.ev_var rfl)
                obtain ⟨b0, x0, rfl, s0, rfl⟩ := dp_pt dp0
                obtain ⟨b1, x1, rfl, s1, rfl⟩ := dp_pt dp1
                exact Evl.ev_op ep0 ep1 fun H8 e8 Q' q' => ⟨b0, b1, (rat rs j).1, (rat rs (j + 1)).1, rfl, rfl, Evl.ex_t e8 s0, Evl.ex_t e8 s1, q' H8 (Ex.refl _)⟩
              · have := fin H7 (((e5.trans e6)).trans e7)
                unfold turnsOk at this
                rw [z5, z6] at this
                exact this
end
end U
set_option Elab.async false
set_option linter.all false
set_option maxRecDepth 100000
set_option maxHeartbeats 4000000
/-! {**d, k: v} -/
namespace UD
open PySem
open Sem (wp)
section
variable {prog : Program} {w : World} {K : Type} [DecidableEq K] {knd : KeyKind prog w K} {A : Around} {E : Value → Shared → Prop} {s : Shared}
theorem wpAny_dictPut_pairs {d : Addr} {kvs : List (K × Value)} {k : K} {key v : Value} {Q : Unit → Shared → Prop} (hkey : knd.is k key = true) (hm : s.heap.DictOf knd d kvs)
    (hQ : ∀ h', h'.DictOf knd d (stored kvs k v) → Heap.SameBut d s.heap h' → Q () { s with heap := h' })
    (hsz : kvs.length ≤ sizeLine) :
    wpAny (model prog w) A (dictPut d (knd.hash k) key v) Q E s := by
  obtain ⟨o, es, ep, ho, hc, hd, hk, hp, hn⟩ := hm
  have hes : es.size ≤ sizeLine := by have e1 := hp.length; have e2 : es.toList.length = es.size := by simp
                                      omega
  unfold dictPut
  refine wpAny_bind (wpAny_dictFind_of hkey ho hd hk ?_)
  have hidx : (es.findIdx? fun e => knd.is k e.key) = kvs.findIdx? fun kv => decide (kv.1 = k) := by
    rw [← hp.findIdx k]; obtain ⟨l⟩ := es; simp
  cases hi : es.findIdx? fun e => knd.is k e.key with
  | some i =>
    refine wpAny_updateDict ho hd (hQ _ ⟨_, _, ep, Heap.get?_update_self _ ho (Obj.isFreed_of_dict (Obj.data_mapDict hd _)),
      hc.mapDict _, Obj.data_mapDict hd _, hk.modify _ _, ?_, ?_⟩ (Heap.SameBut.update ..))
    · rw [stored, if_pos (any_of_findIdx_some (hidx ▸ hi))]
      have hl : (es.toList.findIdx? fun e => knd.is k e.key) = some i := by rw [← hi]; obtain ⟨l⟩ := es; simp
      have := hp.modify hn hl v
      obtain ⟨l⟩ := es
      simpa using this
    · rw [stored, if_pos (any_of_findIdx_some (hidx ▸ hi)), keys_map_store]; exact hn
  | none =>
    have hnot : k ∉ kvs.map (·.1) := not_mem_of_findIdx_none (hidx ▸ hi)
    have hany : ¬ (kvs.any fun kv => decide (kv.1 = k)) = true := by
      rw [List.any_eq_true]; rintro ⟨kv, hkv, he⟩
      exact hnot (List.mem_map.mpr ⟨kv, hkv, of_decide_eq_true he⟩)
    refine wpAny_updateDictKeys (hz := hes) ho hd (hQ _ ⟨_, _, ep + 1, Heap.get?_update_self _ ho (Obj.isFreed_of_dict (Obj.data_mapDictKeys hd _)),
      hc.mapDictKeys _, Obj.data_mapDictKeys hd _, hk.push hkey _, ?_, ?_⟩ (Heap.SameBut.update ..))
    · rw [stored, if_neg hany]
      have := hp.append hkey (knd.hash k) v
      obtain ⟨l⟩ := es
      simpa using this
    · rw [stored, if_neg hany, List.map_append, List.nodup_append]
      refine ⟨hn, by simp, ?_⟩
      intro a ha b hb
      simp only [List.map_cons, List.map_nil, List.mem_singleton] at hb
      subst hb
      exact fun e => hnot (e ▸ ha)
theorem wpAny_mergeMapping {d o : Addr} {kvs more : List (K × Value)} {Q : Unit → Shared → Prop} (hdo : d ≠ o) (hoS : (o == sysModules) = false)
    (hd : s.heap.DictOf knd d kvs) (ho : s.heap.DictOf knd o more)
    (hQ : ∀ h', h'.DictOf knd d (merged kvs more) → h'.DictOf knd o more → Heap.SameBut d s.heap h' → Q () { s with heap := h' })
    (hsz : kvs.length + more.length ≤ sizeLine) :
    wpAny (model prog w) A (mergeMapping d (.ref o) false) Q E s := by
  obtain ⟨od, esd, epd, hod, hcd, hdd, hkd, hpd, hnd⟩ := id hd
  obtain ⟨oo, eso, epo, hoo, hco, hdo', hko, hpo, hno⟩ := id ho
  unfold mergeMapping
  refine wpAny_bind (wpAny_isInstance ho.typeIs isSubtype_dict_dict ?_)
  dsimp only
  rw [if_pos rfl]
  refine wpAny_bind (wpAny_specialOf ho.typeIs F.slot_dict_iter.lookup (wpAny_bind (wpAny_pure ?_)))
  simp only [beq_self_eq_true, Bool.false_eq_true, if_false]
  rw [if_neg (by rw [hoS]; exact Bool.false_ne_true)]
  have hlen : more.length = eso.size := by rw [← hpo.length]; simp
  have loop : wpAny (model prog w) A (do
      let l ← dictEntries o
      let epoch ← dictEpoch o
      forIn (List.range l.size) PUnit.unit fun i (_ : PUnit) => (do
          let l' ← dictEntries o
          match l'[i]? with
            | some e => do
              holding [e.key, e.val] (do
                dictPut d e.hash e.key e.val)
              let ep' ← dictEpoch o
              if (ep' != epoch) = true then do
                  (unsupported "dict.changed-during-merge" : Sem PUnit)
                  pure (ForInStep.yield PUnit.unit)
                else pure (ForInStep.yield PUnit.unit)
            | _ => do
              (unsupported "dict.changed-during-merge" : Sem PUnit)
              pure (ForInStep.yield PUnit.unit) : Sem (ForInStep PUnit))
      pure ()) Q E s := by
    refine wpAny_bind (wpAny_dictEntries hoo hdo' ?_)
    refine wpAny_bind (wpAny_dictEpoch hoo hdo' ?_)
    refine wpAny_bind ?_
    rw [List.range_eq_range']
    refine wpAny_forIn_list _
      (fun rest _ s' => ∃ h' i, s' = { s with heap := h' } ∧ rest = List.range' i (eso.size - i) ∧ i ≤ eso.size ∧ h'.DictOf knd d (merged kvs (more.take i)) ∧ h'.get? o = some oo ∧ Heap.SameBut d s.heap h')
      _ ?_ ?_ _ _ ⟨s.heap, 0, rfl, by simp, Nat.zero_le _, by simpa [merged] using hd, hoo, Heap.SameBut.refl _ _⟩
    · rintro x rest b s' ⟨h', i, rfl, hr, hi, hd', hoo', hs'⟩
      have hlt : i < eso.size := by
        rcases Nat.lt_or_ge i eso.size with h | h
        · exact h
        · rw [Nat.sub_eq_zero_of_le h] at hr; simp at hr
      obtain ⟨rfl, hrest⟩ : x = i ∧ rest = List.range' (i + 1) (eso.size - (i + 1)) := by
        have e : eso.size - i = (eso.size - (i + 1)) + 1 := by omega
        rw [e, List.range'_succ] at hr
        injection hr with h1 h2
        exact ⟨h1, h2⟩
      refine wpAny_bind (wpAny_dictEntries hoo' hdo' ?_)
      rw [Array.getElem?_eq_getElem hlt]
      obtain ⟨kv, hkv⟩ : ∃ kv, more[x]? = some kv := ⟨more[x]'(by rw [hlen]; exact hlt), List.getElem?_eq_getElem _⟩
      obtain ⟨k, v⟩ := kv
      obtain ⟨hkey, hval⟩ := hpo.get? (e := eso[x]) (by simp [hlt]) hkv
      obtain ⟨k', hkey', hhash⟩ := hko eso[x] (Array.getElem_mem hlt)
      obtain rfl : k' = k := knd.inj _ _ _ hkey' hkey
      show wpAny _ _ (holding [eso[x].key, eso[x].val] (dictPut d eso[x].hash eso[x].key eso[x].val) >>= _) _ _ _
      rw [hhash, hval]
      have hmx : (merged kvs (more.take x)).length ≤ sizeLine := by
        have e1 := merged_length_le kvs (more.take x)
        have e2 : (more.take x).length ≤ more.length := by rw [List.length_take]; omega
        omega
      refine wpAny_bind (wpAny_holding (wpAny_dictPut_pairs (hsz := hmx) hkey hd' fun h'' hd'' hs'' => ?_))
      have hoo'' : h''.get? o = some oo := (hs''.2 o (Ne.symm hdo)).trans hoo'
      refine wpAny_bind (wpAny_dictEpoch hoo'' hdo' ?_)
      rw [if_neg (by simp)]
      exact wpAny_pure ⟨h'', x + 1, rfl, hrest, hlt, by rw [merged_take_succ kvs more x (k', v) hkv]; exact hd'', hoo'', hs'.trans hs''⟩
    · rintro b s' ⟨h', i, rfl, hr, hi, hd', hoo', hs'⟩
      have hin : i = eso.size := by
        rcases Nat.lt_or_ge i eso.size with h | h
        · have e : eso.size - i = (eso.size - (i + 1)) + 1 := by omega
          rw [e, List.range'_succ] at hr; exact nomatch hr
        · exact Nat.le_antisymm hi h
      refine wpAny_pure (hQ h' ?_ ⟨oo, eso, epo, hoo', hco, hdo', hko, hpo, hno⟩ hs')
      rw [hin, ← hlen, List.take_length] at hd'; exact hd'
  refine wpAny_bind (wpAny_dictEntries hod hdd ?_)
  split
  · refine wpAny_bind (wpAny_dictEntries hoo hdo' ?_)
    have hloop : (forIn eso PUnit.unit fun e (_ : PUnit) => (match e.key with
        | .ref _ => (do
          let q ← specialOf e.key "__eq__"
          if (q != some (.builtin "object.__eq__")) = true then
            if (eso.filter (·.hash == e.hash)).size > 1 then (do (unsupported "dict.merge-into-an-empty-dict:keys-of-equal-hash" : Sem PUnit); pure (ForInStep.yield PUnit.unit)) else pure (ForInStep.yield PUnit.unit)
          else pure (ForInStep.yield PUnit.unit))
        | _ => pure (ForInStep.yield PUnit.unit) : Sem (ForInStep PUnit))) = pure PUnit.unit := by
      rw [← Array.forIn_toList]
      refine forIn_yield_id _ fun e he c => ?_
      obtain ⟨k, hkey, _⟩ := hko e (Array.mem_toList_iff.mp he)
      have hb := knd.byValue k _ hkey
      split
      · rename_i a he'
        rw [he'] at hb
        cases hb
      · rfl
    exact wpAny_bind (wpAny_of_eq hloop loop)
  · exact loop
theorem wpAny_display_star {env : Env} {ed ek ev : Expr} {pos : Pos} {Q : Value → Shared → Prop}
    (hd : wpAny (model prog w) A (eval ed env) (fun v s1 => ∃ (a : Addr) (kvs : List (K × Value)), v = .ref a ∧ (a == sysModules) = false ∧ kvs.length ≤ sizeLine ∧ s1.heap.DictOf knd a kvs ∧ s1.heap.DictOf knd s.heap.objs.size [] ∧ a ≠ s.heap.objs.size ∧
      ∀ h1, h1.DictOf knd s.heap.objs.size (merged [] kvs) → Heap.SameBut s.heap.objs.size s1.heap h1 →
        wpAny (model prog w) A (evalPairs [(eval ek env, do let x ← eval ev env; standAt pos; pure x)]) (fun vs s2 => ∃ (one base : List (K × Value)), Carries knd vs one ∧ s2.heap.DictOf knd h1.objs.size [] ∧ s2.heap.DictOf knd s.heap.objs.size base ∧ s.heap.objs.size ≠ h1.objs.size ∧
          ((h1.objs.size == sysModules) = false) ∧ base.length + (merged [] one).length ≤ sizeLine ∧
          ∀ h2, h2.DictOf knd h1.objs.size (merged [] one) → Heap.SameBut h1.objs.size s2.heap h2 → ∀ h3, h3.DictOf knd s.heap.objs.size (merged base (merged [] one)) → Heap.SameBut s.heap.objs.size h2 h3 →
            Q (.ref s.heap.objs.size) { s2 with heap := h3, toks := s2.toks + vs.length }) E { s1 with heap := h1.push { cls := .type "dict", data := .dict #[] } }) E { s with heap := s.heap.push { cls := .type "dict", data := .dict #[] } }) :
    wpAny (model prog w) A (eval (.Dict [none, some ek] [ed, ev] pos) env) Q E s := by
  rw [arm_eval_Dict]
  refine wpAny_bind (wpAny_standAt ?_)
  show wpAny _ _ (dictDisplay [(none, do let x ← eval ed env; standAt pos; pure x), (some (eval ek env), do let x ← eval ev env; standAt pos; pure x)]) _ _ s
  unfold dictDisplay
  dsimp only
  simp only [List.forIn_cons, List.forIn_nil, List.isEmpty_nil, if_true, List.nil_append, List.length_singleton, pure_bind, bind_assoc, show ((1 : Nat) == 17) = false from rfl, Bool.false_eq_true, if_false, List.isEmpty_cons]
  refine wpAny_bind (wpAny_alloc ?_)
  refine wpAny_bind (wpAny_holding (wpAny_bind (wpAny_mono hd (fun v s1 h1 => ?_) fun _ _ e => e)))
  obtain ⟨a, kvs, rfl, haS, hz, ha, hn0, hne, h1⟩ := h1
  refine wpAny_bind (wpAny_standAt (wpAny_pure ?_))
  refine wpAny_bind (wpAny_onRaise (wpAny_tryCatch (wpAny_onRaise (wpAny_holding (wpAny_mergeMapping (knd := knd) (Ne.symm hne) haS hn0 ha (fun h' hd' ho' sb => ?_) (by simpa using hz))))))
  refine wpAny_bind (wpAny_holding (wpAny_subDict (knd := knd) (by simp) (wpAny_mono (h1 h' hd' sb) (fun vs s2 h2 => ?_) fun _ _ e => e)))
  obtain ⟨one, base, hc, hs0, hd2, hne2, hS2, hz2, h3⟩ := h2
  refine ⟨one, hc, hs0, fun h2' hm2 sb2 => ?_⟩
  have hd3 := hd2.sameBut sb2 hne2
  refine wpAny_bind (wpAny_onRaise (wpAny_holding (wpAny_mergeMapping (knd := knd) hne2 hS2 hd3 hm2 (fun h4 hd4 ho4 sb4 => ?_) hz2)))
  exact wpAny_pure (h3 h2' hm2 sb2 h4 hd4 sb4)
end
end UD
set_option Elab.async false
set_option linter.all false
set_option maxRecDepth 100000
set_option maxHeartbeats 4000000
/-! {**d, k: v}: the rule -/
namespace U
open PySem PySem.Spec PyProof.Rows L2
open Evl (Ex)
def tDStar (td tk tv : TE) : TE := fun σ H Q => ∀ p, H p = none → td σ (upd H p (.dK [])) fun x H1 => ∃ a kvs, x = .ref a ∧ a ≠ p ∧ H1 a = some (.dK kvs) ∧ H1 p = some (.dK []) ∧ kvs.length + 1 ≤ sizeLine ∧
  ∀ q, upd H1 p (.dK (mergeK [] kvs)) q = none → tPairs [(tk, tv)] σ (upd (upd H1 p (.dK (mergeK [] kvs))) q (.dK [])) fun ps H5 => ∃ k z, ps = [(kV k, z)] ∧ H5 p = some (.dK (mergeK [] kvs)) ∧ H5 q = some (.dK []) ∧ p ≠ q ∧
    Q (.ref p) (upd (upd H5 q (.dK [(k, z)])) p (.dK (mergeK (mergeK [] kvs) [(k, z)])))
theorem pe_dstar {X : Cx} {ed ek ev : Expr} {pos : Pos} {td tk tv : TE} (hd : PE X ed td) (hk : PE X ek tk) (hv : PE X ev tv) : PE X (.Dict [none, some ek] [ed, ev] pos) (tDStar td tk tv) := by
  refine ⟨fun pins s σ H Q I h => ?_⟩
  have hn := I.hok.fresh (Nat.le_refl s.heap.objs.size)
  have I1 := I.laid (a := s.heap.objs.size) (o := .dK []) (h' := s.heap.push { cls := .type "dict", data := .dict #[] }) (t' := s.toks) (fun _ _ q => Heap.get?_push_of_some _ q) (Nat.le_refl _) (dk_empty s.heap I.big)
  refine UD.wpAny_display_star (knd := mixKind X.prog X.w) (thn (hd.run pins _ σ _ _ I1 (h _ hn)) fun v s1 ⟨x, H1, I2, rx, a, kvs, ex, hne, ha, hp, hz, h2⟩ => ?_)
  subst ex
  cases rx
  obtain ⟨za, sa, vs, kva, dda⟩ := dk_of I2.hok ha
  obtain ⟨_, sp, vs0, r0, ddp⟩ := dk_of I2.hok hp
  cases r0
  have lv : vs.length = kvs.length := kva.length.symm
  refine ⟨a, vs, rfl, sa, by omega, dda, ddp, hne, fun g1 dd1 sb1 => ?_⟩
  -- the copy
  have hz1 : (mergeK [] kvs).length ≤ sizeLine := by
    have q1 := length_mergeK kvs []
    rw [List.length_nil] at q1
    omega
  have he1 : ∃ q, g1.get? s.heap.objs.size = some q := let ⟨q, _, _, hq, _⟩ := dd1; ⟨q, hq⟩
  have I3 : Inv X pins σ (upd H1 s.heap.objs.size (.dK (mergeK [] kvs))) { s1 with heap := g1 } := d_write I2 (by rw [hp]; exact True.intro) sb1 he1 (dk_new hz1 sp (kva.merge .nil) dd1)
  have hn3 := I3.hok.fresh (Nat.le_refl g1.objs.size)
  have I4 := I3.laid (a := g1.objs.size) (o := .dK []) (h' := g1.push { cls := .type "dict", data := .dict #[] }) (t' := s1.toks) (fun _ _ q => Heap.get?_push_of_some _ q) (Nat.le_refl _) (dk_empty g1 I3.big)
  refine thn ((pps_cons hk hv pps_nil).run pins _ σ _ (fun ps H5 => ∃ k z, ps = [(kV k, z)] ∧ H5 s.heap.objs.size = some (.dK (mergeK [] kvs)) ∧ H5 g1.objs.size = some (.dK []) ∧ s.heap.objs.size ≠ g1.objs.size ∧ Q (.ref s.heap.objs.size) (upd (upd H5 g1.objs.size (.dK [(k, z)])) s.heap.objs.size (.dK (mergeK (mergeK [] kvs) [(k, z)])))) I4 ?_) fun ws s2 ⟨ps, H5, I5, rel, k, z, ep, e1, e2, ne, hQ⟩ => ?_
  · exact h2 _ hn3
  · subst ep
    obtain ⟨one, c, rk⟩ := carries_of (P := X.prog) (w := X.w) (kvs := [(k, z)]) rel
    obtain ⟨_, sq, w0, r0, ddq⟩ := dk_of I5.hok e2
    cases r0
    obtain ⟨_, _, w1, r1, ddp5⟩ := dk_of I5.hok e1
    have l1 : w1.length = (mergeK [] kvs).length := r1.length.symm
    have q1 := length_mergeK kvs []
    rw [List.length_nil] at q1
    have lo : one.length = 1 := rk.length.symm
    have lm : (merged [] one).length ≤ 1 := by
      have := merged_length_le [] one
      rw [List.length_nil] at this
      omega
    refine ⟨one, w1, c, ddq, ddp5, ne, sq, by omega, fun g2 dd2 sb2 g3 dd3 sb3 => ?_⟩
    have hq1 : (mergeK [] [(k, z)] : List (Key × V)) = [(k, z)] := rfl
    have he2 : ∃ q, g2.get? g1.objs.size = some q := let ⟨q, _, _, hq, _⟩ := dd2; ⟨q, hq⟩
    have I6 : Inv X pins σ (upd H5 g1.objs.size (.dK [(k, z)])) { s2 with heap := g2 } := d_write I5 (by rw [e2]; exact True.intro) sb2 he2 (dk_new (by rw [sizeLine_eq]; show 1 ≤ 16777216; decide) sq (rk.merge .nil) dd2)
    have he3 : ∃ q, g3.get? s.heap.objs.size = some q := let ⟨q, _, _, hq, _⟩ := dd3; ⟨q, hq⟩
    have hp6 : (upd H5 g1.objs.size (.dK [(k, z)])) s.heap.objs.size = some (.dK (mergeK [] kvs)) := by
      rw [upd_ne ne]
      exact e1
    have lz : (mergeK (mergeK [] kvs) [(k, z)]).length ≤ sizeLine := by
      have q2 := length_mergeK [(k, z)] (mergeK [] kvs)
      rw [List.length_singleton] at q2
      omega
    have I7 := d_write (t' := s2.toks + ws.length) I6 (by rw [hp6]; exact True.intro) sb3 he3 (dk_new lz sp ((rk.merge .nil).merge r1) dd3)
    exact ⟨.ref s.heap.objs.size, _, I7, rfl, hQ⟩
end U
set_option Elab.async false
set_option linter.all false
set_option maxRecDepth 100000
set_option maxHeartbeats 4000000
/-! views without a number, views with one more -/
namespace U
open PySem PySem.Spec PyProof.Rows L2
open Evl (Ex)
abbrev s_without : Stmt := top 54
abbrev sc_without_N : List Str := ["points", "number", "other", "point"]
theorem sc_without : FnScope sc_without_N ["points", "number"] (defScope s_without) := ⟨rfl, rfl, rfl, by decide +kernel, rfl, by decide +kernel, by decide +kernel⟩
section
variable {J : It} {n : Nat} {G : Hp → Prop} {Y : Nat → Hp → V → Hp → Prop}
/-- a dict's comprehension over it -/
theorem dc_it (w : Walk J n G Y) {g : TG} {tt : TT} {tk tv : TE} {vs : List Nat} {σ : L2.St} {H1 : Hp} {D : Addr} {Qd : Hp → Prop} (Pv : Nat → Hp → Prop) (h0 : Pv 0 (upd H1 D (.dK []))) (hG : ∀ i H, i ≤ n → Pv i H → G H)
    (hs : ∀ i x H H', i < n → Pv i H → Y i H x H' → g x (wipe σ vs) H' fun σ2 H2 => wipe σ2 vs = wipe σ vs ∧ tt σ2 H2 fun b H3 =>
      if b = true then tk σ2 H3 fun y H4 => tv σ2 H4 fun z H5 => ∃ kvs k, y = kV k ∧ H5 D = some (.dK kvs) ∧ kvs.length < sizeLine ∧ Pv (i + 1) (upd H5 D (.dK (putK kvs k z))) else Pv (i + 1) H3) (hd : ∀ H, Pv n H → Qd H) :
    ∃ W : Nat → Nat → Hp → Prop, (∃ m, W 0 m (upd H1 D (.dK []))) ∧ ∀ i m H, W i m H →
      (J.stop i H ∧ Qd H) ∨ (J.go i H ∧ ∃ Nx : Hp → Prop, (∀ H', Nx H' → ∃ m', m' < m ∧ W (i + 1) m' H') ∧ ∀ x H', J.yld i H x H' → g x (wipe σ vs) H' fun σ2 H2 => wipe σ2 vs = wipe σ vs ∧ tt σ2 H2 fun b H3 =>
        if b = true then tk σ2 H3 fun y H4 => tv σ2 H4 fun z H5 => ∃ kvs k, y = kV k ∧ H5 D = some (.dK kvs) ∧ kvs.length < sizeLine ∧ Nx (upd H5 D (.dK (putK kvs k z))) else Nx H3) := by
  refine ⟨fun i m H => m = n - i ∧ i ≤ n ∧ Pv i H, ⟨n, by simp, Nat.zero_le _, h0⟩, ?_⟩
  rintro i m H ⟨rfl, hi, p⟩
  have q := hG i H hi p
  by_cases hlt : i < n
  · refine .inr ⟨w.goes i H hlt q, Pv (i + 1), fun H' p' => ⟨n - (i + 1), by omega, rfl, hlt, p'⟩, fun x H' y => hs i x H H' hlt p (w.yields i H x H' hlt q y)⟩
  · have e : i = n := by omega
    subst e
    exact .inl ⟨w.stops H q, hd H p⟩
end
def vdrop (m : Vw) (i : Int) : Vw := m.filter fun q => decide (q.1 ≠ i)
theorem vdrop_nd {m : Vw} {i : Int} (h : (m.map (·.1)).Nodup) : ((vdrop m i).map (·.1)).Nodup := List.Nodup.sublist (List.Sublist.map _ List.filter_sublist) h
theorem vdrop_vp {m : Vw} {i : Int} {p : Nat} (h : Vp p m) : Vp p (vdrop m i) := fun q hq => h q (List.mem_filter.mp hq).1
theorem paired_filter {α β : Type} {F : α → β → Prop} {p : α → Bool} {q : β → Bool} (hpq : ∀ x y, F x y → p x = q y) : ∀ {xs : List α} {ys : List β}, Paired F xs ys → Paired F (xs.filter p) (ys.filter q)
  | _, _, .nil => .nil
  | x :: xs, y :: ys, .cons h t => by
    rw [List.filter_cons, List.filter_cons, hpq x y h]
    split
    · exact .cons h (paired_filter hpq t)
    · exact paired_filter hpq t
section
variable {P : Program} {w : World} {K : PySem.W.Frag} {mg : Str → Option Value} {base : Heap}
def keepK (i : Int) (kv : L2.Key × V) : Bool := decide (kv.1 ≠ Sum.inl i)
def spWo (K : PySem.W.Frag) : Sp := fun vs H Q _ => ∃ a i m, vs = [.ref a, .int i] ∧ DV K H a m ∧ m.length ≤ 1000 ∧ ∀ b H', H b = none → Ex H H' → DV K H' b (vdrop m i) → Q (.ref b) H'
theorem dp_dict {H H' : Hp} {a : Addr} {kvs : List (L2.Key × V)} {v : V} {d : PyData} (ha : H a = some (.dK kvs)) (e : ∀ b o, b ≠ a → H b = some o → H' b = some o) (h : Dp K H v d) : Dp K H' v d := by
  have go : ∀ (d : PyData) (v : V), Dp K H v d → Dp K H' v d := by
    have hl : ∀ t xs, SqL K H t xs → SqL K H' t xs := fun t xs h => by
      rcases h with (h | ⟨o, h⟩) | h
      · exact .inl (.inl (e t _ (fun z => by rw [z, ha] at h; cases h) h))
      · exact .inl (.inr ⟨o, e t _ (fun z => by rw [z, ha] at h; cases h) h⟩)
      · exact .inr h
    have ht : ∀ t xs, SqT K H t xs → SqT K H' t xs := fun t xs h => by
      rcases h with (h | ⟨o, h⟩) | h
      · exact .inl (.inl (e t _ (fun z => by rw [z, ha] at h; cases h) h))
      · exact .inl (.inr ⟨o, e t _ (fun z => by rw [z, ha] at h; cases h) h⟩)
      · exact .inr h
    intro d v h
    exact Dp.rec (motive_1 := fun v d _ => Dp K H' v d) (motive_2 := fun vs ds _ => DpAll K H' vs ds) .non (fun b => .bl b) (fun i => .int i) (fun x => .str x) (fun hs _ ih => .lst (hl _ _ hs) ih) (fun hs _ ih => .tup (ht _ _ hs) ih) .nil (fun _ _ ih1 ih2 => .cons ih1 ih2) h
  exact go d v h
theorem dv_ikey {H : Hp} : ∀ {kvs : List (L2.Key × V)} {m : Vw}, Paired (fun kv q => kv.1 = Sum.inl q.1 ∧ Dp K H kv.2 (ptD q.2)) kvs m → ∀ kv ∈ kvs, ∃ j : Int, kv.1 = Sum.inl j
  | _, _, .nil => fun _ h => nomatch h
  | kv :: kvs, q :: m, .cons h t => fun x hx => by
    rcases List.mem_cons.mp hx with rfl | hx
    · exact ⟨_, h.1⟩
    · exact dv_ikey t x hx
theorem dv_keys {H : Hp} : ∀ {kvs : List (L2.Key × V)} {m : Vw}, Paired (fun kv q => kv.1 = Sum.inl q.1 ∧ Dp K H kv.2 (ptD q.2)) kvs m → kvs.map (·.1) = (m.map (·.1)).map (Sum.inl : Int → L2.Key)
  | _, _, .nil => rfl
  | kv :: kvs, q :: m, .cons h t => by
    rw [List.map_cons, List.map_cons, List.map_cons, dv_keys t, h.1]
theorem ok_without {f : Addr} {fd : FuncData} (F : Fun K "_without" "_without" s_without f fd) : FnOk P w K mg base CX0 1 f fd ["points", "number"] (spWo K) := by
  refine F.ok sc_without (fun vs H Q E h => ?_) (fun cdv A outer s H vs Q E hr h => ?_)
  · obtain ⟨_, _, _, rfl, _⟩ := h
    rfl
  · obtain ⟨a, i, m, rfl, hv, hl, k⟩ := h
    refine ⟨_, (pss_one (ps_ret (pe_lock (pe_dc (own := [("other", 2), ("point", 3)]) (g := gTup K 2 (gCons (gName 2) (gCons (gName 3) gNil))) (tt := tTest (tOp rNe (tVar 2) (tVar 1))) (tk := tVar 2) (tv := tVar 3) (by rfl) sc_without.nd (pi_items (pv 0)) (blkOk_by (N := sc_without_N) (sc := defScope s_without) (by decide +kernel)) (fun _ _ _ _ _ => pg_tup (by rfl) (pgs_cons (pg_name (i := 2) sc_without.nd rfl (by first | exact Or.inl rfl | exact Or.inr rfl)) (pgs_cons (pg_name (i := 3) sc_without.nd rfl (by first | exact Or.inl rfl | exact Or.inr rfl)) pgs_nil))) (fun _ _ _ _ _ => pts_one (pt_cmpR op_ne (pv 2) (pv 1) (nomark _))) (fun _ _ _ _ _ => pv 2) (fun _ _ _ _ _ => pv 3))))), ?_⟩
    obtain ⟨kvs, ha, hp, hnd⟩ := id hv
    have lk : kvs.length = m.length := Paired.length hp
    refine ⟨a, .dK kvs, ha, trivial, fun od => ⟨_, rfl, a, od, kvs, rfl, upd_same, fun D hD => ?_⟩⟩
    have hDa : D ≠ a := fun z => by
      rw [z, upd_same] at hD
      cases hD
    have hD0 : H D = none := by
      rw [upd_ne hDa] at hD
      exact hD
    have ikey := dv_ikey hp
    have knd : (kvs.map (·.1)).Nodup := by
      rw [dv_keys hp]
      exact List.Pairwise.map _ (fun x y h z => h (by injection z)) hnd
    let Pv : Nat → Hp → Prop := fun j H' => (∀ b o, b ≠ a → H b = some o → H' b = some o) ∧ H' a = some (.frz od (.dK kvs)) ∧ H' D = some (.dK ((kvs.take j).filter (keepK i)))
    refine dc_it walk_items Pv ⟨fun b o nb hb => ?_, ?_, upd_same⟩ (fun j H' _ pv => pv.2.1) (fun j x H2 H3 hj pv y => ?_) (fun H2 pv => ?_)
    · have nD : b ≠ D := fun z => by rw [z, hD0] at hb; cases hb
      rw [upd_ne nD, upd_ne nb]
      exact hb
    · rw [upd_ne (Ne.symm hDa)]
      exact upd_same
    · obtain ⟨p1, p2, p3⟩ := pv
      obtain ⟨T, u, z, rfl, hT, rfl, hu, hz⟩ := y
      obtain ⟨kv, hkv⟩ : ∃ kv, kvs[j]? = some kv := ⟨_, List.getElem?_eq_getElem hj⟩
      obtain ⟨q, hq⟩ := ikey kv (List.mem_of_getElem? hkv)
      dsimp only at hu hz
      rw [hkv] at hu hz
      have eu : u = .int q := by
        have t : kV kv.1 = u := Option.some.inj hu
        rw [hq] at t
        exact t.symm
      have ez : z = kv.2 := (Option.some.inj hz).symm
      subst eu ez
      have hTa : T ≠ a := fun z => by rw [z, p2] at hT; cases hT
      have hTD : T ≠ D := fun z => by rw [z, p3] at hT; cases hT
      have st : (kvs.take (j + 1)).filter (keepK i) = (kvs.take j).filter (keepK i) ++ if keepK i kv then [kv] else [] := by
        rw [List.take_add_one, hkv, List.filter_append]
        simp only [Option.toList_some, List.filter_cons, List.filter_nil]
      refine ⟨T, [.int q, kv.2], rfl, SqT.of upd_same, rfl, .int q, [kv.2], rfl, kv.2, [], rfl, rfl, rfl, ?_⟩
      refine Evl.et_test (Evl.ev_op (x := .int q) (y := .int i) (Evl.ev_var rfl) (Evl.ev_var rfl) (Evl.rv_ne rfl)) _ (Ex.refl _) _ fun H4 e4 => ?_
      have e24 : Ex H2 H4 := (Ex.new hT).trans e4
      have b4 : ∀ b o, b ≠ a → H b = some o → H4 b = some o := fun b o nb hb => e24 _ _ (p1 b o nb hb)
      by_cases hqi : q = i
      · subst hqi
        rw [if_neg (by simp)]
        refine ⟨b4, e24 _ _ p2, ?_⟩
        rw [st, if_neg (by simp [keepK, hq]), List.append_nil]
        exact e24 _ _ p3
      · rw [if_pos (by simp [hqi])]
        have h3 := e24 _ _ p3
        refine ⟨_, rfl, _, rfl, _, Sum.inl q, rfl, h3, ?_, fun b o nb hb => ?_, ?_, ?_⟩
        · have h1 : ((kvs.take j).filter (keepK i)).length ≤ kvs.length := Nat.le_trans (List.length_filter_le _ _) (by rw [List.length_take]; omega)
          rw [sizeLine_eq]
          omega
        · have nD : b ≠ D := fun z => by rw [z, hD0] at hb; cases hb
          rw [upd_ne nD]
          exact b4 b o nb hb
        · rw [upd_ne (Ne.symm hDa)]
          exact e24 _ _ p2
        · rw [upd_same, st, if_pos (by simp [keepK, hq, hqi])]
          have hnone : valV ((kvs.take j).filter (keepK i)) (Sum.inl q : L2.Key) = none := by
            cases hval : valV ((kvs.take j).filter (keepK i)) (Sum.inl q : L2.Key) with
            | none => rfl
            | some y =>
              exfalso
              unfold valV at hval
              cases hf : ((kvs.take j).filter (keepK i)).find? (fun kv => decide (kv.1 = (Sum.inl q : L2.Key))) with
              | none => rw [hf] at hval; cases hval
              | some y2 =>
                have hm := List.mem_of_find?_eq_some hf
                have hk : y2.1 = (Sum.inl q : L2.Key) := by
                  have := List.find?_some hf
                  simpa using this
                have hm2 := (List.mem_filter.mp hm).1
                obtain ⟨l, hl1, hl2⟩ := List.getElem_of_mem hm2
                rw [List.length_take] at hl1
                have hl3 : kvs[l]'(by omega) = y2 := by rw [← hl2, List.getElem_take]
                have e1 : (kvs.map (·.1))[l]'(by rw [List.length_map]; omega) = (kvs.map (·.1))[j]'(by rw [List.length_map]; exact hj) := by
                  rw [List.getElem_map, List.getElem_map, hl3, hk, ← hq]
                  rw [List.getElem?_eq_getElem hj] at hkv
                  rw [Option.some.inj hkv]
                have := (List.getElem_inj knd).mp e1
                omega
          rw [putK_new _ hnone, ← hq]
    · obtain ⟨p1, p2, p3⟩ := pv
      rw [List.take_length] at p3
      refine ⟨p2, k D _ hD0 (fun b o hb => ?_) ⟨kvs.filter (keepK i), ?_, ?_, vdrop_nd hnd⟩⟩
      · by_cases nb : b = a
        · subst nb
          rw [upd_same, ← ha, hb]
        · rw [upd_ne nb]
          exact p1 b o nb hb
      · rw [upd_ne hDa]
        exact p3
      · refine paired_filter (fun x y h => ?_) (paired_imp hp fun x y h => ⟨h.1, dp_dict ha (fun b o nb hb => by rw [upd_ne nb]; exact p1 b o nb hb) h.2⟩)
        unfold keepK
        rw [h.1]
        exact decide_eq_decide.mpr ⟨fun z q => z (by rw [q]), fun z q => z (by injection q)⟩
end
end U
set_option Elab.async false
set_option linter.all false
set_option maxRecDepth 100000
set_option maxHeartbeats 4000000
/-! == of kinds -/
namespace U
open PySem PySem.Spec PyProof.Rows L2
open Evl (Ex)
/-- built-in types of data -/
def Bt (T : String) : Prop := T = "NoneType" ∨ T = "bool" ∨ T = "int" ∨ T = "str" ∨ T = "list" ∨ T = "tuple" ∨ T = "dict"
theorem bt_sub {K : PySem.W.Frag} {C : Addr} {T : String} (h : Bt T) : PySem.W.subIn K (.type T) (.ref C) = some false := by
  have go : ∀ (S : String) (l : List Value), fastBuiltinMro S = some l → l.contains (.ref C) = false → PySem.W.subIn K (.type S) (.ref C) = some false := fun S l e1 e2 => by
    show (fastBuiltinMro S).map (·.contains (.ref C)) = some false
    rw [e1]
    exact congrArg some e2
  rcases h with rfl | rfl | rfl | rfl | rfl | rfl | rfl
  · exact go "NoneType" [.type "NoneType", .type "object"] (by decide +kernel) (by simp)
  · exact go "bool" [.type "bool", .type "int", .type "object"] (by decide +kernel) (by simp)
  · exact go "int" [.type "int", .type "object"] (by decide +kernel) (by simp)
  · exact go "str" [.type "str", .type "object"] (by decide +kernel) (by simp)
  · exact go "list" [.type "list", .type "object"] (by decide +kernel) (by simp)
  · exact go "tuple" [.type "tuple", .type "object"] (by decide +kernel) (by simp)
  · exact go "dict" [.type "dict", .type "object"] (by decide +kernel) (by simp)
theorem bt_nf {K : PySem.W.Frag} {C : Addr} {T : String} (h : Bt T) : PySem.W.notFirst K C (.type T) = true := by
  unfold PySem.W.notFirst
  rw [bt_sub h]
  simp
/-- what the classes of kinds say, so that == asks rightly -/
structure KEq (K : PySem.W.Frag) (mg : Str → Option Value) (c : KC) : Prop where
  cl : ∀ i, Cls K (c i)
  ha : ∀ i, PySem.W.findIn K (.ref (c i)) "__class__" = some (some (.builtin "object.__class__"))
  hn : PySem.W.specialIn K (.builtin "object.__class__") "__get__" = some (some (.builtin "getset_descriptor.__get__"))
  ht : PySem.W.takesIn K (.builtin "object.__class__") = some true
  hm : ∀ i, PySem.W.mroIn K (c i) (.type "object") = some true
  ic : ∀ i, PySem.W.isClsIn K (c i) = true
  ty : ∀ i, PySem.W.typeIn K (.ref (c i)) = some (.type "type")
  ne : ∀ i, PySem.W.findIn K (.ref (c i)) "__ne__" = some (some (.builtin "object.__ne__"))
  self : ∀ i, PySem.W.subIn K (.ref (c i)) (.ref (c i)) = some true
  oth : ∀ i j, i ≠ j → PySem.W.subIn K (.ref (c j)) (.ref (c i)) = some false
  g_ha : mg "Halves" = some (.ref (c .ha))
  g_bo : mg "Boxes" = some (.ref (c .bo))
  g_ri : mg "Rising" = some (.ref (c .ri))
  g_fl : mg "Flats" = some (.ref (c .fl))
  g_tu : mg "Turns" = some (.ref (c .tu))
  g_co : mg "Contrary" = some (.ref (c .co))
  g_pa : mg "Pair" = some (.ref (c .pa))
section
variable {K : PySem.W.Frag} {mg : Str → Option Value} {c : KC}
theorem KEq.inj (S : KEq K mg c) {i j : KI} (h : i ≠ j) : c j ≠ c i := fun e => by
  have h1 := S.oth i j h
  rw [e, S.self i] at h1
  cases h1
theorem kit_cl (S : KEq K mg c) {t : Value} {i : KI} : PySem.W.kitCls K t (.ref (c i)) = PySem.W.subIn K t (.ref (c i)) := by
  have h1 : ((PySem.W.clsIn K (c i)).isSome && PySem.W.typeIn K (.ref (c i)) == some (.type "type")) = true := by
    rw [show (PySem.W.clsIn K (c i)).isSome = true from S.ic i, S.ty i]
    simp
  show (if ((PySem.W.clsIn K (c i)).isSome && PySem.W.typeIn K (.ref (c i)) == some (.type "type")) = true then PySem.W.subIn K t (.ref (c i)) else none) = _
  rw [if_pos h1]
theorem kit_kk (S : KEq K mg c) (i j : KI) : PySem.W.kitOne K (.ref (c j)) (.ref (c i)) = some (decide (j = i)) := by
  unfold PySem.W.kitOne
  by_cases e : j = i
  · subst e
    rw [if_pos (by simp), decide_eq_true rfl]
  · have n := S.inj (i := i) (j := j) fun z => e z.symm
    rw [if_neg (by simpa using n), kit_cl S, S.oth i j (fun z => e z.symm), decide_eq_false e]
theorem kit_kb (S : KEq K mg c) {T : String} (h : Bt T) (i : KI) : PySem.W.kitOne K (.type T) (.ref (c i)) = some false := by
  unfold PySem.W.kitOne
  rw [if_neg (by simp), kit_cl S, bt_sub h]
theorem ty_kin (S : KEq K mg c) {H : Hp} {k : Kd} {x : Addr} (h : Kin c H k x) : TyX K H (.ref x) (.ref (c (kiOf k))) := by
  obtain ⟨dx, fs, e, _⟩ := h.ins
  exact .base (.ins e (S.cl _) (S.ha _) S.hn S.ht (S.hm _))
theorem nf_kk (S : KEq K mg c) (i j : KI) : PySem.W.notFirst K (c i) (.ref (c j)) = true := by
  unfold PySem.W.notFirst
  by_cases e : j = i
  · subst e
    simp
  · rw [S.oth i j fun z => e z.symm]
    simp
/-- the other side of ==: a kind, or something of a built-in type -/
def Oth (K : PySem.W.Frag) (c : KC) (H : Hp) (v : V) : Option Kd → Prop
  | some m => ∃ y, v = .ref y ∧ Kin c H m y
  | none => ∃ T, Bt T ∧ TyX K H v (.type T)
def ofI (i : KI) : Option Kd → Bool
  | some m => decide (kiOf m = i)
  | none => false
theorem tyx_ex {H H' : Hp} (e : Ex H H') {v : V} {t : Value} (h : TyX K H v t) : TyX K H' v t := by
  cases h with
  | base b =>
    cases b with
    | non => exact .base .non
    | bl y => exact .base (.bl y)
    | int i => exact .base (.int i)
    | str y => exact .base (.str y)
    | flt y => exact .base (.flt y)
    | lst ea => exact .base (.lst (e _ _ ea))
    | frz ea => exact .base (.frz (e _ _ ea))
    | tup ea => exact .base (.tup (e _ _ ea))
    | dK ea => exact .base (.dK (e _ _ ea))
    | dT ea => exact .base (.dT (e _ _ ea))
    | ins ea cl ha hn htk hm => exact .base (.ins (e _ _ ea) cl ha hn htk hm)
  | byt y => exact .byt y
  | set ea => exact .set (e _ _ ea)
  | kList e' c => exact .kList e' c
  | kTuple e' c => exact .kTuple e' c
  | kDict e' c => exact .kDict e' c
  | fTuple ea => exact .fTuple (e _ _ ea)
  | fDict ea => exact .fDict (e _ _ ea)
theorem Oth.up {H H' : Hp} (e : Ex H H') {v : V} : ∀ {o : Option Kd}, Oth K c H v o → Oth K c H' v o
  | some _, ⟨y, h1, h2⟩ => ⟨y, h1, h2.up e⟩
  | none, ⟨T, h1, h2⟩ => ⟨T, h1, tyx_ex e h2⟩
theorem Oth.ty (S : KEq K mg c) {H : Hp} {v : V} : ∀ {o : Option Kd}, Oth K c H v o → ∃ t, TyX K H v t ∧ (∀ i, PySem.W.notFirst K (c i) t = true) ∧ ∀ i, PySem.W.kitOne K t (.ref (c i)) = some (ofI i o)
  | some m, ⟨y, h1, h2⟩ => by
    subst h1
    exact ⟨_, ty_kin S h2, fun i => nf_kk S i _, fun i => kit_kk S i _⟩
  | none, ⟨T, h1, h2⟩ => ⟨_, h2, fun i => bt_nf h1, fun i => kit_kb S h1 i⟩
theorem ev_ofI (S : KEq K mg c) {σ : L2.St} {H : Hp} {te : TE} {v : V} {o : Option Kd} {i : KI} (h : Evl.Ev te σ H v) (ho : Oth K c H v o) : Evl.Ev (tCB (rIsi K) (tCons te (tCons (tC (.ref (c i))) tNil))) σ H (.bl (ofI i o)) := fun H1 e1 Q q =>
  h H1 e1 _ fun H2 e2 => by
    obtain ⟨t, h1, _, h3⟩ := (ho.up (e1.trans e2)).ty S
    exact ⟨v, .ref (c i), t, _, _, rfl, .own _, h1, h3 i, q H2 e2⟩
end
end U
set_option Elab.async false
set_option linter.all false
set_option maxRecDepth 100000
set_option maxHeartbeats 4000000
/-! plain certificates of kinds, and trees -/
namespace U
open PySem PySem.Spec PyProof.Rows L2
open Evl (Ex)
open C8 (Met Mak pe_mt pe_mt0 pe_mk)
abbrev s_is_plain : Stmt := top 55
abbrev sc_is_plain_N : List Str := ["kind", "thing", "yeses", "noes"]
theorem sc_is_plain : FnScope sc_is_plain_N ["kind", "thing", "yeses", "noes"] (defScope s_is_plain) := ⟨rfl, rfl, rfl, by decide +kernel, rfl, by decide +kernel, by decide +kernel⟩
abbrev s_is_tree : Stmt := top 56
abbrev sc_is_tree_N : List Str := ["kind", "thing", "kept", "left", "ones", "others", "number", "rest"]
theorem sc_is_tree : FnScope sc_is_tree_N ["kind", "thing", "kept", "left", "ones", "others"] (defScope s_is_tree) := ⟨rfl, rfl, rfl, by decide +kernel, rfl, by decide +kernel, by decide +kernel⟩
abbrev s_is_leaf : Stmt := top 57
abbrev sc_is_leaf_N : List Str := ["word", "kind", "thing", "kept", "placed"]
theorem sc_is_leaf : FnScope sc_is_leaf_N ["word", "kind", "thing", "kept", "placed"] (defScope s_is_leaf) := ⟨rfl, rfl, rfl, by decide +kernel, rfl, by decide +kernel, by decide +kernel⟩
abbrev s_Rising_proves : Stmt := inClass (top 40) 5
abbrev sc_Rising_proves_N : List Str := ["self", "thing", "yeses", "noes"]
theorem sc_Rising_proves : FnScope sc_Rising_proves_N ["self", "thing", "yeses", "noes"] (defScope s_Rising_proves) := ⟨rfl, rfl, rfl, by decide +kernel, rfl, by decide +kernel, by decide +kernel⟩
abbrev s_Boxes_proves : Stmt := inClass (top 39) 5
abbrev sc_Boxes_proves_N : List Str := ["self", "thing", "yeses", "noes"]
theorem sc_Boxes_proves : FnScope sc_Boxes_proves_N ["self", "thing", "yeses", "noes"] (defScope s_Boxes_proves) := ⟨rfl, rfl, rfl, by decide +kernel, rfl, by decide +kernel, by decide +kernel⟩
abbrev s_Turns_proves : Stmt := inClass (top 42) 5
abbrev sc_Turns_proves_N : List Str := ["self", "thing", "yeses", "noes"]
theorem sc_Turns_proves : FnScope sc_Turns_proves_N ["self", "thing", "yeses", "noes"] (defScope s_Turns_proves) := ⟨rfl, rfl, rfl, by decide +kernel, rfl, by decide +kernel, by decide +kernel⟩
def vput (m : Vw) (i : Int) (p : List Int) : Vw := if (vget m i).isSome then m.map (fun q => if q.1 = i then (q.1, p) else q) else m ++ [(i, p)]
/-- kinds whose certificates are told of here -/
def okC : Kd → Prop
  | .rising _ => True
  | .boxes _ => True
  | .turns _ => True
  | .no k => okC k
  | .any a b => okC a ∧ okC b
  | .both a b => okC a ∧ okC b
  | _ => False
def treeK (pa pb : PyData → Vw → Vw → Bool) : Nat → PyData → Vw → Vw → Vw → Vw → Bool
  | 0, _, _, _, _, _ => false
  | t + 1, d, kept, left, ones, others =>
    if isF "one" 2 d then pa (el d 1) kept ones
    else if isF "other" 2 d then pb (el d 1) kept others
    else (isF "split" 4 d && isNum left (el d 1)) &&
      (treeK pa pb t (el d 2) kept (vdrop left (valI (el d 1))) (vput ones (valI (el d 1)) (ptOf left (el d 1))) others &&
        treeK pa pb t (el d 3) kept (vdrop left (valI (el d 1))) ones (vput others (valI (el d 1)) (ptOf left (el d 1))))
def plainK (N : Nat) : Kd → PyData → Vw → Vw → Bool
  | .rising _, d, y, n => isAbove y n d
  | .boxes p, d, y, n => isBetween p.toNat y n d
  | .turns m, d, y, n => isTurning m y n d
  | .no k, d, y, n => isF "not" 2 d && plainK N k (el d 1) n y
  | .any a b, d, y, n => isF "neither" 3 d && (plainK N a (el d 1) y n && plainK N b (el d 2) y n)
  | .both a b, d, y, n => treeK (plainK N a) (plainK N b) N d y n [] []
  | _, _, _, _ => false
section
variable {K : PySem.W.Frag} {H H' : Hp} {m : Vw} {i : Int} {p : List Int} {z : V} {kvs : List (L2.Key × V)}
theorem vput_len : (vput m i p).length ≤ m.length + 1 := by
  unfold vput
  split
  · rw [List.length_map]
    omega
  · rw [List.length_append]
    exact Nat.le_refl _
theorem vput_vp {n : Nat} (h : Vp n m) (hp : p.length = n) : Vp n (vput m i p) := fun q hq => by
  unfold vput at hq
  split at hq
  · obtain ⟨r, hr, rfl⟩ := List.mem_map.mp hq
    split
    · exact hp
    · exact h r hr
  · rcases List.mem_append.mp hq with hq | hq
    · exact h q hq
    · rw [List.mem_singleton.mp hq]
      exact hp
theorem vput_nd (h : (m.map (·.1)).Nodup) : ((vput m i p).map (·.1)).Nodup := by
  unfold vput
  split
  · rw [List.map_map]
    have e : ((fun q : Int × List Int => q.1) ∘ fun q => if q.1 = i then (q.1, p) else q) = fun q => q.1 := by
      funext q
      show (if q.1 = i then (q.1, p) else q).1 = q.1
      split <;> rfl
    rw [e]
    exact h
  · rename_i hn
    rw [List.map_append, List.nodup_append]
    refine ⟨h, by simp, fun a ha b hb => ?_⟩
    rw [List.mem_singleton.mp hb]
    rintro rfl
    apply hn
    obtain ⟨q, hq, hqi⟩ := List.mem_map.mp ha
    unfold vget
    rw [Option.isSome_map, List.find?_isSome]
    exact ⟨q, hq, by simpa using hqi⟩
theorem dv_put (h : Paired (fun kv q => kv.1 = Sum.inl q.1 ∧ Dp K H kv.2 (ptD q.2)) kvs m) (hz : Dp K H z (ptD p)) : Paired (fun kv q => kv.1 = Sum.inl q.1 ∧ Dp K H kv.2 (ptD q.2)) (putK kvs (Sum.inl i) z) (vput m i p) := by
  have ha : (kvs.any fun kv => decide (kv.1 = (Sum.inl i : L2.Key))) = (vget m i).isSome := by
    rw [valV_any]
    rcases paired_val (i := i) h with ⟨a1, a2⟩ | ⟨p, v, a1, a2, _⟩ <;> (rw [a1, a2]; rfl)
  unfold putK vput
  rw [ha]
  split
  · rename_i hs
    clear ha hs
    induction h with
    | nil => exact .nil
    | @cons kv q _ _ hh _ ih =>
      refine .cons ?_ ih
      dsimp only
      by_cases e : q.1 = i
      · have e' : kv.1 = (Sum.inl i : L2.Key) := by rw [hh.1, e]
        rw [if_pos e', if_pos e]
        exact ⟨hh.1, hz⟩
      · have e' : ¬ kv.1 = (Sum.inl i : L2.Key) := fun z => e (by rw [hh.1] at z; injection z)
        rw [if_neg e', if_neg e]
        exact hh
  · exact paired_snoc h ⟨rfl, hz⟩
theorem mergeK_fresh : ∀ (more acc : List (L2.Key × V)), ((acc ++ more).map (·.1)).Nodup → mergeK acc more = acc ++ more
  | [], acc, _ => by simp [mergeK]
  | kv :: more, acc, h => by
    have hn : valV acc kv.1 = none := by
      cases hv : valV acc kv.1 with
      | none => rfl
      | some y =>
        exfalso
        have hm : (acc.any fun x => decide (x.1 = kv.1)) = true := by rw [valV_any, hv]; rfl
        obtain ⟨x, hx, he⟩ := List.any_eq_true.mp hm
        rw [List.map_append, List.map_cons, List.nodup_append] at h
        exact h.2.2 x.1 (List.mem_map.mpr ⟨x, hx, rfl⟩) kv.1 List.mem_cons_self (of_decide_eq_true he)
    show mergeK (putK acc kv.1 kv.2) more = _
    rw [putK_new _ hn, mergeK_fresh more (acc ++ [kv]) (by simpa using h)]
    simp
/-- {**d, i: a point} -/
theorem star_run {σ : L2.St} {td tk tv : TE} {a : Addr} {Q : VK} (hv : DV K H a m) (hl : m.length ≤ 1000) (hd : Evl.Ev td σ H (.ref a)) (hk : Evl.Ev tk σ H (.int i)) (hx : Evl.Ev tv σ H z) (hz : Dp K H z (ptD p))
    (k : ∀ b H', H b = none → Ex H H' → DV K H' b (vput m i p) → Q (.ref b) H') : tDStar td tk tv σ H Q := fun b hb => hd _ (Ex.new hb) _ fun H1 e1 => by
  obtain ⟨kvs, ha, hp, hnd⟩ := id hv
  have eb := (Ex.new (o := .dK []) hb).trans e1
  have knd : (kvs.map (·.1)).Nodup := by
    rw [dv_keys hp]
    exact List.Pairwise.map _ (fun x y h z => h (by injection z)) hnd
  have hm : mergeK [] kvs = kvs := mergeK_fresh kvs [] (by simpa using knd)
  have hb1 : H1 b = some (.dK []) := e1 _ _ upd_same
  have lk : kvs.length = m.length := Paired.length hp
  refine ⟨a, kvs, rfl, ne_of_none ha hb, eb _ _ ha, hb1, by rw [sizeLine_eq]; omega, fun q hq => ?_⟩
  rw [hm] at hq ⊢
  have nq : q ≠ b := fun z => by rw [z, upd_same] at hq; cases hq
  have hq0 : H q = none := by
    rw [upd_ne nq] at hq
    cases hh : H q with
    | none => rfl
    | some o =>
      have := eb _ _ hh
      rw [hq] at this
      cases this
  have e3 : Ex H (upd (upd H1 b (.dK kvs)) q (.dK [])) := Evl.Ex.mut (Evl.Ex.mut eb hb) hq0
  refine hk _ e3 _ fun H4 e4 => hx _ (e3.trans e4) _ fun H5 e5 => ⟨Sum.inl i, z, rfl, ?_, ?_, Ne.symm nq, ?_⟩
  · refine (e4.trans e5) _ _ ?_
    rw [upd_ne (Ne.symm nq)]
    exact upd_same
  · exact (e4.trans e5) _ _ upd_same
  · have eF : Ex H (upd (upd H5 q (.dK [(Sum.inl i, z)])) b (.dK (mergeK kvs [(Sum.inl i, z)]))) := Evl.Ex.mut (Evl.Ex.mut ((e3.trans e4).trans e5) hq0) hb
    refine k b _ hb eF ⟨putK kvs (Sum.inl i) z, upd_same, ?_, vput_nd hnd⟩
    exact dv_put (paired_imp hp fun x y q => ⟨q.1, q.2.up eF⟩) (hz.up eF)
end
section
variable {P : Program} {w : World} {K : PySem.W.Frag} {mg : Str → Option Value} {base : Heap} {c : KC}
def spPv (K : PySem.W.Frag) (c : KC) (i : KI) : Sp := fun vs H Q _ => ∃ x k v d a b y n p, vs = [.ref x, v, .ref a, .ref b] ∧ Kin c H k x ∧ kiOf k = i ∧ okC k ∧ placesK k = ((p : Nat) : Int) ∧ Dq K H v d ∧ (∃ m, fits m d) ∧ VV2 K H a b y n p ∧ ∀ H', Ex H H' → Q (.bl (plainK 0 k d y n)) H'
/-- proves of the kinds that compare entries -/
def PvM (P : Program) (w : World) (K : PySem.W.Frag) (mg : Str → Option Value) (base : Heap) (c : KC) : Prop := ∀ i, i = .bo ∨ i = .ri ∨ i = .tu → Met P w K mg base 5 (c i) "proves" (spPv K c i) []
def tPrv (K : PySem.W.Frag) (c : KC) (ta : TE) (t : TA) : TE := tAny (fun i : KI => i = .bo ∨ i = .ri ∨ i = .tu) fun i => tMeth (c i) "proves" (spPv K c i) [] E0 ta t
theorem pe_prv {X : Cx} {j : Nat} {o e : Expr} {es : List Expr} {ta : TE} {t : TA} {pos apos : Pos} {pl : Sem Bool} (M : PvM X.prog X.w X.K X.mg X.base c) (hr : Room j X.A) (hj : 5 ≤ j) (he : PE X o ta) (ha : PA X (e :: es) t)
    (hst : starEach (e :: es) X.env = (false, eval e X.env) :: starEach es X.env := by rfl) (hpl : (backTo pos (starEach es X.env)).any (·.1) = false := by rfl)
    (ht : eval (.Call (.Attribute o "proves" apos) (e :: es) [] pos) X.env = (do
      let ov ← eval o X.env
      standAt apos.atName
      let (f, first) ← holding [ov] (getMethod ov "proves" pl)
      callWith pos f first (backTo pos (starEach (e :: es) X.env)) (backToKw pos (keywordEach [] X.env))) := by rfl) :
    PE X (.Call (.Attribute o "proves" apos) (e :: es) [] pos) (tPrv X.K c ta t) := pe_any fun i hi => pe_mt (M i hi) hr (by omega) he ha hst hpl ht
theorem ok_Rising_proves {f : Addr} {fd : FuncData} (F : Fun K "proves" "Rising.proves" s_Rising_proves f fd) (D_is_above : DefAt P w K mg base "is_above" 4 ["thing", "yeses", "noes"] (spAb K)) : FnOk P w K mg base CX0 5 f fd ["self", "thing", "yeses", "noes"] (spPv K c .ri) := by
  refine F.ok sc_Rising_proves (fun vs H Q E h => ?_) (fun cdv A outer s H vs Q E hr h => ?_)
  · obtain ⟨_, _, _, _, _, _, _, _, _, rfl, _⟩ := h
    rfl
  · obtain ⟨x, k, v, d, a, b, y, n, p, rfl, hk, hi, _, hp, hd, hw, hv, kk⟩ := h
    refine ⟨_, (pss_one (ps_ret (pe_callD D_is_above (by first | exact hr | exact hr.mono (by decide) | exact hr.mono (by omega)) (by rfl) (pa_cons (pv 1) (pa_cons (pv 2) (pa_cons (pv 3) pa_nil)))))), ?_⟩
    cases k <;> cases hi
    exact Evl.s_ret (ev_callD (Evl.ea_cons (Evl.ev_var (v := v) rfl) (Evl.ea_cons (Evl.ev_var (v := .ref a) rfl) (Evl.ea_cons (Evl.ev_var (v := .ref b) rfl) Evl.ea_nil))) fun H1 e1 Q q => ⟨v, d, a, b, y, n, p, rfl, hd.up e1, hw, hv.up e1, q⟩) kk
theorem ok_Boxes_proves {f : Addr} {fd : FuncData} (F : Fun K "proves" "Boxes.proves" s_Boxes_proves f fd) (S : KCl K c) (D_is_between : DefAt P w K mg base "is_between" 4 ["thing", "places", "yeses", "noes"] (spBw K)) : FnOk P w K mg base CX0 5 f fd ["self", "thing", "yeses", "noes"] (spPv K c .bo) := by
  refine F.ok sc_Boxes_proves (fun vs H Q E h => ?_) (fun cdv A outer s H vs Q E hr h => ?_)
  · obtain ⟨_, _, _, _, _, _, _, _, _, rfl, _⟩ := h
    rfl
  · obtain ⟨x, k, v, d, a, b, y, n, p, rfl, hk, hi, _, hp, hd, hw, hv, kk⟩ := h
    refine ⟨_, (pss_one (ps_ret (pe_callD D_is_between (by first | exact hr | exact hr.mono (by decide) | exact hr.mono (by omega)) (by rfl) (pa_cons (pv 1) (pa_cons (pe_fld (pv 0) rfl) (pa_cons (pv 2) (pa_cons (pv 3) pa_nil))))))), ?_⟩
    cases k with
    | boxes q =>
      obtain ⟨dx, hx⟩ := hk
      have hq : q = (p : Int) := hp
      subst hq
      exact Evl.s_ret (ev_callD (Evl.ea_cons (Evl.ev_var (v := v) rfl) (Evl.ea_cons (ev_fld (Evl.ev_var (v := .ref x) rfl) hx (S.cl _) (S.na _ _ (by decide)) (v := .int (p : Int)) rfl) (Evl.ea_cons (Evl.ev_var (v := .ref a) rfl) (Evl.ea_cons (Evl.ev_var (v := .ref b) rfl) Evl.ea_nil)))) fun H1 e1 Q q => ⟨v, d, a, b, y, n, p, rfl, hd.up e1, hw, hv.up e1, q⟩) kk
    | _ => cases hi
theorem ok_Turns_proves {f : Addr} {fd : FuncData} (F : Fun K "proves" "Turns.proves" s_Turns_proves f fd) (S : KCl K c) (D_is_turning : DefAt P w K mg base "is_turning" 4 ["thing", "most", "yeses", "noes"] (spTg K)) : FnOk P w K mg base CX0 5 f fd ["self", "thing", "yeses", "noes"] (spPv K c .tu) := by
  refine F.ok sc_Turns_proves (fun vs H Q E h => ?_) (fun cdv A outer s H vs Q E hr h => ?_)
  · obtain ⟨_, _, _, _, _, _, _, _, _, rfl, _⟩ := h
    rfl
  · obtain ⟨x, k, v, d, a, b, y, n, p, rfl, hk, hi, _, hp, hd, hw, hv, kk⟩ := h
    refine ⟨_, (pss_one (ps_ret (pe_callD D_is_turning (by first | exact hr | exact hr.mono (by decide) | exact hr.mono (by omega)) (by rfl) (pa_cons (pv 1) (pa_cons (pe_fld (pv 0) rfl) (pa_cons (pv 2) (pa_cons (pv 3) pa_nil))))))), ?_⟩
    cases k with
    | turns m =>
      obtain ⟨dx, hx⟩ := hk
      exact Evl.s_ret (ev_callD (Evl.ea_cons (Evl.ev_var (v := v) rfl) (Evl.ea_cons (ev_fld (Evl.ev_var (v := .ref x) rfl) hx (S.cl _) (S.na _ _ (by decide)) (v := .int m) rfl) (Evl.ea_cons (Evl.ev_var (v := .ref a) rfl) (Evl.ea_cons (Evl.ev_var (v := .ref b) rfl) Evl.ea_nil)))) fun H1 e1 Q q => ⟨v, d, a, b, y, n, p, m, rfl, hd.up e1, hw, hv.up e1, q⟩) kk
    | _ => cases hi
end
end U
set_option Elab.async false
set_option linter.all false
set_option maxRecDepth 100000
set_option maxHeartbeats 4000000
/-! plain certificates of kinds put together, and trees -/
namespace U
open PySem PySem.Spec PyProof.Rows L2
open Evl (Ex)
open C8 (Met Mak pe_mt pe_mt0 pe_mk)
section
variable {P : Program} {w : World} {K : PySem.W.Frag} {mg : Str → Option Value} {base : Heap} {c : KC}
def spPn (K : PySem.W.Frag) (c : KC) (N n : Nat) : Sp := fun vs H Q _ => ∃ x k v d a b y m p, vs = [.ref x, v, .ref a, .ref b] ∧ Kin c H k x ∧ okC k ∧ depK k ≤ n ∧ okK ((p : Nat) : Int) k ∧ Dq K H v d ∧ fits N d ∧ VV2 K H a b y m p ∧ y.length ≤ 900 ∧ m.length ≤ 900 ∧ ∀ H', Ex H H' → Q (.bl (plainK N k d y m)) H'
def spPnP (K : PySem.W.Frag) (c : KC) (N : Nat) : Nat → Sp
  | 0 => fun _ _ _ _ => False
  | n + 1 => spPn K c N n
def spLf (K : PySem.W.Frag) (c : KC) (N n : Nat) : Sp := fun vs H Q E => ∃ x v a b, vs = [.str "both", .ref x, v, .ref a, .ref b] ∧ spPnP K c N n [.ref x, v, .ref a, .ref b] H Q E
def spTr (K : PySem.W.Frag) (c : KC) (N n t : Nat) : Sp := fun vs H Q _ => ∃ x ka kb v d a1 a2 a3 a4 kept left ones others p, vs = [.ref x, v, .ref a1, .ref a2, .ref a3, .ref a4] ∧ Kin c H (.both ka kb) x ∧ okC ka ∧ okC kb ∧ depK (.both ka kb) ≤ n ∧ okK ((p : Nat) : Int) (.both ka kb) ∧ Dq K H v d ∧ fits t d ∧ t ≤ N ∧
  DV K H a1 kept ∧ DV K H a2 left ∧ DV K H a3 ones ∧ DV K H a4 others ∧ Vp p kept ∧ Vp p left ∧ Vp p ones ∧ Vp p others ∧ p ≤ 3 ∧ kept.length ≤ 900 ∧ left.length ≤ 900 ∧ ones.length + t ≤ 900 ∧ others.length + t ≤ 900 ∧ ∀ H', Ex H H' → Q (.bl (treeK (plainK N ka) (plainK N kb) t d kept left ones others)) H'
def spTrP (K : PySem.W.Frag) (c : KC) (N n : Nat) : Nat → Sp
  | 0 => fun _ _ _ _ => False
  | t + 1 => spTr K c N n t
theorem fits0 {z : Str} {p : Int} {d : PyData} (h : fits 0 d) : isF z p d = false := by
  cases d <;> first | exact h.elim | rfl
theorem fits_el {t i : Nat} {d : PyData} (h : fits (t + 1) d) (hr : isR d = true) (hi : i < (entries d).length) : fits t (el d i) := by
  have hm : el d i ∈ entries d := by
    show (entries d).getD i .none ∈ entries d
    rw [List.getD_eq_getElem?_getD, List.getElem?_eq_getElem hi]
    exact List.getElem_mem hi
  cases d with
  | list ds => exact h.2 _ hm
  | tuple ds => exact h.2 _ hm
  | _ => cases hr
theorem ok_is_leaf {f : Addr} {fd : FuncData} (F : Fun K "_is_leaf" "_is_leaf" s_is_leaf f fd) (N n l : Nat) (D_is_plain : DefAt P w K mg base "_is_plain" l ["kind", "thing", "yeses", "noes"] (spPnP K c N n)) : FnOk P w K mg base CX0 (l + 1) f fd ["word", "kind", "thing", "kept", "placed"] (spLf K c N n) := by
  refine F.ok sc_is_leaf (fun vs H Q E h => ?_) (fun cdv A outer s H vs Q E hr h => ?_)
  · obtain ⟨_, _, _, _, rfl, _⟩ := h
    rfl
  · obtain ⟨x, v, a, b, rfl, h⟩ := h
    refine ⟨_, (pss_cons (ps_if (pt_cmpR op_eq (pv 0) pe_str (nomark _)) (pss_one (ps_ret (pe_callD D_is_plain (by first | exact hr | exact hr.mono (by decide) | exact hr.mono (by omega)) (by rfl) (pa_cons (pv 1) (pa_cons (pv 2) (pa_cons (pv 3) (pa_cons (pv 4) pa_nil))))))) pss_nil)
    (pss_one (ps_ret (pe_callD D_is_plain (by first | exact hr | exact hr.mono (by decide) | exact hr.mono (by omega)) (by rfl) (pa_cons (pv 1) (pa_cons (pv 2) (pa_cons (pv 4) (pa_cons (pv 3) pa_nil)))))))), ?_⟩
    refine Evl.q_when (b := true) (Evl.et_is (Evl.et_test (Evl.ev_op (x := .str "both") (Evl.ev_var rfl) Evl.ev_c (Evl.rv_eq rfl))) (by decide)) (fun _ H1 e1 => ?_) (fun z => nomatch z)
    cases n with
    | zero => exact h.elim
    | succ n =>
      obtain ⟨x', k, v', d, a', b', y, m, p, e, hk, h1, h2, h3, hd, hf, hv, l1, l2, kk⟩ := h
      cases e
      exact Evl.s_ret (v := .bl (plainK N k d y m)) (ev_callD (Evl.ea_cons (Evl.ev_var (v := .ref x) rfl) (Evl.ea_cons (Evl.ev_var (v := v) rfl) (Evl.ea_cons (Evl.ev_var (v := .ref a) rfl) (Evl.ea_cons (Evl.ev_var (v := .ref b) rfl) Evl.ea_nil)))) fun H2 e2 Q q => ⟨x, k, v, d, a, b, y, m, p, rfl, hk.up (e1.trans e2), h1, h2, h3, hd.up (e1.trans e2), hf, hv.up (e1.trans e2), l1, l2, q⟩) fun H2 e2 => kk H2 (e1.trans e2)
theorem tree_body {f : Addr} {fd : FuncData} (F : Fun K "_is_tree" "_is_tree" s_is_tree f fd) (S : KCl K c) (N n l t : Nat) (hl3 : 3 ≤ l) (D_is_form : DefAt P w K mg base "is_form" 3 ["thing", "word", "many"] (spF K)) (D_is_number_of : DefAt P w K mg base "is_number_of" 2 ["thing", "table"] (spNum K)) (D_without : DefAt P w K mg base "_without" 1 ["points", "number"] (spWo K))
    (D_is_leaf : DefAt P w K mg base "_is_leaf" l ["word", "kind", "thing", "kept", "placed"] (spLf K c N n)) (D_is_tree : DefAt P w K mg base "_is_tree" (l + t) ["kind", "thing", "kept", "left", "ones", "others"] (spTrP K c N n t)) : FnOk P w K mg base CX0 (l + t + 1) f fd ["kind", "thing", "kept", "left", "ones", "others"] (spTr K c N n t) := by
  refine F.ok sc_is_tree (fun vs H Q E h => ?_) (fun cdv A outer s H vs Q E hr h => ?_)
  · obtain ⟨_, _, _, _, _, _, _, _, _, _, _, _, _, _, rfl, _⟩ := h
    rfl
  · obtain ⟨x, ka, kb, v, d, a1, a2, a3, a4, kept, left, ones, others, p, rfl, hk, oa, ob, hdep, hok, hd, hf, htN, hv1, hv2, hv3, hv4, hp1, hp2, hp3, hp4, h3, l1, l2, l3, l4, kk⟩ := h
    refine ⟨_, (pss_cons (ps_if (pt_val (pe_callD D_is_form (by first | exact hr | exact hr.mono (by decide) | exact hr.mono (by omega)) (by rfl) (pa_cons (pv 1) (pa_cons pe_str (pa_cons pe_int pa_nil))))) (pss_one (ps_ret (pe_callD D_is_leaf (by first | exact hr | exact hr.mono (by decide) | exact hr.mono (by omega)) (by rfl) (pa_cons (pe_fld (pv 0) rfl) (pa_cons (pe_fld (pv 0) rfl) (pa_cons (pe_ix ix_seq (pv 1) pe_int (fun _ _ => rfl)) (pa_cons (pv 2) (pa_cons (pv 4) pa_nil)))))))) pss_nil)
    (pss_cons (ps_if (pt_val (pe_callD D_is_form (by first | exact hr | exact hr.mono (by decide) | exact hr.mono (by omega)) (by rfl) (pa_cons (pv 1) (pa_cons pe_str (pa_cons pe_int pa_nil))))) (pss_one (ps_ret (pe_callD D_is_leaf (by first | exact hr | exact hr.mono (by decide) | exact hr.mono (by omega)) (by rfl) (pa_cons (pe_fld (pv 0) rfl) (pa_cons (pe_fld (pv 0) rfl) (pa_cons (pe_ix ix_seq (pv 1) pe_int (fun _ _ => rfl)) (pa_cons (pv 2) (pa_cons (pv 5) pa_nil)))))))) pss_nil)
    (pss_cons (ps_if (PW.pt (pw_or (pt_not (pt_val (pe_callD D_is_form (by first | exact hr | exact hr.mono (by decide) | exact hr.mono (by omega)) (by rfl) (pa_cons (pv 1) (pa_cons pe_str (pa_cons pe_int pa_nil)))))) (pw_or1 (pt_not (pt_val (pe_callD D_is_number_of (by first | exact hr | exact hr.mono (by decide) | exact hr.mono (by omega)) (by rfl) (pa_cons (pe_ix ix_seq (pv 1) pe_int (fun _ _ => rfl)) (pa_cons (pv 3) pa_nil)))))))) (pss_one (ps_ret pe_bl)) pss_nil)
    (pss_cons (ps_set (i := 6) sc_is_tree.nd rfl (by first | exact Or.inl rfl | exact Or.inr rfl) (pe_ix ix_seq (pv 1) pe_int (fun _ _ => rfl)))
    (pss_cons (ps_set (i := 7) sc_is_tree.nd rfl (by first | exact Or.inl rfl | exact Or.inr rfl) (pe_callD D_without (by first | exact hr | exact hr.mono (by decide) | exact hr.mono (by omega)) (by rfl) (pa_cons (pv 3) (pa_cons (pv 6) pa_nil))))
    (pss_one (ps_ret (pe_and (pe_callD D_is_tree (by first | exact hr | exact hr.mono (by decide) | exact hr.mono (by omega)) (by rfl) (pa_cons (pv 0) (pa_cons (pe_ix ix_seq (pv 1) pe_int (fun _ _ => rfl)) (pa_cons (pv 2) (pa_cons (pv 7) (pa_cons (pe_dstar (pv 4) (pv 6) (pe_dget (Nat.lt_of_le_of_lt (Nat.add_le_add_left (by decide : 1 ≤ 64) _) hr.units) (pv 3) (pv 6) (fun _ _ => rfl))) (pa_cons (pv 5) pa_nil))))))) (pe_one (pe_callD D_is_tree (by first | exact hr | exact hr.mono (by decide) | exact hr.mono (by omega)) (by rfl) (pa_cons (pv 0) (pa_cons (pe_ix ix_seq (pv 1) pe_int (fun _ _ => rfl)) (pa_cons (pv 2) (pa_cons (pv 7) (pa_cons (pv 4) (pa_cons (pe_dstar (pv 5) (pv 6) (pe_dget (Nat.lt_of_le_of_lt (Nat.add_le_add_left (by decide : 1 ≤ 64) _) hr.units) (pv 3) (pv 6) (fun _ _ => rfl))) pa_nil)))))))))))))))), ?_⟩
    have hw : ∃ n, fits n d := ⟨t, hf⟩
    have v1 : ∀ H1, Evl.Ev (tVar 1) (start sc_is_tree_N [.ref x, v, .ref a1, .ref a2, .ref a3, .ref a4]) H1 v := fun H1 => Evl.ev_var rfl
    obtain ⟨n', rfl, hda, hdb⟩ : ∃ n', n = n' + 1 ∧ depK ka ≤ n' ∧ depK kb ≤ n' := by
      simp only [depK] at hdep
      exact ⟨n - 1, by omega, by omega, by omega⟩
    obtain ⟨dx, yo, zo, hx, ho, hz⟩ := id hk
    have fl : ∀ {H1 : Hp} {fn : Str} {u : V}, Ex H H1 → fn ∈ (["places", "most", "kind", "word", "one", "other"] : List Str) → ([("places", V.int (placesK ka)), ("word", V.str "both"), ("one", V.ref yo), ("other", V.ref zo)] : List (Str × V)).lookup fn = some u → Evl.Ev (tFld K (tVar 0) fn) (start sc_is_tree_N [.ref x, v, .ref a1, .ref a2, .ref a3, .ref a4]) H1 u := fun e hm hl => ev_fld (Evl.ev_var (v := .ref x) rfl) (e _ _ hx) (S.cl _) (S.na _ _ hm) hl
    refine Evl.q_when (b := isF "one" 2 d) (Evl.et_B (ev_spF (v1 H) (by decide) hd hw)) (fun z H1 e1 => ?_) (fun z H1 e1 => ?_)
    · -- one
      cases t with
      | zero => rw [fits0 hf] at z; cases z
      | succ t =>
        obtain ⟨r, hlen⟩ := isF_R z
        obtain ⟨u, eu, du, _⟩ := ev_at (n := 1) (v1 H1) (hd.up e1) r hw (by omega)
        refine Evl.s_ret (v := .bl (plainK N ka (el d 1) kept ones)) (ev_callD (Evl.ea_cons (fl e1 (by decide) rfl) (Evl.ea_cons (fl e1 (by decide) rfl) (Evl.ea_cons eu (Evl.ea_cons (Evl.ev_var (v := .ref a1) rfl) (Evl.ea_cons (Evl.ev_var (v := .ref a3) rfl) Evl.ea_nil))))) fun H2 e2 Q q => ⟨yo, u, a1, a3, rfl, yo, ka, u, el d 1, a1, a3, kept, ones, p, rfl, ho.up (e1.trans e2), oa, hda, hok.1, du.up e2, fits_up (by omega) (fits_el hf r (by omega)), ⟨hv1.up (e1.trans e2), hv3.up (e1.trans e2), hp1, hp3, h3⟩, l1, by omega, q⟩) fun H2 e2 => ?_
        have := kk H2 (e1.trans e2)
        unfold treeK at this
        rw [if_pos z] at this
        exact this
    refine Evl.q_when (b := isF "other" 2 d) (Evl.et_B (ev_spF (v1 H1) (by decide) (hd.up e1) hw)) (fun z2 H2 e2 => ?_) (fun z2 H2 e2 => ?_)
    · -- other
      have eA := e1.trans e2
      cases t with
      | zero => rw [fits0 hf] at z2; cases z2
      | succ t =>
        obtain ⟨r, hlen⟩ := isF_R z2
        obtain ⟨u, eu, du, _⟩ := ev_at (n := 1) (v1 H2) (hd.up eA) r hw (by omega)
        refine Evl.s_ret (v := .bl (plainK N kb (el d 1) kept others)) (ev_callD (Evl.ea_cons (fl eA (by decide) rfl) (Evl.ea_cons (fl eA (by decide) rfl) (Evl.ea_cons eu (Evl.ea_cons (Evl.ev_var (v := .ref a1) rfl) (Evl.ea_cons (Evl.ev_var (v := .ref a4) rfl) Evl.ea_nil))))) fun H3 e3 Q q => ⟨zo, u, a1, a4, rfl, zo, kb, u, el d 1, a1, a4, kept, others, p, rfl, hz.up (eA.trans e3), ob, hdb, hok.2, du.up e3, fits_up (by omega) (fits_el hf r (by omega)), ⟨hv1.up (eA.trans e3), hv4.up (eA.trans e3), hp1, hp4, h3⟩, l1, by omega, q⟩) fun H3 e3 => ?_
        have := kk H3 (eA.trans e3)
        unfold treeK at this
        rw [if_neg (by rw [z]; exact Bool.false_ne_true), if_pos z2] at this
        exact this
    have eA := e1.trans e2
    refine Evl.q_when (b := !(isF "split" 4 d && isNum left (el d 1))) (Evl.et_is (Evl.et_or (a := !isF "split" 4 d) (b := !isNum left (el d 1)) (Evl.et_not (Evl.et_B (ev_spF (v1 H2) (by decide) (hd.up eA) hw))) fun z => Evl.et_not (Evl.et_B ?_)) (by simp)) (fun z3 H3 e3 => ?_) (fun z3 H3 e3 => ?_)
    · obtain ⟨r, hlen⟩ := isF_R (notF z)
      obtain ⟨u, eu, du, _⟩ := ev_at (n := 1) (v1 H2) (hd.up eA) r hw (by omega)
      exact ev_num eu du (Evl.ev_var (v := .ref a2) rfl) (hv2.up eA)
    · have z3' := notT z3
      refine Evl.s_ret (v := .bl false) Evl.ev_c fun H4 e4 => ?_
      have := kk H4 ((eA.trans e3).trans e4)
      cases t with
      | zero => exact this
      | succ t =>
        unfold treeK at this
        rw [if_neg (by rw [z]; exact Bool.false_ne_true), if_neg (by rw [z2]; exact Bool.false_ne_true), z3'] at this
        exact this
    · have z3' := notF z3
      obtain ⟨zf, zn⟩ := Bool.and_eq_true_iff.mp z3'
      cases t with
      | zero => rw [fits0 hf] at zf; cases zf
      | succ t =>
        obtain ⟨r, hlen⟩ := isF_R zf
        have eB := eA.trans e3
        obtain ⟨i, pi, ei, gi, oi⟩ := isNum_inv zn
        obtain ⟨u, eu, du, _⟩ := ev_at (n := 1) (v1 H3) (hd.up eB) r hw (by omega)
        rw [ei] at du
        cases du
        refine Evl.q_asg (v := .int i) eu fun H4 e4 => ?_
        have eC := eB.trans e4
        refine ⟨.ref a2, rfl, .int i, rfl, a2, i, left, rfl, hv2.up eC, by omega, fun b H5 hb e5 hvb => ?_⟩
        dsimp only [gName, List.set]
        have eD := eC.trans e5
        have lpi := hp2.get gi
        have l5 : (vdrop left i).length ≤ left.length := List.length_filter_le _ _
        obtain ⟨pt, dpt, ept⟩ := dv_get (hv2.up eD) gi
        have elr : ∀ {H6 : Hp} {σ : L2.St} (j : Nat), j < 4 → Ex H5 H6 → σ[1]? = some (some v) → ∃ y, Evl.Ev (tOp (rIxA K) (tVar 1) (tC (.int (j : Int)))) σ H6 y ∧ Dq K H6 y (el d j) := fun {H6 σ} j hj e6 h => by
          obtain ⟨y, ey, dy, _⟩ := ev_at (n := j) (σ := σ) (Evl.ev_var (i := 1) h) (hd.up (eD.trans e6)) r hw (by omega)
          exact ⟨y, ey, dy⟩
        refine Evl.s_ret (v := .bl (treeK (plainK N ka) (plainK N kb) t (el d 2) kept (vdrop left i) (vput ones i pi) others && treeK (plainK N ka) (plainK N kb) t (el d 3) kept (vdrop left i) ones (vput others i pi))) (Evl.ev_andV (fun H6 e6 Q q => ?_) (fun _ H6 e6 Q q => ?_)) fun H6 e6 => ?_
        · obtain ⟨y, ey, dy⟩ := elr (H6 := H6) (σ := [some (.ref x), some v, some (.ref a1), some (.ref a2), some (.ref a3), some (.ref a4), some (.int i), some (.ref b)]) 2 (by decide) e6 rfl
          refine ⟨_, rfl, ey H6 (Ex.refl _) _ fun H7 e7 => ⟨_, rfl, _, rfl, ?_⟩⟩
          have e57 := e6.trans e7
          refine star_run (a := a3) (m := ones) (i := i) (p := pi) (z := pt) (hv3.up (eD.trans e57)) (by omega) (Evl.ev_var rfl) (Evl.ev_var rfl) (ept _ _ _ _ e57 (Evl.ev_var rfl) (Evl.ev_var rfl)) (dpt.up e57) fun b3 H8 hb3 e8 hvb3 => ?_
          have e58 := e57.trans e8
          refine ⟨_, rfl, x, ka, kb, y, el d 2, a1, b, b3, a4, kept, vdrop left i, vput ones i pi, others, p, rfl, hk.up (eD.trans e58), oa, ob, hdep, hok, dy.up (e7.trans e8), fits_el hf r (by omega), by omega, hv1.up (eD.trans e58), hvb.up e58, hvb3, hv4.up (eD.trans e58), hp1, vdrop_vp hp2, vput_vp hp3 lpi, hp4, h3, l1, by omega, ?_, by omega, fun H9 e9 => q H9 ((e7.trans e8).trans e9)⟩
          have := vput_len (m := ones) (i := i) (p := pi)
          omega
        · obtain ⟨y, ey, dy⟩ := elr (H6 := H6) (σ := [some (.ref x), some v, some (.ref a1), some (.ref a2), some (.ref a3), some (.ref a4), some (.int i), some (.ref b)]) 3 (by decide) e6 rfl
          refine ⟨_, rfl, ey H6 (Ex.refl _) _ fun H7 e7 => ⟨_, rfl, _, rfl, _, rfl, ?_⟩⟩
          have e57 := e6.trans e7
          refine star_run (a := a4) (m := others) (i := i) (p := pi) (z := pt) (hv4.up (eD.trans e57)) (by omega) (Evl.ev_var rfl) (Evl.ev_var rfl) (ept _ _ _ _ e57 (Evl.ev_var rfl) (Evl.ev_var rfl)) (dpt.up e57) fun b3 H8 hb3 e8 hvb3 => ?_
          have e58 := e57.trans e8
          refine ⟨x, ka, kb, y, el d 3, a1, b, a3, b3, kept, vdrop left i, ones, vput others i pi, p, rfl, hk.up (eD.trans e58), oa, ob, hdep, hok, dy.up (e7.trans e8), fits_el hf r (by omega), by omega, hv1.up (eD.trans e58), hvb.up e58, hv3.up (eD.trans e58), hvb3, hp1, vdrop_vp hp2, hp3, vput_vp hp4 lpi, h3, l1, by omega, by omega, ?_, fun H9 e9 => q H9 ((e7.trans e8).trans e9)⟩
          have := vput_len (m := others) (i := i) (p := pi)
          omega
        · have := kk H6 (eD.trans e6)
          unfold treeK at this
          rw [if_neg (by rw [z]; exact Bool.false_ne_true), if_neg (by rw [z2]; exact Bool.false_ne_true), z3', oi, ei] at this
          exact this
theorem kin_prv {H : Hp} {k : Kd} {x : Addr} (h : Kin c H k x) (hi : kiOf k = .bo ∨ kiOf k = .ri ∨ kiOf k = .tu) : ∃ dx fs, H x = some (.ins (c (kiOf k)) dx fs) ∧ fs.lookup ("proves" : Str) = none := by
  cases k with
  | boxes p => obtain ⟨dx, h⟩ := h; exact ⟨dx, _, h, rfl⟩
  | rising p => obtain ⟨dx, h⟩ := h; exact ⟨dx, _, h, rfl⟩
  | turns p => obtain ⟨dx, h⟩ := h; exact ⟨dx, _, h, rfl⟩
  | _ => rcases hi with h | h | h <;> cases h
theorem isi_k {σ : L2.St} {H : Hp} {te : TE} {x : Addr} {k : Kd} (NE : KEq K mg c) (i : KI) (h : Evl.Ev te σ H (.ref x)) (hk : Kin c H k x) : Evl.Ev (tCB (rIsi K) (tCons te (tCons (tC (.ref (c i))) tNil))) σ H (.bl (decide (kiOf k = i))) := ev_ofI (o := some k) NE h ⟨x, rfl, hk⟩
theorem plain_body {f : Addr} {fd : FuncData} (F : Fun K "_is_plain" "_is_plain" s_is_plain f fd) (T : TxF mg) (S : KCl K c) (NE : KEq K mg c) (N n l : Nat) (hl : 5 ≤ l) (M_proves : PvM P w K mg base c) (D_is_form : DefAt P w K mg base "is_form" 3 ["thing", "word", "many"] (spF K)) (D_is_plain : DefAt P w K mg base "_is_plain" l ["kind", "thing", "yeses", "noes"] (spPnP K c N n))
    (D_is_tree : DefAt P w K mg base "_is_tree" l ["kind", "thing", "kept", "left", "ones", "others"] (spTr K c N n N)) (hN : N ≤ 800) : FnOk P w K mg base CX0 (l + 1) f fd ["kind", "thing", "yeses", "noes"] (spPn K c N n) := by
  refine F.ok sc_is_plain (fun vs H Q E h => ?_) (fun cdv A outer s H vs Q E hr h => ?_)
  · obtain ⟨_, _, _, _, _, _, _, _, _, rfl, _⟩ := h
    rfl
  · obtain ⟨x, k, v, d, a, b, y, m, p, rfl, hk, hoc, hdep, hok, hd, hf, hv, l1, l2, kk⟩ := h
    refine ⟨_, (pss_cons (ps_if (pt_val (pe_callB call_isi (by rfl) T.m_isinstance (by decide +kernel) (pa_cons (pv 0) (pa_cons (pe_glob (v := .ref (c .co)) (by rfl) NE.g_co rfl) pa_nil)))) (pss_one (ps_ret (pe_and (pe_callD D_is_form (by first | exact hr | exact hr.mono (by decide) | exact hr.mono (by omega)) (by rfl) (pa_cons (pv 1) (pa_cons pe_str (pa_cons pe_int pa_nil)))) (pe_one (pe_callD D_is_plain (by first | exact hr | exact hr.mono (by decide) | exact hr.mono (by omega)) (by rfl) (pa_cons (pe_fld (pv 0) rfl) (pa_cons (pe_ix ix_seq (pv 1) pe_int (fun _ _ => rfl)) (pa_cons (pv 3) (pa_cons (pv 2) pa_nil))))))))) pss_nil)
    (pss_cons (ps_if (pt_not (pt_val (pe_callB call_isi (by rfl) T.m_isinstance (by decide +kernel) (pa_cons (pv 0) (pa_cons (pe_glob (v := .ref (c .pa)) (by rfl) NE.g_pa rfl) pa_nil))))) (pss_one (ps_ret (pe_prv M_proves hr (by omega) (pv 0) (pa_cons (pv 1) (pa_cons (pv 2) (pa_cons (pv 3) pa_nil)))))) pss_nil)
    (pss_cons (ps_if (pt_cmpR op_eq (pe_fld (pv 0) rfl) pe_str (nomark _)) (pss_one (ps_ret (pe_and (pe_callD D_is_form (by first | exact hr | exact hr.mono (by decide) | exact hr.mono (by omega)) (by rfl) (pa_cons (pv 1) (pa_cons pe_str (pa_cons pe_int pa_nil)))) (pe_and (pe_callD D_is_plain (by first | exact hr | exact hr.mono (by decide) | exact hr.mono (by omega)) (by rfl) (pa_cons (pe_fld (pv 0) rfl) (pa_cons (pe_ix ix_seq (pv 1) pe_int (fun _ _ => rfl)) (pa_cons (pv 2) (pa_cons (pv 3) pa_nil))))) (pe_one (pe_callD D_is_plain (by first | exact hr | exact hr.mono (by decide) | exact hr.mono (by omega)) (by rfl) (pa_cons (pe_fld (pv 0) rfl) (pa_cons (pe_ix ix_seq (pv 1) pe_int (fun _ _ => rfl)) (pa_cons (pv 2) (pa_cons (pv 3) pa_nil)))))))))) pss_nil)
    (pss_cons (ps_if (pt_cmpR op_eq (pe_fld (pv 0) rfl) pe_str (nomark _)) (pss_one (ps_ret (pe_callD D_is_tree (by first | exact hr | exact hr.mono (by decide) | exact hr.mono (by omega)) (by rfl) (pa_cons (pv 0) (pa_cons (pv 1) (pa_cons (pv 2) (pa_cons (pv 3) (pa_cons (pe_dnewK) (pa_cons (pe_dnewK) pa_nil))))))))) pss_nil)
    (pss_one (ps_ret (pe_callD D_is_tree (by first | exact hr | exact hr.mono (by decide) | exact hr.mono (by omega)) (by rfl) (pa_cons (pv 0) (pa_cons (pv 1) (pa_cons (pv 3) (pa_cons (pv 2) (pa_cons (pe_dnewK) (pa_cons (pe_dnewK) pa_nil))))))))))))), ?_⟩
    have hw : ∃ n, fits n d := ⟨N, hf⟩
    have v0 : ∀ H1, Evl.Ev (tVar 0) (start sc_is_plain_N [.ref x, v, .ref a, .ref b]) H1 (.ref x) := fun H1 => Evl.ev_var rfl
    have v1 : ∀ H1, Evl.Ev (tVar 1) (start sc_is_plain_N [.ref x, v, .ref a, .ref b]) H1 v := fun H1 => Evl.ev_var rfl
    have elp : ∀ (j : Nat) (H1 : Hp), isR d = true → j < (entries d).length → Ex H H1 → ∃ u, Evl.Ev (tOp (rIxA K) (tVar 1) (tC (.int (j : Int)))) (start sc_is_plain_N [.ref x, v, .ref a, .ref b]) H1 u ∧ Dq K H1 u (el d j) ∧ fits N (el d j) := fun j H1 r hj e => by
      obtain ⟨u, eu, du, _⟩ := ev_at (n := j) (v1 H1) (hd.up e) r hw hj
      refine ⟨u, eu, du, ?_⟩
      cases N with
      | zero => cases d <;> first | exact hf.elim | exact (Bool.false_ne_true r).elim
      | succ N => exact fits_up (by omega) (fits_el hf r hj)
    by_cases hi : kiOf k = .bo ∨ kiOf k = .ri ∨ kiOf k = .tu
    · have he : plainK N k d y m = plainK 0 k d y m := by
        cases k <;> first | rfl | (rcases hi with h | h | h <;> cases h)
      have n1 : kiOf k ≠ .co := by rcases hi with h | h | h <;> rw [h] <;> decide
      have n2 : kiOf k ≠ .pa := by rcases hi with h | h | h <;> rw [h] <;> decide
      refine Evl.q_when (b := false) (Evl.et_is (Evl.et_B (isi_k NE .co (v0 H) hk)) (decide_eq_false n1)) (fun z => nomatch z) (fun _ H1 e1 => ?_)
      refine Evl.q_when (b := true) (Evl.et_is (Evl.et_not (Evl.et_B (isi_k NE .pa (v0 H1) (hk.up e1)))) (by rw [decide_eq_false n2]; rfl)) (fun _ H2 e2 => ?_) (fun z => nomatch z)
      have eA := e1.trans e2
      refine Evl.s_ret (v := .bl (plainK N k d y m)) (fun H3 e3 Q q => ⟨kiOf k, hi, v0 H3 H3 (Ex.refl _) _ fun H4 e4 => ?_⟩) fun H3 e3 => kk H3 (eA.trans e3)
      have e04 := (eA.trans e3).trans e4
      obtain ⟨dx, fs, hx, hlk⟩ := kin_prv (hk.up e04) hi
      refine ⟨x, dx, fs, rfl, hx, hlk, _, rfl, _, rfl, _, rfl, x, k, v, d, a, b, y, m, p, rfl, hk.up e04, rfl, hoc, okK_places hok, hd.up e04, hw, hv.up e04, fun H5 e5 => ?_⟩
      rw [← he]
      exact q H5 (e4.trans e5)
    cases k with
    | rising q => exact absurd (.inr (.inl rfl)) hi
    | boxes q => exact absurd (.inl rfl) hi
    | turns q => exact absurd (.inr (.inr rfl)) hi
    | halves q => exact hoc.elim
    | flats q => exact hoc.elim
    | either k1 k2 => exact hoc.elim
    | no k1 =>
      obtain ⟨n', rfl, hd1⟩ : ∃ n', n = n' + 1 ∧ depK k1 ≤ n' := by
        simp only [depK] at hdep
        exact ⟨n - 1, by omega, by omega⟩
      obtain ⟨dx, yo, hx, ho⟩ := id hk
      refine Evl.q_when (b := true) (Evl.et_is (Evl.et_B (isi_k NE .co (v0 H) hk)) (decide_eq_true rfl)) (fun _ H1 e1 => ?_) (fun z => nomatch z)
      refine Evl.s_ret (v := .bl (plainK N (.no k1) d y m)) (Evl.ev_andV (a := isF "not" 2 d) (b := plainK N k1 (el d 1) m y) (ev_spF (v1 H1) (by decide) (hd.up e1) hw) fun z => ?_) fun H2 e2 => kk H2 (e1.trans e2)
      obtain ⟨r, hlen⟩ := isF_R z
      obtain ⟨u, eu, du, fu⟩ := elp 1 H1 r (by omega) e1
      exact ev_callD (Evl.ea_cons (ev_fld (v0 H1) (e1 _ _ hx) (S.cl _) (S.na _ _ (by decide)) (v := .ref yo) rfl) (Evl.ea_cons eu (Evl.ea_cons (Evl.ev_var (v := .ref b) rfl) (Evl.ea_cons (Evl.ev_var (v := .ref a) rfl) Evl.ea_nil)))) fun H2 e2 Q q => ⟨yo, k1, u, el d 1, b, a, m, y, p, rfl, ho.up (e1.trans e2), hoc, hd1, hok, du.up e2, fu, ⟨hv.2.1.up (e1.trans e2), hv.1.up (e1.trans e2), hv.2.2.2.1, hv.2.2.1, hv.2.2.2.2⟩, l2, l1, q⟩
    | any k1 k2 =>
      obtain ⟨n', rfl, hd1, hd2⟩ : ∃ n', n = n' + 1 ∧ depK k1 ≤ n' ∧ depK k2 ≤ n' := by
        simp only [depK] at hdep
        exact ⟨n - 1, by omega, by omega, by omega⟩
      obtain ⟨dx, yo, zo, hx, ho, hz⟩ := id hk
      refine Evl.q_when (b := false) (Evl.et_is (Evl.et_B (isi_k NE .co (v0 H) hk)) (decide_eq_false (fun z => by cases z))) (fun z => nomatch z) (fun _ H1 e1 => ?_)
      refine Evl.q_when (b := false) (Evl.et_is (Evl.et_not (Evl.et_B (isi_k NE .pa (v0 H1) (hk.up e1)))) rfl) (fun z => nomatch z) (fun _ H2 e2 => ?_)
      have eA := e1.trans e2
      refine Evl.q_when (b := true) (Evl.et_is (Evl.et_test (Evl.ev_op (ev_fld (v0 H2) (eA _ _ hx) (S.cl _) (S.na _ _ (by decide)) (v := .str "any") rfl) Evl.ev_c (Evl.rv_eq rfl))) (by decide)) (fun _ H3 e3 => ?_) (fun z => nomatch z)
      have eB := eA.trans e3
      refine Evl.s_ret (v := .bl (plainK N (.any k1 k2) d y m)) (Evl.ev_andV (a := isF "neither" 3 d) (b := plainK N k1 (el d 1) y m && plainK N k2 (el d 2) y m) (ev_spF (v1 H3) (by decide) (hd.up eB) hw) fun z => ?_) fun H4 e4 => kk H4 (eB.trans e4)
      obtain ⟨r, hlen⟩ := isF_R z
      obtain ⟨u, eu, du, fu⟩ := elp 1 H3 r (by omega) eB
      obtain ⟨u2, eu2, du2, fu2⟩ := elp 2 H3 r (by omega) eB
      refine Evl.ev_andV (ev_callD (Evl.ea_cons (ev_fld (v0 H3) (eB _ _ hx) (S.cl _) (S.na _ _ (by decide)) (v := .ref yo) rfl) (Evl.ea_cons eu (Evl.ea_cons (Evl.ev_var (v := .ref a) rfl) (Evl.ea_cons (Evl.ev_var (v := .ref b) rfl) Evl.ea_nil)))) fun H4 e4 Q q => ⟨yo, k1, u, el d 1, a, b, y, m, p, rfl, ho.up (eB.trans e4), hoc.1, hd1, hok.1, du.up e4, fu, hv.up (eB.trans e4), l1, l2, q⟩) fun _ =>
        ev_callD (Evl.ea_cons (ev_fld (v0 H3) (eB _ _ hx) (S.cl _) (S.na _ _ (by decide)) (v := .ref zo) rfl) (Evl.ea_cons eu2 (Evl.ea_cons (Evl.ev_var (v := .ref a) rfl) (Evl.ea_cons (Evl.ev_var (v := .ref b) rfl) Evl.ea_nil)))) fun H4 e4 Q q => ⟨zo, k2, u2, el d 2, a, b, y, m, p, rfl, hz.up (eB.trans e4), hoc.2, hd2, hok.2, du2.up e4, fu2, hv.up (eB.trans e4), l1, l2, q⟩
    | both k1 k2 =>
      obtain ⟨dx, yo, zo, hx, ho, hz⟩ := id hk
      refine Evl.q_when (b := false) (Evl.et_is (Evl.et_B (isi_k NE .co (v0 H) hk)) (decide_eq_false (fun z => by cases z))) (fun z => nomatch z) (fun _ H1 e1 => ?_)
      refine Evl.q_when (b := false) (Evl.et_is (Evl.et_not (Evl.et_B (isi_k NE .pa (v0 H1) (hk.up e1)))) rfl) (fun z => nomatch z) (fun _ H2 e2 => ?_)
      have eA := e1.trans e2
      refine Evl.q_when (b := false) (Evl.et_is (Evl.et_test (Evl.ev_op (ev_fld (v0 H2) (eA _ _ hx) (S.cl _) (S.na _ _ (by decide)) (v := .str "both") rfl) Evl.ev_c (Evl.rv_eq rfl))) (by decide)) (fun z => nomatch z) (fun _ H3 e3 => ?_)
      have eB := eA.trans e3
      refine Evl.q_when (b := true) (Evl.et_is (Evl.et_test (Evl.ev_op (ev_fld (v0 H3) (eB _ _ hx) (S.cl _) (S.na _ _ (by decide)) (v := .str "both") rfl) Evl.ev_c (Evl.rv_eq rfl))) (by decide)) (fun _ H4 e4 => ?_) (fun z => nomatch z)
      have eC := eB.trans e4
      refine Evl.s_ret (v := .bl (plainK N (.both k1 k2) d y m)) (fun H5 e5 Q q => ⟨_, rfl, _, rfl, _, rfl, _, rfl, fun d1 hd1 d2 hd2 => ?_⟩) fun H5 e5 => kk H5 (eC.trans e5)
      have e6 := (Ex.new (o := .dK []) hd1).trans (Ex.new (o := .dK []) hd2)
      have e06 := (eC.trans e5).trans e6
      have n12 : d1 ≠ d2 := fun z => by rw [← z, upd_same] at hd2; cases hd2
      have dv1 : DV K (upd (upd H5 d1 (.dK [])) d2 (.dK [])) d1 [] := ⟨[], by rw [upd_ne n12]; exact upd_same, .nil, List.nodup_nil⟩
      have dv2 : DV K (upd (upd H5 d1 (.dK [])) d2 (.dK [])) d2 [] := ⟨[], upd_same, .nil, List.nodup_nil⟩
      exact ⟨x, k1, k2, v, d, a, b, d1, d2, y, m, [], [], p, rfl, hk.up e06, hoc.1, hoc.2, hdep, hok, hd.up e06, hf, Nat.le_refl _, hv.1.up e06, hv.2.1.up e06, dv1, dv2, hv.2.2.1, hv.2.2.2.1, (fun _ h => nomatch h), (fun _ h => nomatch h), hv.2.2.2.2, l1, l2, by show 0 + N ≤ 900; omega, by show 0 + N ≤ 900; omega, fun H7 e7 => q H7 (e6.trans e7)⟩
end
end U
set_option Elab.async false
set_option linter.all false
set_option maxRecDepth 100000
set_option maxHeartbeats 4000000
/-! is_certificate -/
namespace U
open PySem PySem.Spec PyProof.Rows L2
open Evl (Ex)
open C8 (Met Mak pe_mt pe_mt0 pe_mk)
abbrev s_Sample_len : Stmt := inClass (top 59) 7
abbrev sc_Sample_len_N : List Str := ["self"]
theorem sc_Sample_len : FnScope sc_Sample_len_N ["self"] (defScope s_Sample_len) := ⟨rfl, rfl, rfl, by decide +kernel, rfl, by decide +kernel, by decide +kernel⟩
abbrev s_check_lies : Stmt := top 24
abbrev sc_check_lies_N : List Str := ["lies"]
theorem sc_check_lies : FnScope sc_check_lies_N ["lies"] (defScope s_check_lies) := ⟨rfl, rfl, rfl, by decide +kernel, rfl, by decide +kernel, by decide +kernel⟩
abbrev s_pairs : Stmt := top 50
abbrev sc_pairs_N : List Str := ["sample", "given"]
theorem sc_pairs : FnScope sc_pairs_N ["sample", "given"] (defScope s_pairs) := ⟨rfl, rfl, rfl, by decide +kernel, rfl, by decide +kernel, by decide +kernel⟩
abbrev s_is_certificate : Stmt := top 52
abbrev sc_is_certificate_N : List Str := ["kind", "sample", "thing", "lies", "given", "pairs", "yeses", "number", "point", "label", "noes"]
theorem sc_is_certificate : FnScope sc_is_certificate_N ["kind", "sample", "thing", "lies", "given"] (defScope s_is_certificate) := ⟨rfl, rfl, rfl, by decide +kernel, rfl, by decide +kernel, by decide +kernel⟩
abbrev s_is_proof : Stmt := top 53
abbrev sc_is_proof_N : List Str := ["kind", "thing", "yeses", "noes", "lies", "many", "rows", "numbers", "row", "number"]
theorem sc_is_proof : FnScope sc_is_proof_N ["kind", "thing", "yeses", "noes", "lies", "many"] (defScope s_is_proof) := ⟨rfl, rfl, rfl, by decide +kernel, rfl, by decide +kernel, by decide +kernel⟩
abbrev s_check_places : Stmt := top 23
abbrev sc_check_places_N : List Str := ["kind", "samples", "sample"]
theorem sc_check_places : FnScope sc_check_places_N ["kind", "samples"] (defScope s_check_places) := ⟨rfl, rfl, rfl, by decide +kernel, rfl, by decide +kernel, by decide +kernel⟩
section
variable {X : Cx} {x : Str} {p pos : Pos} {e : Expr} {es : List Expr} {t : TA} {k : Nat} {sp : Sp}
theorem pe_nev : PE X e (fun _ _ _ => False) := ⟨fun _ _ _ _ _ _ h => h.elim⟩
/-- a def's name and its promise, told of the values written -/
structure DefR (P : Program) (w : World) (K : PySem.W.Frag) (mg : Str → Option Value) (base : Heap) (x : Str) (k : Nat) (sp : Sp) : Prop where
  ex : ∃ f, FnR P w K mg base CX0 k f sp ∧ mg x = some (.ref f) ∧ PySem.W.keepIn K (.ref f) = true
theorem pe_callR (D : DefR X.prog X.w X.K X.mg X.base x k sp) (hr : Room k X.A) (hg : Gl X x) (ha : PA X (e :: es) t) (hd : (x == ("__debug__" : Str)) = false := by decide)
    (he : starEach (e :: es) X.env = (false, eval e X.env) :: starEach es X.env := by rfl) (hpl : (backTo pos (starEach es X.env)).any (·.1) = false := by rfl) :
    PE X (.Call (.Name x p) (e :: es) [] pos) (tCallD sp t) := by
  obtain ⟨f, F, hm, hk⟩ := D.ex
  refine ⟨fun pins s σ H Q I h => ?_⟩
  refine wpAny_Call_Name_kw (ld_glob I hg hm ?_ hd)
  refine PySem.W.callWith_K (h₀ := X.base) I.ok.mod.kin hk (thn (ha.run pos pins s σ H _ I h) fun us s1 ⟨vs, H1, I1, r, q⟩ => ⟨I1.kIn, ?_⟩) he hpl
  exact wpAny_call (run_fnR F hr pass0 I1 r q)
end
section
variable {P : Program} {w : World} {K : PySem.W.Frag} {mg : Str → Option Value} {base : Heap} {C : Addr} {L : List Addr} {σ : L2.St} {H H1 H' : Hp} {p : Int} {ds es : List PyData} {tp tl te : TE} {x T0 : Addr}
def spLen (K : PySem.W.Frag) (C : Addr) : Sp := fun vs H Q _ => ∃ x p ds L, vs = [.ref x] ∧ Smp K L H x C p ds ∧ ∀ H', Ex H H' → Q (.int (ds.length : Int)) H'
end
section
variable {P : Program} {w : World} {K : PySem.W.Frag} {mg : Str → Option Value} {base : Heap} {C : Addr}
theorem eg_examples {L : List Addr} {σ : L2.St} {H : Hp} {te : TE} {x : Addr} {p : Int} {ds : List PyData} (h : Evl.Ev te σ H (.ref x)) (hS : Smp K L H x C p ds) (hL : Hid L H) : EvG K L (tMeth C "examples" (spExamples K C) [] E0 te tNil) σ H ds := fun H1 e Q q => h H1 e _ fun H2 e2 => by
  have hS2 := hS.up (e.trans e2)
  obtain ⟨dx, v, h1, h2⟩ := id hS2
  exact ⟨x, dx, _, rfl, h1, rfl, x, p, ds, L, rfl, hid_ex (e.trans e2) hL, hS2, fun t H3 ht e3 g => q t H3 (Evl.fresh_back e2 ht) (e2.trans e3) g⟩
end
section
variable {P : Program} {w : World} {K : PySem.W.Frag} {mg : Str → Option Value} {base : Heap} {C : Addr}
theorem ev_lenM {L : List Addr} {σ : L2.St} {H : Hp} {te : TE} {x : Addr} {p : Int} {ds : List PyData} (h : Evl.Ev te σ H (.ref x)) (hS : Smp K L H x C p ds) (hz : ds.length ≤ 100000) : Evl.Ev (tCB (rLenO C (spLen K C)) (tCons te tNil)) σ H (.int (ds.length : Int)) := fun H1 e Q q => h H1 e _ fun H2 e2 => by
  have hS2 := hS.up (e.trans e2)
  obtain ⟨dx, v, h1, h2⟩ := id hS2
  exact ⟨x, dx, _, rfl, h1, x, p, ds, L, rfl, hS2, fun H3 e3 => ⟨ds.length, rfl, hz, q H3 (e2.trans e3)⟩⟩
end
section
variable {P : Program} {w : World} {K : PySem.W.Frag} {mg : Str → Option Value} {base : Heap} {C : Addr} {c : KC} {σ : L2.St} {H : Hp}
theorem ev_notN {te : TE} {v : V} (h : Evl.Ev te σ H v) : Evl.Ev (tNotN te) σ H (.bl (!decide (v = .non))) := fun H1 e Q q => h H1 e _ fun H2 e2 => q H2 e2
theorem ok_Slen {f : Addr} {fd : FuncData} (F : Fun K "__len__" "Sample.__len__" s_Sample_len f fd) (T : TxF mg) (S : SmpC K C) : FnOk P w K mg base CX0 1 f fd ["self"] (spLen K C) := by
  refine F.ok sc_Sample_len (fun vs H Q E h => ?_) (fun cdv A outer s H vs Q E hr h => ?_)
  · obtain ⟨_, _, _, _, rfl, _⟩ := h
    rfl
  · obtain ⟨x, p, ds, L, rfl, hS, k⟩ := h
    refine ⟨_, (pss_one (ps_ret (pe_callB call_len_seq (by rfl) T.m_len (by decide +kernel) (pa_cons (pe_fld (pv 0) rfl) pa_nil)))), ?_⟩
    obtain ⟨dx, t, xs, hx, hs, ha, _⟩ := hS.inv
    exact Evl.s_ret (Evl.ev_is (ev_lenS (xs := xs) (ev_fld (v := .ref t) (Evl.ev_var (v := .ref x) rfl) hx S.cl S.nQ rfl) (.inr hs)) (congrArg V.int (by rw [dpa_len ha]))) k
def spPl (K : PySem.W.Frag) (C : Addr) (c : KC) : Sp := fun vs H Q _ => ∃ x y k ds, vs = [.ref x, .ref y, .non] ∧ Kin c H k x ∧ Smp K [] H y C (placesK k) ds ∧ ∀ H', Ex H H' → Q .non H'
def spPl0 (K : PySem.W.Frag) (C : Addr) (c : KC) : Sp := fun vs H Q _ => ∃ x y k ds t, vs = [.ref x, .ref t] ∧ H t = some (.tup [.ref y, .non]) ∧ Kin c H k x ∧ Smp K [] H y C (placesK k) ds ∧ ∀ H', Ex H H' → Q .non H'
theorem ok_check_places {f : Addr} {fd : FuncData} (F : Fun K "check_places" "check_places" s_check_places f fd) (T : TxF mg) (S : KCl K c) (SC : SmpC K C) : FnR P w K mg base CX0 1 f (spPl K C c) := by
  obtain ⟨oc, od, kV, doc, pm, an, cdv, ct, osl, rfl, lk, hcd⟩ := F.ex
  refine (StX.fn_star (sp := spPl0 K C c) (ps := ["kind"]) (pv := "samples") lk hcd sc_check_places StX.cxUp_none (StX.bind_star1 (B := fun us => bindArgs (PySem.W.fnOf "check_places" "check_places" (defArgs s_check_places) (defBody s_check_places) (defScope s_check_places) .none kV doc pm an cdv ct) ⟨us, []⟩) (p1 := "kind") (pv := "samples") (fun a => rfl) (fun a r rs => rfl)) (fun A outer s H vs Q E hr h => ?_)).imp (fun vs H Q E h => ?_)
  · obtain ⟨x, y, k, ds, t, rfl, ht, hk, hS, q⟩ := h
    suffices z : ∃ t, PSs (cxOf CX0 P w K mg base sc_check_places_N "check_places" (defScope s_check_places) f cdv A outer s H E).nox (defBody s_check_places) t ∧ t { nx := fun _ H' => Q .non H', rt := Q } (start sc_check_places_N [.ref x, .ref _]) H from by
      obtain ⟨t, h1, h2⟩ := z
      exact ⟨t, h1.nox, h2⟩
    refine ⟨_, (pss_one (ps_for PassesOwn.never rfl (pi_tup (pv 1)) (pg_name (i := 2) sc_check_places.nd rfl (by first | exact Or.inl rfl | exact Or.inr rfl))
      (pss_one (ps_if (PW.pt (pw_and (pt_cmp (pc_notN (pv 2)) rfl) (pw_and1 (pt_cmpR op_ne (pe_fld (pv 2) rfl) (pe_fld (pv 0) rfl) (nomark _))))) (pss_one ps_never) pss_nil)))), ?_⟩
    obtain ⟨dx, fs, hx, hp⟩ := hk.ins
    obtain ⟨dy, v, hy, _⟩ := id hS
    let Pv : Nat → L2.St → Hp → Prop := fun _ σ' H' => Ex H H' ∧ ∃ o, σ' = [some (.ref x), some (.ref t), o]
    refine ⟨_, rfl, t, rfl, ⟨_, SqT.of ht⟩, for_it (walk_tup (xs := [.ref y, .non])) Pv ⟨Ex.refl _, _, rfl⟩ (fun i σ' H' _ pv => SqT.of (pv.1 _ _ ht)) (fun i z σ' H3 H4 hi pv yp => ?_) (fun σ' H' pv => q H' pv.1)⟩
    obtain ⟨e3, o, rfl⟩ := pv
    obtain ⟨rfl, hz⟩ := yp
    match i, hi, hz with
    | 0, _, hz =>
      cases hz
      refine Evl.s_when (b := false) (Evl.et_is (Evl.et_and (a := true) (b := false) (Evl.et_B (ev_notN (v := .ref y) (Evl.ev_var rfl))) fun _ => Evl.et_is (Evl.et_test (Evl.ev_op (x := .int (placesK k)) (y := .int (placesK k)) (ev_fld (Evl.ev_var (v := .ref y) rfl) (e3 _ _ hy) SC.cl SC.nP rfl) (ev_fld (Evl.ev_var (v := .ref x) rfl) (e3 _ _ hx) (S.cl _) (S.na _ _ (by decide)) hp) (Evl.rv_ne rfl))) (by simp)) (by simp)) (fun z => nomatch z) (fun _ H6 e6 => ?_)
      exact ⟨e3.trans e6, _, rfl⟩
    | 1, _, hz =>
      cases hz
      refine Evl.s_when (b := false) (Evl.et_is (Evl.et_and (a := false) (b := false) (Evl.et_B (ev_notN (v := .non) (Evl.ev_var rfl))) fun z => nomatch z) rfl) (fun z => nomatch z) (fun _ H6 e6 => ?_)
      exact ⟨e3.trans e6, _, rfl⟩
  · obtain ⟨x, y, k, ds, rfl, hk, hS, q⟩ := h
    refine ⟨[.ref x], [.ref y, .non], rfl, rfl, by rw [sizeLine_eq]; show 2 ≤ 16777216; decide, fun t ht => ⟨x, y, k, ds, t, rfl, upd_same, hk.up (Ex.new ht), hS.up (Ex.new ht), fun H' e => q H' ((Ex.new ht).trans e)⟩⟩
end
end U
set_option Elab.async false
set_option linter.all false
set_option maxRecDepth 100000
set_option maxHeartbeats 4000000
/-! name = {k: v for ..} in a def -/
namespace U
open PySem PySem.Spec PyProof.Rows L2
/-- said of the block of a comprehension, wherever it stands -/
abbrev InBlk (X : Cx) (sc : Scope) (R : Cx → Prop) : Prop := ∀ (s : Shared) (H : Hp) (C : Addr) (cl : List (Str × Addr)) (fp : List Addr), R (X.blk s H sc (compEnvC sc cl C X.env) fp)
section
variable {X : Cx} {i : Nat} {y : Str} {q p0 p1 : Pos} {ek ev tgt it : Expr} {cs : List Expr} {sc : Scope} {mine : List (Str × Nat)} {ti : TI} {g : TG} {tt : TT} {tk tv : TE}
/-- a dict's comprehension whose result goes to a local name -/
theorem ps_setDc (h1 : X.calm = true) (h2 : X.N.Nodup) (h3 : X.N[i]? = some y) (h4 : X.env.scope.names.lookup y = some .local) (h5 : swapsWith (.DictComp ek ev [⟨tgt, it, cs, 0⟩] sc p0) (some (.Name y q)) p1.line X.env = pure true)
    (ri : PI X tgt it ti) (bk : BlkOk X.N X.env.scope sc mine) (rg : InBlk X sc fun Y => PG Y tgt g) (rt : InBlk X sc fun Y => PTs Y cs tt) (rk : InBlk X sc fun Y => PE Y ek tk) (rv : InBlk X sc fun Y => PE Y ev tv) (h6 : ∀ x, foldedSetIterable it X.env x = pure x := by intro _; rfl) :
    PS X (.Assign [.Name y q] (.DictComp ek ev [⟨tgt, it, cs, 0⟩] sc p0) p1) (tAsg (tDc ti g tt tk tv (mine.map (·.2))) (gName i)) := ⟨fun pins s σ H D I want => by
  have want : tDc ti g tt tk tv (mine.map (·.2)) σ H (fun d H1 => gName i d σ H1 D.nx) := want
  rw [exec_Assign_Name_used _ _ _ _ h5]
  refine wpAny_bind (wpAny_standAt (wpAny_bind (wpAny_bind (thn (dc_core (use := some (assign (.Name y q) X.env)) (Qf := fun _ z => SP X pins D .next z) h1 h2 I ri bk rg rt rk rv h6 want fun d C z m H1 J fin ns fo => ?_) fun _ z w => wpAny_pure (wpAny_pure w)))))
  refine wpAny_assign_Name (store_ok2 (v := V.ref d) J h2 h3 (.inl h4) rfl (fun z2 J2 ⟨a, sb, wh⟩ => ?_) (.inr h4))
  obtain ⟨f0, f1, _, f3, f4, f5⟩ := fo
  have ne : C ≠ a := wh.elim (fun e => by rw [e]; exact f1) fun e => fun e2 => f4 y a e e2.symm
  exact ⟨m, ns.sameBut sb ne, fun h' sb' => ⟨_, H1, J2.turned (t' := z2.toks) (fun b o hb e => (sb'.2 b hb).trans e) f0 f1 f3 f4 f5, fin⟩⟩⟩
theorem sw_trueD {gs : List Comprehension} {l : Nat} {en : Env} (h1 : en.scope.kind = .function) (h2 : en.scope.names.lookup y = some .local) (h3 : (q.line == p0.line) = true) (h4 : (sc.names.any fun (n, k) => n == y && (k == .local || k == .cell)) = false) :
    swapsWith (.DictComp ek ev gs sc p0) (some (.Name y q)) l en = pure true := by
  have a1 : en.blockKind = .function := by unfold Env.blockKind; rw [h1]; rfl
  have a2 : en.kindOf y = some .local := h2
  unfold swapsWith
  simp only [a1, a2, h4, Expr.pos, h3]
  rfl
end
end U
set_option Elab.async false
set_option linter.all false
set_option maxRecDepth 100000
set_option maxHeartbeats 4000000
/-! is_certificate: views of the rows, the def -/
namespace U
open PySem PySem.Spec PyProof.Rows L2
open Evl (Ex)
open C8 (Met Mak pe_mt pe_mt0 pe_mk)
def vwF (b : Bool) : Nat → List Rw2 → Vw
  | _, [] => []
  | k, r :: rs => if r.2 = b then ((k : Int), r.1) :: vwF b (k + 1) rs else vwF b (k + 1) rs
theorem vwF_snoc {b : Bool} {r : Rw2} : ∀ (rs : List Rw2) (k : Nat), vwF b k (rs ++ [r]) = vwF b k rs ++ if r.2 = b then [(((k + rs.length : Nat) : Int), r.1)] else []
  | [], k => by
    show (if r.2 = b then ((k : Int), r.1) :: vwF b (k + 1) [] else vwF b (k + 1) []) = [] ++ _
    rw [List.nil_append]
    rfl
  | q :: rs, k => by
    have ih := vwF_snoc (b := b) (r := r) rs (k + 1)
    have e : k + (q :: rs).length = k + 1 + rs.length := by rw [List.length_cons]; omega
    show (if q.2 = b then ((k : Int), q.1) :: vwF b (k + 1) (rs ++ [r]) else vwF b (k + 1) (rs ++ [r])) = (if q.2 = b then ((k : Int), q.1) :: vwF b (k + 1) rs else vwF b (k + 1) rs) ++ _
    rw [ih, e]
    split <;> rfl
theorem vwF_len {b : Bool} : ∀ (rs : List Rw2) (k : Nat), (vwF b k rs).length ≤ rs.length
  | [], _ => Nat.le_refl _
  | q :: rs, k => by
    have ih := vwF_len (b := b) rs (k + 1)
    show (if q.2 = b then ((k : Int), q.1) :: vwF b (k + 1) rs else vwF b (k + 1) rs).length ≤ _
    split <;> simp only [List.length_cons] <;> omega
theorem vwF_key {b : Bool} : ∀ (rs : List Rw2) (k : Nat), ∀ q ∈ vwF b k rs, (k : Int) ≤ q.1
  | [], _, _, h => nomatch h
  | r :: rs, k, q, h => by
    have ih := vwF_key (b := b) rs (k + 1) q
    replace h : q ∈ (if r.2 = b then ((k : Int), r.1) :: vwF b (k + 1) rs else vwF b (k + 1) rs) := h
    split at h
    · rcases List.mem_cons.mp h with rfl | h
      · exact Int.le_refl _
      · have := ih h
        omega
    · have := ih h
      omega
theorem vwF_nd {b : Bool} : ∀ (rs : List Rw2) (k : Nat), ((vwF b k rs).map (·.1)).Nodup
  | [], _ => List.nodup_nil
  | r :: rs, k => by
    have ih := vwF_nd (b := b) rs (k + 1)
    show ((if r.2 = b then ((k : Int), r.1) :: vwF b (k + 1) rs else vwF b (k + 1) rs).map (·.1)).Nodup
    split
    · rw [List.map_cons]
      refine List.nodup_cons.mpr ⟨fun h => ?_, ih⟩
      obtain ⟨q, hq, e⟩ := List.mem_map.mp h
      have := vwF_key rs (k + 1) q hq
      simp only at e
      omega
    · exact ih
theorem vwF_mem {b : Bool} : ∀ (rs : List Rw2) (k : Nat), ∀ q ∈ vwF b k rs, ∃ r ∈ rs, q.2 = r.1
  | [], _, _, h => nomatch h
  | r :: rs, k, q, h => by
    replace h : q ∈ (if r.2 = b then ((k : Int), r.1) :: vwF b (k + 1) rs else vwF b (k + 1) rs) := h
    have ih := vwF_mem (b := b) rs (k + 1) q
    split at h
    · rcases List.mem_cons.mp h with rfl | h
      · exact ⟨r, List.mem_cons_self .., rfl⟩
      · obtain ⟨s, hs, e⟩ := ih h
        exact ⟨s, List.mem_cons_of_mem _ hs, e⟩
    · obtain ⟨s, hs, e⟩ := ih h
      exact ⟨s, List.mem_cons_of_mem _ hs, e⟩
theorem vget_cons {m : Vw} {i j : Int} {p : List Int} : vget ((j, p) :: m) i = if j = i then some p else vget m i := by
  unfold vget
  rw [List.find?_cons]
  by_cases e : j = i <;> simp [e]
theorem vwF_get {b : Bool} : ∀ (rs : List Rw2) (k : Nat) (i : Int), vget (vwF b k rs) i = if (k : Int) ≤ i then (match rs[(i - k).toNat]? with | some r => if r.2 = b then some r.1 else none | none => none) else none
  | [], k, i => by
    show (none : Option (List Int)) = _
    split <;> simp
  | r :: rs, k, i => by
    have ih := vwF_get (b := b) rs (k + 1) i
    have hh : vget (vwF b k (r :: rs)) i = if r.2 = b ∧ (k : Int) = i then some r.1 else vget (vwF b (k + 1) rs) i := by
      show vget (if r.2 = b then ((k : Int), r.1) :: vwF b (k + 1) rs else vwF b (k + 1) rs) i = _
      by_cases hb : r.2 = b
      · rw [if_pos hb, vget_cons]
        simp [hb]
      · rw [if_neg hb]
        simp [hb]
    rw [hh, ih]
    by_cases hk : (k : Int) = i
    · subst hk
      rw [if_neg (show ¬ ((k + 1 : Nat) : Int) ≤ (k : Int) by omega), if_pos (Int.le_refl _)]
      simp
    · by_cases hlt : ((k + 1 : Nat) : Int) ≤ i
      · have e1 : (i - (k : Int)).toNat = (i - ((k + 1 : Nat) : Int)).toNat + 1 := by omega
        rw [if_neg (by simp [hk]), if_pos hlt, if_pos (by omega), e1, List.getElem?_cons_succ]
      · rw [if_neg (by simp [hk]), if_neg hlt, if_neg (by omega)]
theorem vw_at {b : Bool} {rs : List Rw2} (i : Nat) : vget (vwF b 0 rs) (i : Int) = (match rs[i]? with | some r => if r.2 = b then some r.1 else none | none => none) := by
  rw [vwF_get, if_pos (by omega)]
  simp
section
variable {P : Program} {w : World} {K : PySem.W.Frag} {mg : Str → Option Value} {base : Heap} {C : Addr} {c : KC} {σ : L2.St} {H : Hp}
theorem view_run {a : Addr} {xs : List V} {rs : List Rw2} {tt : TT} {b : Bool} {ta : TA} {Q : VK} (h : Evl.EvA ta σ H [.ref a]) (hx : SqL K H a xs ∨ SqT K H a xs) (ha : DpAll K H xs (rs.map rD)) (hz : rs.length ≤ 1000)
    (hw : ∀ x y z, wipe ((((wipe σ [7, 8, 9]).set 7 (some x)).set 8 (some y)).set 9 (some z)) [7, 8, 9] = wipe σ [7, 8, 9]) (g7 : ∀ x y z, ((((wipe σ [7, 8, 9]).set 7 (some x)).set 8 (some y)).set 9 (some z))[7]? = some (some x)) (g8 : ∀ x y z, ((((wipe σ [7, 8, 9]).set 7 (some x)).set 8 (some y)).set 9 (some z))[8]? = some (some y))
    (ht : ∀ x y (z : Bool) H1, Evl.EvT tt ((((wipe σ [7, 8, 9]).set 7 (some x)).set 8 (some y)).set 9 (some (.bl z))) H1 (z == b))
    (k : ∀ D H', H D = none → Ex H H' → DV K H' D (vwF b 0 rs) → Q (.ref D) H') : tDc (iEnumA K ta) (gTup K 2 (gCons (gName 7) (gCons (gTup K 2 (gCons (gName 8) (gCons (gName 9) gNil))) gNil))) tt (tVar 7) (tVar 8) [7, 8, 9] σ H Q := by
  refine h H (Ex.refl _) _ fun H1 e1 => ?_
  have hlen : xs.length = rs.length := by
    have := dpa_len ha
    rw [List.length_map] at this
    exact this
  have ha1 := ha.up e1
  let Pv : Addr → Nat → Hp → Prop := fun D j H' => Ex H1 H' ∧ ∃ kvs, H' D = some (.dK kvs) ∧ Paired (fun kv q => kv.1 = Sum.inl q.1 ∧ Dp K H1 kv.2 (ptD q.2)) kvs (vwF b 0 (rs.take j))
  have turn : ∀ (D : Addr) (hD : H1 D = none) (i : Nat) (x : V) (H2 H3 : Hp), i < xs.length → Pv D i H2 → YPair (fun i => some (.int (i : Nat))) (fun i => xs[i]?) i H2 x H3 →
      gTup K 2 (gCons (gName 7) (gCons (gTup K 2 (gCons (gName 8) (gCons (gName 9) gNil))) gNil)) x (wipe σ [7, 8, 9]) H3 fun σ2 H2 => wipe σ2 [7, 8, 9] = wipe σ [7, 8, 9] ∧ tt σ2 H2 fun b H3 =>
      if b = true then tVar 7 σ2 H3 fun y H4 => tVar 8 σ2 H4 fun z H5 => ∃ kvs k, y = kV k ∧ H5 D = some (.dK kvs) ∧ kvs.length < sizeLine ∧ Pv D (i + 1) (upd H5 D (.dK (putK kvs k z))) else Pv D (i + 1) H3 := by
    intro D hD i x H2 H3 hi pv yp
    obtain ⟨e2, kvs, hk, hp⟩ := pv
    obtain ⟨T, u, z, rfl, hT, rfl, hu, hz2⟩ := yp
    cases hu
    obtain ⟨d, hd1, hd2⟩ := dpa_get ha1 (show xs[i]? = some z from hz2)
    rw [List.getElem?_map] at hd1
    obtain ⟨r, hr, rfl⟩ := Option.map_eq_some_iff.mp hd1
    obtain ⟨t, pv, rfl, hs, hpv⟩ := dp_row hd2
    have e3 : Ex H1 (upd H2 T (.tup [.int (i : Int), .ref t])) := e2.trans (Ex.new hT)
    refine ⟨T, [.int (i : Int), .ref t], rfl, SqT.of upd_same, rfl, .int (i : Int), [.ref t], rfl, .ref t, [], rfl, t, [pv, .bl r.2], rfl, Evl.ex_t e3 hs, rfl, pv, [.bl r.2], rfl, .bl r.2, [], rfl, rfl, rfl, hw _ _ _, ?_⟩
    refine ht _ _ r.2 _ _ (Ex.refl _) _ fun H4 e4 => ?_
    have st : vwF b 0 (rs.take (i + 1)) = vwF b 0 (rs.take i) ++ if r.2 = b then [((i : Int), r.1)] else [] := by
      rw [List.take_add_one, hr]
      show vwF b 0 (rs.take i ++ [r]) = _
      rw [vwF_snoc, Nat.zero_add, List.length_take, Nat.min_eq_left (by omega)]
    have hTD : D ≠ T := fun z => by rw [← z, hk] at hT; cases hT
    have hk4 : H4 D = some (.dK kvs) := e4 _ _ (by rw [upd_ne hTD]; exact hk)
    by_cases hb : r.2 = b
    · rw [if_pos (by simp [hb])]
      refine ⟨_, g7 _ _ _, _, g8 _ _ _, kvs, Sum.inl (i : Int), rfl, hk4, ?_, fun a o hh => ?_, _, upd_same, ?_⟩
      · have l1 : kvs.length = (vwF b 0 (rs.take i)).length := Paired.length hp
        have l2 := vwF_len (b := b) (rs.take i) 0
        rw [List.length_take] at l2
        rw [sizeLine_eq]
        omega
      · have nD : a ≠ D := fun z => by rw [z, hD] at hh; cases hh
        rw [upd_ne nD]
        exact e4 _ _ (e3 _ _ hh)
      · rw [st, if_pos hb]
        have hn : valV kvs (Sum.inl (i : Int) : L2.Key) = none := by
          rcases paired_val (i := (i : Int)) hp with ⟨_, a2⟩ | ⟨p, v, a1, _⟩
          · exact a2
          · rw [vw_at, List.getElem?_take] at a1
            simp at a1
        rw [putK_new _ hn]
        exact paired_snoc hp ⟨rfl, hpv⟩
    · rw [if_neg (by simp [hb])]
      refine ⟨e3.trans e4, kvs, hk4, ?_⟩
      rw [st, if_neg hb, List.append_nil]
      exact hp
  have fin : ∀ (D : Addr) (hD : H1 D = none) H2, Pv D xs.length H2 → Q (.ref D) H2 := fun D hD H2 pv => by
    obtain ⟨e2, kvs, hk, hp⟩ := pv
    rw [hlen, List.take_length] at hp
    exact k D H2 (Evl.fresh_back e1 hD) (e1.trans e2) ⟨kvs, hk, paired_imp hp fun x y q => ⟨q.1, q.2.up e2⟩, vwF_nd _ _⟩
  have p0 : ∀ D, H1 D = none → Pv D 0 (upd H1 D (.dK [])) := fun D hD => ⟨Ex.new hD, [], upd_same, .nil⟩
  rcases hx with x1 | x1
  · exact ⟨a, xs, rfl, .inl ⟨Evl.ex_l e1 x1, fun D hD => dc_it (walk_enum (xs := xs)) (Pv D) (p0 D hD) (fun i H2 _ p => Evl.ex_l (e1.trans p.1) x1) (fun i x H2 H3 hi p y => turn D hD i x H2 H3 hi p y) (fin D hD)⟩⟩
  · exact ⟨a, xs, rfl, .inr ⟨Evl.ex_t e1 x1, fun D hD => dc_it (walk_enumT (xs := xs)) (Pv D) (p0 D hD) (fun i H2 _ p => Evl.ex_t (e1.trans p.1) x1) (fun i x H2 H3 hi p y => turn D hD i x H2 H3 hi p y) (fin D hD)⟩⟩
theorem q_view {a : Addr} {xs : List V} {rs : List Rw2} {tt : TT} {b : Bool} {ta : TA} {D : Ends} {tz : TS} {j : Nat} (h : Evl.EvA ta σ H [.ref a]) (hx : SqL K H a xs ∨ SqT K H a xs) (ha : DpAll K H xs (rs.map rD)) (hz : rs.length ≤ 1000)
    (hw : ∀ x y z, wipe ((((wipe σ [7, 8, 9]).set 7 (some x)).set 8 (some y)).set 9 (some z)) [7, 8, 9] = wipe σ [7, 8, 9]) (g7 : ∀ x y z, ((((wipe σ [7, 8, 9]).set 7 (some x)).set 8 (some y)).set 9 (some z))[7]? = some (some x)) (g8 : ∀ x y z, ((((wipe σ [7, 8, 9]).set 7 (some x)).set 8 (some y)).set 9 (some z))[8]? = some (some y))
    (ht : ∀ x y (z : Bool) H1, Evl.EvT tt ((((wipe σ [7, 8, 9]).set 7 (some x)).set 8 (some y)).set 9 (some (.bl z))) H1 (z == b))
    (k : ∀ d H', H d = none → Ex H H' → DV K H' d (vwF b 0 rs) → tz D (σ.set j (some (.ref d))) H') : tSeq (tAsg (tDc (iEnumA K ta) (gTup K 2 (gCons (gName 7) (gCons (gTup K 2 (gCons (gName 8) (gCons (gName 9) gNil))) gNil))) tt (tVar 7) (tVar 8) [7, 8, 9]) (gName j)) tz D σ H :=
  view_run (Q := fun v H1 => gName j v σ H1 fun σ2 H2 => tz D σ2 H2) h hx ha hz hw g7 g8 ht k
theorem q_drop {D : Ends} {te : TE} {tz : TS} {v : V} (h : Evl.Ev te σ H v) (k : ∀ H1, Ex H H1 → tz D σ H1) : tSeq (tDrop te) tz D σ H := h H (Ex.refl _) _ fun H1 e1 => k H1 e1
def spLi : Sp := fun vs H Q _ => vs = [.int 0] ∧ ∀ H', Ex H H' → Q .non H'
theorem ok_check_lies {f : Addr} {fd : FuncData} (F : Fun K "check_lies" "check_lies" s_check_lies f fd) (D_is_integer : DefAt P w K mg base "is_integer" 1 ["thing"] (spB K isI)) : FnOk P w K mg base CX0 2 f fd ["lies"] spLi := by
  refine F.ok sc_check_lies (fun vs H Q E h => ?_) (fun cdv A outer s H vs Q E hr h => ?_)
  · obtain ⟨rfl, _⟩ := h
    rfl
  · obtain ⟨rfl, k⟩ := h
    refine ⟨_, (pss_one (ps_if (PW.pt (pw_or (pt_not (pt_val (pe_callD D_is_integer (by first | exact hr | exact hr.mono (by decide) | exact hr.mono (by omega)) (by rfl) (pa_cons (pv 0) pa_nil)))) (pw_or1 (pt_cmpR op_lt (pv 0) pe_int (nomark _))))) (pss_one ps_never) pss_nil)), ?_⟩
    have v0 : ∀ H1, Evl.Ev (tVar 0) (start sc_check_lies_N [.int 0]) H1 (.int 0) := fun H1 => Evl.ev_var rfl
    exact Evl.s_when (b := false) (Evl.et_is (Evl.et_or (a := false) (b := false) (Evl.et_is (Evl.et_not (Evl.et_B (ev_spB (v0 H) (.int 0)))) rfl) fun _ => Evl.et_is (Evl.et_test (Evl.ev_op (v0 H) Evl.ev_c (Evl.rv_I0))) (by decide)) rfl) (fun z => nomatch z) (fun _ H1 e1 => k H1 e1)
def spPs (K : PySem.W.Frag) (C : Addr) : Sp := fun vs H Q _ => ∃ y p ds, vs = [.ref y, .non] ∧ Smp K [] H y C p ds ∧ ds.length ≤ 10000 ∧ ∀ v H', Ex H H' → Dp K H' v (.list ds) → Q v H'
theorem ok_pairs {f : Addr} {fd : FuncData} (F : Fun K "_pairs" "_pairs" s_pairs f fd) (S : SmpC K C) (M_examples : Met P w K mg base 1 C "examples" (spExamples K C) []) : FnOk P w K mg base CX0 2 f fd ["sample", "given"] (spPs K C) := by
  refine F.ok sc_pairs (fun vs H Q E h => ?_) (fun cdv A outer s H vs Q E hr h => ?_)
  · obtain ⟨_, _, _, rfl, _⟩ := h
    rfl
  · obtain ⟨y, p, ds, rfl, hS, hz, k⟩ := h
    refine ⟨_, (pss_one (ps_ret (pe_op op_cat (pe_mt0 M_examples hr (by decide) (pv 0)) (pe_ifExp (pt_cmp (pc_notN (pv 1)) rfl) (pe_nev) (pe_lst pa_nil))))), ?_⟩
    refine eg_examples (Evl.ev_var (v := .ref y) rfl) hS hid_nil H (Ex.refl _) _ fun t H1 ht e1 g => ?_
    refine Evl.et_B (ev_notN (v := .non) (Evl.ev_var rfl)) H1 (Ex.refl _) _ fun H2 e2 => ?_
    rw [if_neg (by simp)]
    refine Evl.el_lst Evl.ea_nil (by decide) H2 (Ex.refl _) _ fun t2 H3 ht2 e3 hl2 => ?_
    have eA := e2.trans e3
    obtain ⟨_, xs, hl, ha⟩ := g.up eA
    have lx := dpa_len ha
    refine ⟨t, t2, xs, [], rfl, rfl, hl, hl2, Evl.sz_of (by simp; omega), fun r hr => ?_⟩
    rw [List.append_nil]
    exact k _ _ ((e1.trans eA).trans (Ex.new hr)) (.lst (SqL.of upd_same) ((ha.up w_sub).up (Ex.new hr)))
def spPf (K : PySem.W.Frag) (c : KC) (N n : Nat) : Sp := fun vs H Q E => ∃ x v a b m, vs = [x, v, a, b, .int 0, .int m] ∧ spPn K c N n [x, v, a, b] H Q E
theorem ok_is_proof {f : Addr} {fd : FuncData} (F : Fun K "_is_proof" "_is_proof" s_is_proof f fd) (N n l : Nat) (D_is_plain : DefAt P w K mg base "_is_plain" l ["kind", "thing", "yeses", "noes"] (spPn K c N n)) : FnOk P w K mg base CX0 (l + 1) f fd ["kind", "thing", "yeses", "noes", "lies", "many"] (spPf K c N n) := by
  refine F.ok sc_is_proof (fun vs H Q E h => ?_) (fun cdv A outer s H vs Q E hr h => ?_)
  · obtain ⟨_, _, _, _, _, rfl, _⟩ := h
    rfl
  · obtain ⟨x, v, a, b, m, rfl, h⟩ := h
    refine ⟨_, (pss_cons (ps_if (pt_cmpR op_eq (pv 4) pe_int (nomark _)) (pss_one (ps_ret (pe_callD D_is_plain (by first | exact hr | exact hr.mono (by decide) | exact hr.mono (by omega)) (by rfl) (pa_cons (pv 0) (pa_cons (pv 1) (pa_cons (pv 2) (pa_cons (pv 3) pa_nil))))))) pss_nil)
    (pss_cons ps_never
    (pss_cons ps_never
    (pss_cons ps_never
    (pss_cons ps_never
    (pss_cons ps_never
    (pss_one ps_never))))))), ?_⟩
    obtain ⟨x', k, v', d, a', b', y, nn, p, e, hk, h1, h2, h3, hd, hf, hv, l1, l2, kk⟩ := h
    injection e with c1 e
    injection e with c2 e
    injection e with c3 e
    injection e with c4 e
    subst c1 c2 c3 c4
    refine Evl.q_when (b := true) (Evl.et_is (Evl.et_test (Evl.ev_op (Evl.ev_var (v := .int 0) rfl) Evl.ev_c (Evl.rv_eq rfl))) (by decide)) (fun _ H1 e1 => ?_) (fun z => nomatch z)
    exact Evl.s_ret (v := .bl (plainK N k d y nn)) (ev_callD (Evl.ea_cons (Evl.ev_var (v := .ref x') rfl) (Evl.ea_cons (Evl.ev_var (v := v) rfl) (Evl.ea_cons (Evl.ev_var (v := .ref a') rfl) (Evl.ea_cons (Evl.ev_var (v := .ref b') rfl) Evl.ea_nil)))) fun H2 e2 Q q => ⟨x', k, v, d, a', b', y, nn, p, rfl, hk.up (e1.trans e2), h1, h2, h3, hd.up (e1.trans e2), hf, hv.up (e1.trans e2), l1, l2, q⟩) fun H2 e2 => kk H2 (e1.trans e2)
def spCt (K : PySem.W.Frag) (C : Addr) (c : KC) (N n : Nat) : Sp := fun vs H Q _ => ∃ x y v k d rs p, vs = [.ref x, .ref y, v, .int 0, .non] ∧ Kin c H k x ∧ okC k ∧ depK k ≤ n ∧ okK ((p : Nat) : Int) k ∧ p ≤ 3 ∧ Smp K [] H y C ((p : Nat) : Int) (rs.map rD) ∧ rs.length ≤ 900 ∧ (∀ r ∈ rs, r.1.length = p) ∧ Dq K H v d ∧ fits N d ∧
  ∀ H', Ex H H' → Q (.bl (plainK N k d (vwF true 0 rs) (vwF false 0 rs))) H'
theorem ok_is_certificate {f fl : Addr} {fd fdl : FuncData} {dvs : List V} {kws : List (Str × V)} (F : FunD K "is_certificate" "is_certificate" (defArgs s_is_certificate) (defBody s_is_certificate) (defScope s_is_certificate) dvs kws f fd) (T : TxF mg) (N n l : Nat) (hl : 2 ≤ l)
    (D_check_places : DefR P w K mg base "check_places" 1 (spPl K C c)) (D_check_lies : DefAt P w K mg base "check_lies" 2 ["lies"] spLi) (D_pairs : DefAt P w K mg base "_pairs" 2 ["sample", "given"] (spPs K C)) (D_is_proof : DefAt P w K mg base "_is_proof" l ["kind", "thing", "yeses", "noes", "lies", "many"] (spPf K c N n))
    (FL : FnOk P w K mg base CX0 1 fl fdl ["self"] (spLen K C)) (eL : SpM K C fl "__len__") (bL : Binds K fdl ["self"] []) :
    FnOk P w K mg base CX0 (l + 1) f fd ["kind", "sample", "thing", "lies", "given"] (spCt K C c N n) := by
  refine funD_ok0 F sc_is_certificate (fun vs H Q E h => ?_) (fun cdv A outer s H vs Q E hr h => ?_)
  · obtain ⟨_, _, _, _, _, _, _, rfl, _⟩ := h
    rfl
  · obtain ⟨x, y, v, k, d, rs, p, rfl, hk, hoc, hdep, hok, p3, hS, hz, hp, hd, hf, kk⟩ := h
    refine ⟨_, (pss_cons (ps_expr (pe_callR D_check_places (hr.mono (by omega)) (by rfl) (pa_cons (pv 0) (pa_cons (pv 1) (pa_cons (pv 4) pa_nil)))))
    (pss_cons (ps_expr (pe_callD D_check_lies (by first | exact hr | exact hr.mono (by decide) | exact hr.mono (by omega)) (by rfl) (pa_cons (pv 3) pa_nil)))
    (pss_cons (ps_set (i := 5) sc_is_certificate.nd rfl (by first | exact Or.inl rfl | exact Or.inr rfl) (pe_callD D_pairs (by first | exact hr | exact hr.mono (by decide) | exact hr.mono (by omega)) (by rfl) (pa_cons (pv 1) (pa_cons (pv 4) pa_nil))))
    (pss_cons (ps_setDc (i := 6) (mine := [("number", 7), ("point", 8), ("label", 9)]) (g := gTup K 2 (gCons (gName 7) (gCons (gTup K 2 (gCons (gName 8) (gCons (gName 9) gNil))) gNil))) (tt := tB (tVar 9)) (tk := tVar 7) (tv := tVar 8) (by rfl) sc_is_certificate.nd rfl rfl (sw_trueD rfl rfl rfl (by decide +kernel)) (pi_enumA (by rfl) T.m_enumerate (pa_cons (pv 5) pa_nil)) (blkOk_by (N := sc_is_certificate_N) (sc := defScope s_is_certificate) (by decide +kernel)) (fun _ _ _ _ _ => pg_tup (by rfl) (pgs_cons (pg_name (i := 7) sc_is_certificate.nd rfl (by first | exact Or.inl rfl | exact Or.inr rfl)) (pgs_cons (pg_tup (by rfl) (pgs_cons (pg_name (i := 8) sc_is_certificate.nd rfl (by first | exact Or.inl rfl | exact Or.inr rfl)) (pgs_cons (pg_name (i := 9) sc_is_certificate.nd rfl (by first | exact Or.inl rfl | exact Or.inr rfl)) pgs_nil))) pgs_nil))) (fun _ _ _ _ _ => pts_one (pt_val (pv 9))) (fun _ _ _ _ _ => pv 7) (fun _ _ _ _ _ => pv 8))
    (pss_cons (ps_setDc (i := 10) (mine := [("number", 7), ("point", 8), ("label", 9)]) (g := gTup K 2 (gCons (gName 7) (gCons (gTup K 2 (gCons (gName 8) (gCons (gName 9) gNil))) gNil))) (tt := tNot (tB (tVar 9))) (tk := tVar 7) (tv := tVar 8) (by rfl) sc_is_certificate.nd rfl rfl (sw_trueD rfl rfl rfl (by decide +kernel)) (pi_enumA (by rfl) T.m_enumerate (pa_cons (pv 5) pa_nil)) (blkOk_by (N := sc_is_certificate_N) (sc := defScope s_is_certificate) (by decide +kernel)) (fun _ _ _ _ _ => pg_tup (by rfl) (pgs_cons (pg_name (i := 7) sc_is_certificate.nd rfl (by first | exact Or.inl rfl | exact Or.inr rfl)) (pgs_cons (pg_tup (by rfl) (pgs_cons (pg_name (i := 8) sc_is_certificate.nd rfl (by first | exact Or.inl rfl | exact Or.inr rfl)) (pgs_cons (pg_name (i := 9) sc_is_certificate.nd rfl (by first | exact Or.inl rfl | exact Or.inr rfl)) pgs_nil))) pgs_nil))) (fun _ _ _ _ _ => pts_one (pt_not (pt_val (pv 9)))) (fun _ _ _ _ _ => pv 7) (fun _ _ _ _ _ => pv 8))
    (pss_one (ps_ret (pe_callD D_is_proof (by first | exact hr | exact hr.mono (by decide) | exact hr.mono (by omega)) (by rfl) (pa_cons (pv 0) (pa_cons (pv 2) (pa_cons (pv 6) (pa_cons (pv 10) (pa_cons (pv 3) (pa_cons (pe_callB (call_lenO FL (hr.mono (by omega)) eL bL) (by rfl) T.m_len (by decide +kernel) (pa_cons (pv 1) pa_nil)) pa_nil)))))))))))))), ?_⟩
    have hlr : (rs.map rD).length = rs.length := List.length_map ..
    have epl : placesK k = ((p : Nat) : Int) := okK_places hok
    refine q_drop (v := .non) (ev_callD (Evl.ea_cons (Evl.ev_var (v := .ref x) rfl) (Evl.ea_cons (Evl.ev_var (v := .ref y) rfl) (Evl.ea_cons (Evl.ev_var (v := .non) rfl) Evl.ea_nil))) fun H2 e2 Q q => ⟨x, y, k, _, rfl, hk.up e2, by rw [epl]; exact hS.up e2, q⟩) fun H1 e1 => ?_
    refine q_drop (v := .non) (ev_callD (Evl.ea_cons (Evl.ev_var (v := .int 0) rfl) Evl.ea_nil) fun H2 e2 Q q => ⟨rfl, q⟩) fun H2 e2 => ?_
    have eA := e1.trans e2
    refine ⟨.ref y, rfl, .non, rfl, y, _, _, rfl, hS.up eA, by omega, fun u H3 e3 hu => ?_⟩
    have eB := eA.trans e3
    obtain ⟨a, xs, rfl, hs, ha⟩ : ∃ a xs, u = .ref a ∧ SqL K H3 a xs ∧ DpAll K H3 xs (rs.map rD) := by
      cases hu with
      | lst hs ha => exact ⟨_, _, rfl, hs, ha⟩
    dsimp only [gName, List.set]
    refine q_view (b := true) (Evl.ea_cons (Evl.ev_var (v := .ref a) rfl) Evl.ea_nil) (.inl hs) ha (by omega) (fun _ _ _ => rfl) (fun _ _ _ => rfl) (fun _ _ _ => rfl) (fun x y z H1 => ?_) fun D1 H4 hD1 e4 dv1 => ?_
    · exact Evl.et_is (Evl.et_B (Evl.ev_var (v := .bl z) rfl)) (by cases z <;> rfl)
    refine q_view (b := false) (Evl.ea_cons (Evl.ev_var (v := .ref a) rfl) Evl.ea_nil) (.inl (Evl.ex_l e4 hs)) (ha.up e4) (by omega) (fun _ _ _ => rfl) (fun _ _ _ => rfl) (fun _ _ _ => rfl) (fun x y z H1 => ?_) fun D2 H5 hD2 e5 dv2 => ?_
    · exact Evl.et_is (Evl.et_not (Evl.et_B (Evl.ev_var (v := .bl z) rfl))) (by cases z <;> rfl)
    have e45 := e4.trans e5
    have vp : ∀ b, Vp p (vwF b 0 rs) := fun b q hq => by
      obtain ⟨r, hr, e⟩ := vwF_mem rs 0 q hq
      rw [e]
      exact hp r hr
    have lv : ∀ b, (vwF b 0 rs).length ≤ 900 := fun b => Nat.le_trans (vwF_len _ _) hz
    refine Evl.s_ret (v := .bl (plainK N k d (vwF true 0 rs) (vwF false 0 rs))) (ev_callD (Evl.ea_cons (Evl.ev_var (v := .ref x) rfl) (Evl.ea_cons (Evl.ev_var (v := v) rfl) (Evl.ea_cons (Evl.ev_var (v := .ref D1) rfl) (Evl.ea_cons (Evl.ev_var (v := .ref D2) rfl) (Evl.ea_cons (Evl.ev_var (v := .int 0) rfl) (Evl.ea_cons (ev_lenM (Evl.ev_var (v := .ref y) rfl) (hS.up (eB.trans e45)) (by omega)) Evl.ea_nil)))))) fun H6 e6 Q q => ?_) fun H6 e6 => kk H6 ((eB.trans e45).trans e6)
    have eC := (eB.trans e45).trans e6
    exact ⟨_, _, _, _, _, rfl, x, k, v, d, D1, D2, _, _, p, rfl, hk.up eC, hoc, hdep, hok, hd.up eC, hf, ⟨dv1.up (e5.trans e6), dv2.up e6, vp _, vp _, p3⟩, lv _, lv _, q⟩
end
end U
set_option Elab.async false
set_option linter.all false
set_option maxRecDepth 100000
set_option maxHeartbeats 2000000
namespace U
open PySem L2
open Evl (Ex)
/-! ### what evaluates to data -/
section
variable {K : PySem.W.Frag} {L : List Addr} {σ : L2.St} {H H' : Hp} {te tb : TE} {ta tr : TA} {v : V} {d : PyData} {ds : List PyData} {l p : Addr} {o : HO}
def EvQ (K : PySem.W.Frag) (L : List Addr) (te : TE) (σ : L2.St) (H : Hp) (d : PyData) : Prop := ∀ H1, Ex H H1 → ∀ Q : VK, (∀ v H2, Ex H1 H2 → Dq K (W L H2) v d → Q v H2) → te σ H1 Q
def EvQs (K : PySem.W.Frag) (L : List Addr) (ta : TA) (σ : L2.St) (H : Hp) (ds : List PyData) : Prop := ∀ H1, Ex H H1 → ∀ Q : List V → Hp → Prop, (∀ vs H2, Ex H1 H2 → DqAll K (W L H2) vs ds → Q vs H2) → ta σ H1 Q
theorem EvQ.mono (e : Ex H H') (h : EvQ K L te σ H d) : EvQ K L te σ H' d := fun H1 a Q q => h H1 (e.trans a) Q q
theorem EvQs.mono (e : Ex H H') (h : EvQs K L ta σ H ds) : EvQs K L ta σ H' ds := fun H1 a Q q => h H1 (e.trans a) Q q
/-! ### a list that grows -/
/-- at l a list of the data ds, which do not hang on l -/
def Gq (K : PySem.W.Frag) (L : List Addr) (H : Hp) (l : Addr) (ds : List PyData) : Prop := l ∉ L ∧ ∃ xs, H l = some (.lst xs) ∧ DqAll K (W (l :: L) H) xs ds
theorem Gq.dp (h : Gq K L H l ds) : Dq K (W L H) (.ref l) (.list ds) := by
  obtain ⟨n, xs, h1, h2⟩ := h
  exact .lst (SqL.of (w_of n h1)) (h2.up w_cons)
theorem Gq.up (h : Gq K L H l ds) (e : Ex H H') : Gq K L H' l ds := by
  obtain ⟨n, xs, h1, h2⟩ := h
  exact ⟨n, xs, e _ _ h1, h2.up (w_ex e)⟩
theorem Gq.ne (h : Gq K L H l ds) : H l ≠ none := by
  obtain ⟨n, xs, h1, h2⟩ := h
  rw [h1]
  simp
/-! ### statements -/
variable {D : Ends} {tz tu : TS} {i : Nat}
end
/-! ### a comprehension whose items are data -/
section
variable {K : PySem.W.Frag} {L : List Addr} {σ σ2 : L2.St} {H H' H1 H2 : Hp} {te tl : TE} {ta : TA} {tt : TT} {v : V} {d : PyData} {ds : List PyData} {l a Dl : Addr} {xs : List V} {f : Nat → List PyData} {i : Nat}
/-- evaluates to a new list of data -/
def EvGq (K : PySem.W.Frag) (L : List Addr) (te : TE) (σ : L2.St) (H : Hp) (ds : List PyData) : Prop := ∀ H1, Ex H H1 → ∀ Q : VK, (∀ p H2, H1 p = none → Ex H1 H2 → Gq K L H2 p ds → Q (.ref p) H2) → te σ H1 Q
theorem EvGq.mono (e : Ex H H') (h : EvGq K L te σ H ds) : EvGq K L te σ H' ds := fun H1 a Q q => h H1 (e.trans a) Q q
end
end U
set_option Elab.async false
set_option linter.all false
set_option maxRecDepth 100000
set_option maxHeartbeats 2000000
/-! list(zip(a, b)), each a list or a tuple: the reading, and what is walked. The rule itself is still to be proved. -/
namespace U
open PySem PySem.Spec PyProof.Rows L2
open Evl (Ex)
def tZipL (K : PySem.W.Frag) (ta tb : TE) : TE := fun σ H Q => ta σ H fun x H1 => tb σ H1 fun y H2 => ∃ a b xs ys, x = .ref a ∧ y = .ref b ∧ (SqL K H2 a xs ∨ SqT K H2 a xs) ∧ (SqL K H2 b ys ∨ SqT K H2 b ys) ∧ xs.length ≤ 1000 ∧
  ∀ p H3 (ps : List Addr), H2 p = none → Ex H2 H3 → H3 p = some (.lst (ps.map V.ref)) → ps.length = min xs.length ys.length → (∀ (i : Nat) u, ps[i]? = some u → ∃ x y, xs[i]? = some x ∧ ys[i]? = some y ∧ H3 u = some (.tup [x, y])) → Q (.ref p) H3
/-- the rule, to be proved -/
def ZipRule (mg : Str → Option Value) : Prop := ∀ (X : Cx) (e1 e2 : Expr) (ta tb : TE) (p1 p2 q1 q2 : Pos), X.mg = mg → X.calm = true → Room 2 X.A → X.mg "list" = none → X.mg "zip" = none → Gl X "list" → Gl X "zip" → PE X e1 ta → PE X e2 tb →
  starEach [e1, e2] X.env = (false, eval e1 X.env) :: starEach [e2] X.env → starEach [e2] X.env = (false, eval e2 X.env) :: starEach [] X.env →
  starEach [.Call (.Name "zip" p2) [e1, e2] [] q2] X.env = (false, eval (.Call (.Name "zip" p2) [e1, e2] [] q2) X.env) :: starEach [] X.env →
  PE X (.Call (.Name "list" p1) [.Call (.Name "zip" p2) [e1, e2] [] q2] [] q1) (tZipL X.K ta tb)
section
variable {K : PySem.W.Frag} {σ : L2.St} {H : Hp} {a : Addr} {xs ys : List V}
theorem el_prB {tl te : TE} {ps : List Addr} {j1 j2 : Nat} {vs : List Nat} {g : Nat → Bool} (h : Evl.Ev tl σ H (.ref a)) (ha : H a = some (.lst (ps.map V.ref))) (hz : ps.length ≤ 40000)
    (hp : ∀ (i : Nat) u, ps[i]? = some u → ∃ x y, xs[i]? = some x ∧ ys[i]? = some y ∧ H u = some (.tup [x, y])) (hw : ∀ x y, wipe (((wipe σ vs).set j1 (some x)).set j2 (some y)) vs = wipe σ vs)
    (he : ∀ (i : Nat) (x y : V) H1, i < ps.length → Ex H H1 → xs[i]? = some x → ys[i]? = some y → Evl.Ev te (((wipe σ vs).set j1 (some x)).set j2 (some y)) H1 (.bl (g i))) :
    Evl.EvL (tLc (iSeq K tl) (gTup K 2 (gCons (gName j1) (gCons (gName j2) gNil))) tYes te vs) σ H (((List.range ps.length).map g).map V.bl) := fun H0 e0 Q q => h H0 e0 _ fun H1 e1 => by
  let w : Nat → V := fun i => .bl (g i)
  have turn : ∀ (Dl : Addr) (i : Nat) (x : V) (H2 H3 : Hp), i < (ps.map V.ref).length → Cm H1 w Dl i H2 → YAt (ps.map V.ref) i H2 x H3 → gTup K 2 (gCons (gName j1) (gCons (gName j2) gNil)) x (wipe σ vs) H3 fun σ2 H2 => wipe σ2 vs = wipe σ vs ∧ tYes σ2 H2 fun b H3 =>
      if b = true then te σ2 H3 fun y H4 => ∃ acc, H4 Dl = some (.lst acc) ∧ acc.length < sizeLine ∧ Cm H1 w Dl (i + 1) (upd H4 Dl (.lst (acc ++ [y]))) else Cm H1 w Dl (i + 1) H3 := by
    intro Dl i x H2 H3 hi p yp
    obtain ⟨rfl, hu⟩ := yp
    rw [List.length_map] at hi
    obtain ⟨u, hu1, rfl⟩ : ∃ u, ps[i]? = some u ∧ x = .ref u := by
      rw [List.getElem?_map] at hu
      obtain ⟨u, h1, h2⟩ := Option.map_eq_some_iff.mp hu
      exact ⟨u, h1, h2.symm⟩
    obtain ⟨x1, y1, h1, h2, h3⟩ := hp i u hu1
    have eA := (e0.trans e1).trans p.2.1
    refine ⟨u, [x1, y1], rfl, SqT.of (eA _ _ h3), rfl, x1, [y1], rfl, y1, [], rfl, rfl, hw x1 y1, ?_⟩
    exact yes_lc (A := fun H3 => te ((List.set (wipe σ vs) j1 (some x1)).set j2 (some y1)) H3 fun y H4 => ∃ acc, H4 Dl = some (.lst acc) ∧ acc.length < sizeLine ∧ Cm H1 w Dl (i + 1) (upd H4 Dl (.lst (acc ++ [y])))) (B := fun H3 => Cm H1 w Dl (i + 1) H3) <| cm_turn p (by omega) _ (Ex.refl _) (he i x1 y1 _ hi (e0.trans e1) h1 h2)
  have fin : ∀ Dl H2, Cm H1 w Dl (ps.map V.ref).length H2 → Q (.ref Dl) H2 := fun Dl H2 p => by
    obtain ⟨p1, p2, p3⟩ := p
    refine q Dl H2 (Evl.fresh_back e1 p1) (e1.trans p2) ?_
    rw [List.length_map] at p3
    rw [List.map_map]
    exact p3
  have x1 : SqL K H1 a (ps.map V.ref) := SqL.of ((e0.trans e1) _ _ ha)
  refine ⟨a, rfl, .inl ⟨⟨_, x1⟩, fun Dl hD => ?_⟩⟩
  exact lc_it (walk_list (xs := ps.map V.ref)) (Cm H1 w Dl) (cm_0 hD) (fun i H2 _ p => Evl.ex_l p.2.1 x1) (fun i x H2 H3 hi p y => turn Dl i x H2 H3 hi p y) (fun H2 p => fin Dl H2 p)
end
end U
set_option Elab.async false
set_option linter.all false
set_option maxRecDepth 100000
set_option maxHeartbeats 2000000
/-! a zip of iterators of any kind whose pairs are kept: its next, its state, a list grown by it -/
namespace U
open PySem PySem.Spec
section
variable {prog : Program} {w : World} {A : Around} {E : Value → Shared → Prop} {s : Shared} {z TI TO T i1 i2 : Addr} {fp1 fp2 : List Addr} {n1 n2 i : Nat} {P1 P2 : Nat → Value → Prop} {St1 St2 : Nat → Heap → Prop}
theorem zh_item {f : Bool} {oT : Obj} {Q : Value → Shared → Prop} (S : ZipSep2 z TI TO i1 i2 fp1 fp2) (D1 : Draws prog w A i1 fp1 n1 P1 St1) (D2 : Draws prog w A i2 fp2 n2 P2 St2)
    (hz : IsZipHeld s.heap z TI TO T f) (hT : s.heap.get? T = some oT) (hTI : IsTupOf2 s.heap TI (.ref i1) (.ref i2)) (t1 : St1 i s.heap) (t2 : St2 i s.heap) (lt1 : i < n1) (lt2 : i < n2)
    (fin : ∀ x y h' tk, P1 i x → P2 i y → IsZipHeld h' z TI TO T true → St1 (i + 1) h' → St2 (i + 1) h' → IsTupOf2 h' s.heap.objs.size x y → h'.objs.size = s.heap.objs.size + 1 →
      (∀ c o, c ≠ z → c ≠ i1 → c ≠ i2 → s.heap.get? c = some o → h'.get? c = some o) → Q (.ref s.heap.objs.size) { s with heap := h', toks := tk }) :
    wpAny (model prog w) A (Builtin.«zip.__next__» ⟨[.ref z], []⟩) (fun r s' => ∃ v, r = .done (.ret v) ∧ Q v s') E s := by
  obtain ⟨hp, gs, dr, tk0, os⟩ := s
  show wpAny _ _ (field (.ref z) 2 >>= _) _ _ _
  refine wpAny_bind (wpAny_field hz rfl (x := .bool false) rfl ?_)
  show wpAny _ _ (field (.ref z) 3 >>= _) _ _ _
  refine wpAny_bind (wpAny_field hz rfl (x := .ref TI) rfl (wpAny_bind (wpAny_seqItems hTI rfl ?_)))
  refine wpAny_bind (m := Builtin.SmallTypes.ownedTupleIsFree (.ref z)) (wpAny_tupleHeld_zip hz hT fun ha za sa => ?_)
  replace sa : Heap.SameBut z hp ha := sa
  rw [if_neg Bool.false_ne_true]
  refine wpAny_bind ?_
  rw [← Array.forIn_toList]
  simp only [List.forIn_cons, List.forIn_nil]
  refine wpAny_bind (wpAny_bind (wpAny_holding ?_))
  show wpAny _ _ (Builtin.SmallTypes.nextOf (.ref i1) >>= _) _ _ ⟨ha, gs, dr, tk0, os⟩
  refine wpAny_bind (D1.item i _ _ _ lt1 (D1.over t1 sa S.zf1) fun x hb tk1 p1 u1 sb => wpAny_pure (wpAny_pure ?_))
  replace sb : Heap.SameBut i1 ha hb := sb
  refine wpAny_bind (wpAny_bind (wpAny_holding ?_))
  show wpAny _ _ (Builtin.SmallTypes.nextOf (.ref i2) >>= _) _ _ ⟨hb, gs, dr, tk1, os⟩
  refine wpAny_bind (D2.item i _ _ _ lt2 (D2.over (D2.over t2 sa S.zf2) sb S.sep1_2) fun y hc tk2 p2 u2 sc => wpAny_pure (wpAny_pure (wpAny_pure ?_)))
  replace sc : Heap.SameBut i2 hb hc := sc
  show wpAny _ _ (newTuple [x, y] >>= _) _ _ ⟨hc, gs, dr, tk2, os⟩
  refine wpAny_bind (wpAny_newTuple ?_)
  have size : hc.objs.size = hp.objs.size := sc.1.trans (sb.1.trans sa.1)
  have kz : IsZipHeld hc z TI TO T true := sc.extBut _ _ S.zi2 (sb.extBut _ _ S.zi1 za)
  have kk : ∀ c o, c ≠ z → c ≠ i1 → c ≠ i2 → hp.get? c = some o → hc.get? c = some o := fun c o c1 c2 c3 e => sc.extBut _ _ c3 (sb.extBut _ _ c2 (sa.extBut _ _ c1 e))
  have up : ∀ b o, hc.get? b = some o → (hc.push { cls := .type "tuple", data := .seq #[x, y] }).get? b = some o := fun b o e => Heap.get?_push_of_some _ e
  have pr : IsTupOf2 (hc.push { cls := .type "tuple", data := .seq #[x, y] }) hc.objs.size x y := Heap.get?_push_size _ rfl
  have sz : (hc.push { cls := .type "tuple", data := .seq #[x, y] }).objs.size = hc.objs.size + 1 := Heap.size_push ..
  refine wpAny_pure ⟨_, rfl, ?_⟩
  show Q (.ref hc.objs.size) _
  rw [size] at pr sz ⊢
  exact fin x y _ tk2 p1 p2 (up _ _ kz) (D1.frame _ _ _ (D1.over u1 sc S.sep2_1) fun b _ o e => up b o e) (D2.frame _ _ _ u2 fun b _ o e => up b o e) pr sz fun c o c1 c2 c3 e => up c o (kk c o c1 c2 c3 e)
theorem zh_end {f : Bool} {oT : Obj} {Q : Fin → Shared → Prop} (S : ZipSep2 z TI TO i1 i2 fp1 fp2) (D1 : Draws prog w A i1 fp1 n1 P1 St1) (D2 : Draws prog w A i2 fp2 n2 P2 St2)
    (hz : IsZipHeld s.heap z TI TO T f) (hT : s.heap.get? T = some oT) (hTI : IsTupOf2 s.heap TI (.ref i1) (.ref i2)) (t1 : St1 i s.heap) (t2 : St2 i s.heap) (le1 : i ≤ n1) (le2 : i ≤ n2) (hend : i = n1 ∨ i = n2)
    (out : ∀ h' tk e, (∀ c o, c ≠ z → c ≠ i1 → c ≠ i2 → s.heap.get? c = some o → h'.get? c = some o) → (∃ o, h'.get? e = some o ∧ o.cls = .type "StopIteration") → E (.ref e) { s with heap := h', toks := tk }) :
    wpAny (model prog w) A (Builtin.«zip.__next__» ⟨[.ref z], []⟩) Q E s := by
  obtain ⟨hp, gs, dr, tk0, os⟩ := s
  show wpAny _ _ (field (.ref z) 2 >>= _) _ _ _
  refine wpAny_bind (wpAny_field hz rfl (x := .bool false) rfl ?_)
  show wpAny _ _ (field (.ref z) 3 >>= _) _ _ _
  refine wpAny_bind (wpAny_field hz rfl (x := .ref TI) rfl (wpAny_bind (wpAny_seqItems hTI rfl ?_)))
  refine wpAny_bind (m := Builtin.SmallTypes.ownedTupleIsFree (.ref z)) (wpAny_tupleHeld_zip hz hT fun ha za sa => ?_)
  replace sa : Heap.SameBut z hp ha := sa
  rw [if_neg Bool.false_ne_true]
  refine wpAny_bind ?_
  rw [← Array.forIn_toList]
  simp only [List.forIn_cons, List.forIn_nil]
  refine wpAny_bind (wpAny_bind (wpAny_holding ?_))
  show wpAny _ _ (Builtin.SmallTypes.nextOf (.ref i1) >>= _) _ _ ⟨ha, gs, dr, tk0, os⟩
  rcases Nat.lt_or_ge i n1 with lt1 | ge1
  · refine wpAny_bind (D1.item i _ _ _ lt1 (D1.over t1 sa S.zf1) fun x hb tk1 p1 u1 sb => wpAny_pure (wpAny_pure ?_))
    replace sb : Heap.SameBut i1 ha hb := sb
    refine wpAny_bind (wpAny_bind (wpAny_holding ?_))
    show wpAny _ _ (Builtin.SmallTypes.nextOf (.ref i2) >>= _) _ _ ⟨hb, gs, dr, tk1, os⟩
    have e2 : i = n2 := by omega
    subst e2
    refine wpAny_bind (D2.done _ _ _ (D2.over (D2.over t2 sa S.zf2) sb S.sep1_2) fun hc e kc he => ?_)
    exact out hc tk1 e (fun c o c1 c2 c3 q => kc _ _ c3 (sb.extBut _ _ c2 (sa.extBut _ _ c1 q))) he
  · have e1 : i = n1 := by omega
    subst e1
    refine wpAny_bind (D1.done _ _ _ (D1.over t1 sa S.zf1) fun hb e kb he => ?_)
    exact out hb tk0 e (fun c o c1 c2 _ q => kb _ _ c2 (sa.extBut _ _ c1 q)) he
/-- at turn i: fresh, or a pair of it is kept -/
def ZAt (h : Heap) (z TI TO i1 i2 L : Addr) (i : Nat) : Prop := IsTupOf2 h TI (.ref i1) (.ref i2) ∧ ((i = 0 ∧ IsZip h z TI TO .none ∧ ∃ a b, IsTupOf2 h TO a b) ∨ ∃ T f oT, IsZipHeld h z TI TO T f ∧ h.get? T = some oT ∧ L < T)
theorem ZAt.keep {h h' : Heap} {L : Addr} (q : ZAt h z TI TO i1 i2 L i) (k : ∀ b o, b ≠ L → h.get? b = some o → h'.get? b = some o) (nz : z ≠ L) (nI : TI ≠ L) (nO : TO ≠ L) : ZAt h' z TI TO i1 i2 L i := by
  obtain ⟨q0, q⟩ := q
  refine ⟨k _ _ nI q0, ?_⟩
  rcases q with ⟨e, a, x, y, b⟩ | ⟨T, f, oT, a, b, c⟩
  · exact .inl ⟨e, k _ _ nz a, x, y, k _ _ nO b⟩
  · exact .inr ⟨T, f, oT, k _ _ nz a, k _ _ (Nat.ne_of_gt c) b, c⟩
theorem zs_item {L : Addr} {Q : Option Value → Shared → Prop} (S : ZipSep2 z TI TO i1 i2 fp1 fp2) (D1 : Draws prog w A.in1 i1 fp1 n1 P1 St1) (D2 : Draws prog w A.in1 i2 fp2 n2 P2 St2)
    (q : ZAt s.heap z TI TO i1 i2 L i) (hL : L < s.heap.objs.size) (lz : z < L) (l1 : i1 < L) (l2 : i2 < L) (t1 : St1 i s.heap) (t2 : St2 i s.heap) (lt1 : i < n1) (lt2 : i < n2)
    (fin : ∀ x y h' tk, P1 i x → P2 i y → ZAt h' z TI TO i1 i2 L (i + 1) → St1 (i + 1) h' → St2 (i + 1) h' → IsTupOf2 h' s.heap.objs.size x y →
      (∀ c o, c ≠ z → c ≠ TO → c ≠ i1 → c ≠ i2 → s.heap.get? c = some o → h'.get? c = some o) → Q (some (.ref s.heap.objs.size)) { s with heap := h', toks := tk }) :
    wpAny (model prog w) A (pyNext (.ref z)) Q E s := by
  obtain ⟨hTI, q⟩ := q
  rcases q with ⟨_, hz, a, b, hTO⟩ | ⟨T, f, oT, hz, hT, nL⟩
  · refine wpAny_pyNext_zipD2_item S D1 D2 hz hTI hTO t1 t2 lt1 lt2 fun x y h' tk p1 p2 z' o' u1 u2 pr sz k => ?_
    exact fin x y h' tk p1 p2 ⟨k _ _ S.TIz S.TITO S.TIi1 S.TIi2 hTI, .inr ⟨_, false, _, z', pr, hL⟩⟩ u1 u2 pr k
  · have ty : s.TypeIs (.ref z) "zip" := ⟨_, hz, rfl⟩
    unfold pyNext
    refine wpAny_bind (wpAny_attempt (wpAny_callSpecial?_slot (name := Str.ofString "__next__") ty F.slot_zip_next (wpAny_call_entry F.slot_zip_next ty F.entry_zip_next ?_ (F.args_zip_next_1 _))))
    refine zh_item S D1 D2 hz hT hTI t1 t2 lt1 lt2 fun x y h' tk p1 p2 z' u1 u2 pr sz k => wpAny_pure ?_
    exact fin x y h' tk p1 p2 ⟨k _ _ S.TIz S.TIi1 S.TIi2 hTI, .inr ⟨_, true, _, z', k _ _ (Nat.ne_of_gt (Nat.lt_trans lz nL)) (Nat.ne_of_gt (Nat.lt_trans l1 nL)) (Nat.ne_of_gt (Nat.lt_trans l2 nL)) hT, nL⟩⟩ u1 u2 pr fun c o c1 _ c3 c4 e => k c o c1 c3 c4 e
theorem zs_end {L : Addr} {Q : Option Value → Shared → Prop} (S : ZipSep2 z TI TO i1 i2 fp1 fp2) (D1 : Draws prog w A.in1 i1 fp1 n1 P1 St1) (D2 : Draws prog w A.in1 i2 fp2 n2 P2 St2)
    (q : ZAt s.heap z TI TO i1 i2 L i) (t1 : St1 i s.heap) (t2 : St2 i s.heap) (le1 : i ≤ n1) (le2 : i ≤ n2) (hend : i = n1 ∨ i = n2)
    (fin : ∀ h' tk, (∀ c o, c ≠ z → c ≠ TO → c ≠ i1 → c ≠ i2 → s.heap.get? c = some o → h'.get? c = some o) → Q none { s with heap := h', toks := tk }) :
    wpAny (model prog w) A (pyNext (.ref z)) Q E s := by
  obtain ⟨hTI, q⟩ := q
  rcases q with ⟨_, hz, a, b, hTO⟩ | ⟨T, f, oT, hz, hT, nL⟩
  · exact wpAny_pyNext_zipD2_end S D1 D2 hz hTI hTO t1 t2 le1 le2 hend fin
  · have ty : s.TypeIs (.ref z) "zip" := ⟨_, hz, rfl⟩
    unfold pyNext
    refine wpAny_bind (wpAny_attempt (wpAny_callSpecial?_slot (name := Str.ofString "__next__") ty F.slot_zip_next (wpAny_call_entry F.slot_zip_next ty F.entry_zip_next ?_ (F.args_zip_next_1 _))))
    refine zh_end S D1 D2 hz hT hTI t1 t2 le1 le2 hend fun h' tk e k he => ?_
    obtain ⟨o, ho, hc⟩ := he
    refine wpAny_bind (wpAny_isInstance (T := "StopIteration") (b := true) ⟨o, ho, hc⟩ isSubtype_stop ?_)
    exact wpAny_pure (fin _ _ fun c o c1 _ c3 c4 q => k c o c1 c3 c4 q)
end
/-- pairs laid behind lo, one after another -/
structure Prs (P1 P2 : Nat → Value → Prop) (lo : Addr) (h : Heap) (as : List Addr) : Prop where
  rise : as.Pairwise (· < ·)
  above : ∀ a ∈ as, lo < a
  pairs : ∀ (j : Nat) (a : Addr), as[j]? = some a → ∃ x y, P1 j x ∧ P2 j y ∧ IsTupOf2 h a x y
section
variable {prog : Program} {w : World} {A : Around} {s : Shared} {R : Result → Shared → Prop} {z TI TO i1 i2 S : Addr} {fp1 fp2 : List Addr} {n1 n2 : Nat} {P1 P2 : Nat → Value → Prop} {St1 St2 : Nat → Heap → Prop}
theorem zs_loop (Z : ZipSep2 z TI TO i1 i2 fp1 fp2) (D1 : Draws prog w A.in1.in1 i1 fp1 n1 P1 St1) (D2 : Draws prog w A.in1.in1 i2 fp2 n2 P2 St2) (low : ∀ b, b = z ∨ b = TI ∨ b = TO ∨ b = i1 ∨ b = i2 ∨ b ∈ fp1 ∨ b ∈ fp2 → b < S) (hn : n1 ≤ sizeLine) (res : Value) {h0 : Heap}
    (fin : ∀ h' tk acc c as, (∀ b o, b ≠ S → b ≠ z → b ≠ TO → b ≠ i1 → b ≠ i2 → h0.get? b = some o → h'.get? b = some o) → h'.get? S = some { cls := .type "list", dict := none, data := .seq acc c, slots := #[] } → as.length = min n1 n2 → Prs P1 P2 S h' as →
      acc.toList = as.map Value.ref → R (.ok (.ret res)) { s with heap := h', toks := tk }) :
    ∀ (k i : Nat) (h : Heap) (tk c : Nat) (acc : Array Value) (as : List Addr), min n1 n2 - i = k → i ≤ min n1 n2 → ZAt h z TI TO i1 i2 S i → St1 i h → St2 i h → (∀ b o, b ≠ S → b ≠ z → b ≠ TO → b ≠ i1 → b ≠ i2 → h0.get? b = some o → h.get? b = some o) →
      h.get? S = some { cls := .type "list", dict := none, data := .seq acc c, slots := #[] } → acc.toList = as.map Value.ref → as.length = i → Prs P1 P2 S h as →
      codeAny (model prog w) A (.builtin "list.extend.loop" ⟨[.ref S, .ref z, res], []⟩) R { s with heap := h, toks := tk } := by
  have lz := low z (.inl rfl)
  have lTI := low TI (.inr (.inl rfl))
  have lTO := low TO (.inr (.inr (.inl rfl)))
  have l1 := low i1 (.inr (.inr (.inr (.inl rfl))))
  have l2 := low i2 (.inr (.inr (.inr (.inr (.inl rfl)))))
  intro k
  induction k with
  | zero =>
    intro i h tk c acc as hk hi q t1 t2 keep hS hacc hal hG
    have hin : i = min n1 n2 := by omega
    refine codeAny_builtin F.entry_extend_loop ?_
    rw [Around.under_plainId F.plain_extend_loop _]
    show wpAny _ A.in1 (pyNext (.ref z) >>= _) _ _ _
    refine wpAny_bind (zs_end (s := { s with heap := h, toks := tk }) (A := A.in1) Z D1 D2 q t1 t2 (by omega) (by omega) (by omega) fun h' tk' kp => ?_)
    refine wpAny_pure (fin h' tk' acc c as (fun b o b0 b1 b2 b3 b4 e => kp b o b1 b2 b3 b4 (keep b o b0 b1 b2 b3 b4 e)) (kp S _ (Nat.ne_of_gt lz) (Nat.ne_of_gt lTO) (Nat.ne_of_gt l1) (Nat.ne_of_gt l2) hS) (by omega) ⟨hG.rise, hG.above, fun j a hj => ?_⟩ hacc)
    obtain ⟨x, y, e1, e2, e3⟩ := hG.pairs j a hj
    have la := hG.above a (List.mem_of_getElem? hj)
    exact ⟨x, y, e1, e2, kp a _ (Nat.ne_of_gt (Nat.lt_trans lz la)) (Nat.ne_of_gt (Nat.lt_trans lTO la)) (Nat.ne_of_gt (Nat.lt_trans l1 la)) (Nat.ne_of_gt (Nat.lt_trans l2 la)) e3⟩
  | succ k ih =>
    intro i h tk c acc as hk hi q t1 t2 keep hS hacc hal hG
    have hlt : i < min n1 n2 := by omega
    have hsz : acc.size = i := by rw [← Array.length_toList, hacc, List.length_map, hal]
    have hSl : S < h.objs.size := Heap.lt_size hS
    refine codeAny_builtin F.entry_extend_loop ?_
    rw [Around.under_plainId F.plain_extend_loop _]
    show wpAny _ A.in1 (pyNext (.ref z) >>= _) _ _ _
    refine wpAny_bind (zs_item (s := { s with heap := h, toks := tk }) (A := A.in1) (L := S) Z D1 D2 q hSl lz l1 l2 t1 t2 (by omega) (by omega) fun x y h' tk' p1 p2 q' u1 u2 pr kp => ?_)
    dsimp only at pr kp ⊢
    have hS' := kp S _ (Nat.ne_of_gt lz) (Nat.ne_of_gt lTO) (Nat.ne_of_gt l1) (Nat.ne_of_gt l2) hS
    have up : ∀ b o, b ≠ S → h'.get? b = some o → (h'.update S (Obj.mapSeq (·.push (Value.ref h.objs.size)))).get? b = some o := fun b o nb e => (Heap.get?_update_other _ _ (Ne.symm nb)).trans e
    have uf : ∀ b, b < S → ∀ o, h'.get? b = some o → (h'.update S (Obj.mapSeq (·.push (Value.ref h.objs.size)))).get? b = some o := fun b lb o e => up b o (Nat.ne_of_lt lb) e
    show wpAny _ A.in1 (updateSeq S (·.push (Value.ref h.objs.size)) >>= _) _ _ _
    refine wpAny_bind ?_
    refine wpAny_updateSeq hS' rfl (wpAny_pure ⟨plainId_quiet F.plain_extend_loop _, ih (i + 1) _ tk' _ (acc.push (Value.ref h.objs.size)) (as ++ [h.objs.size]) (by omega) hlt (q'.keep up (Nat.ne_of_lt lz) (Nat.ne_of_lt lTI) (Nat.ne_of_lt lTO))
      (D1.frame _ _ _ u1 fun b hb => uf b (low b (.inr (.inr (.inr (.inr (.inr (.inl hb)))))))) (D2.frame _ _ _ u2 fun b hb => uf b (low b (.inr (.inr (.inr (.inr (.inr (.inr hb))))))))
      (fun b o b0 b1 b2 b3 b4 e => up b o b0 (kp b o b1 b2 b3 b4 (keep b o b0 b1 b2 b3 b4 e))) (Heap.get?_update_self _ hS' rfl) (by rw [Array.toList_push, hacc, List.map_append]; rfl) (by rw [List.length_append, hal]; rfl) ⟨?_, ?_, ?_⟩⟩) (by rw [hsz]; omega) (by show (acc.push (Value.ref h.objs.size)).size ≤ sizeLine + 1; rw [Array.size_push, hsz]; omega)
    · refine List.pairwise_append.mpr ⟨hG.rise, List.pairwise_singleton _ _, fun a ha b hb => ?_⟩
      rw [List.mem_singleton.mp hb]
      obtain ⟨j, hj⟩ := List.mem_iff_getElem?.mp ha
      obtain ⟨_, _, _, _, e⟩ := hG.pairs j a hj
      exact Heap.lt_size e
    · intro a ha
      rcases List.mem_append.mp ha with ha | ha
      · exact hG.above a ha
      · rw [List.mem_singleton.mp ha]; exact hSl
    · intro j b hj
      rcases Nat.lt_trichotomy j as.length with g | g | g
      · rw [List.getElem?_append_left g] at hj
        obtain ⟨x', y', e1, e2, e3⟩ := hG.pairs j b hj
        have lb := hG.above b (List.mem_of_getElem? hj)
        exact ⟨x', y', e1, e2, up b _ (Nat.ne_of_gt lb) (kp b _ (Nat.ne_of_gt (Nat.lt_trans lz lb)) (Nat.ne_of_gt (Nat.lt_trans lTO lb)) (Nat.ne_of_gt (Nat.lt_trans l1 lb)) (Nat.ne_of_gt (Nat.lt_trans l2 lb)) e3)⟩
      · subst g
        have eb : h.objs.size = b := by simpa using hj
        subst eb
        exact ⟨x, y, by rw [hal]; exact p1, by rw [hal]; exact p2, up _ _ (Nat.ne_of_gt hSl) pr⟩
      · have hnone : (as ++ [h.objs.size])[j]? = none := List.getElem?_eq_none (by rw [List.length_append, List.length_singleton]; omega)
        rw [hnone] at hj; cases hj
end
end U
set_option Elab.async false
set_option linter.all false
set_option maxRecDepth 100000
set_option maxHeartbeats 2000000
/-! list(zip(a, b)): the call, and the rule -/
namespace U
open PySem PySem.Spec PyProof.Rows L2
theorem zip_lenless : typeLookup (.type "zip") "__len__" = pure none := am_miss_of_fast (by decide +kernel)
theorem zip_hintless : typeLookup (.type "zip") "__length_hint__" = pure none := am_miss_of_fast (by decide +kernel)
section
variable {prog : Program} {w : World} {A : Around} {E : Value → Shared → Prop} {s : Shared} {R : Result → Shared → Prop} {z TI TO i1 i2 S : Addr} {fp1 fp2 : List Addr} {n1 n2 : Nat} {P1 P2 : Nat → Value → Prop} {St1 St2 : Nat → Heap → Prop}
theorem zs_extend (hh : A.handled = none) (Z : ZipSep2 z TI TO i1 i2 fp1 fp2) (D1 : Draws prog w A.in1.in1 i1 fp1 n1 P1 St1) (D2 : Draws prog w A.in1.in1 i2 fp2 n2 P2 St2) (low : ∀ b, b = z ∨ b = TI ∨ b = TO ∨ b = i1 ∨ b = i2 ∨ b ∈ fp1 ∨ b ∈ fp2 → b < S) (hn : n1 ≤ sizeLine) (res : Value) (c0 : Nat)
    (hz : IsZip s.heap z TI TO .none) (hTI : IsTupOf2 s.heap TI (.ref i1) (.ref i2)) (hTO : ∃ a b, IsTupOf2 s.heap TO a b) (t1 : St1 0 s.heap) (t2 : St2 0 s.heap) (hS : s.heap.get? S = some { cls := .type "list", data := .seq #[] c0 })
    (fin : ∀ h' tk acc c as, (∀ b o, b ≠ S → b ≠ z → b ≠ TO → b ≠ i1 → b ≠ i2 → s.heap.get? b = some o → h'.get? b = some o) → h'.get? S = some { cls := .type "list", dict := none, data := .seq acc c, slots := #[] } → as.length = min n1 n2 → Prs P1 P2 S h' as →
      acc.toList = as.map Value.ref → R (.ok (.ret res)) { s with heap := h', toks := tk }) :
    wpAny (model prog w) A.in1 (Builtin.List.listExtendWith (.ref S) (.ref z) res)
      (fun r s' => match r with | .done f => R (.ok f) s' | .again c' => c'.quiet = true ∧ codeAny (model prog w) A c' R s') (fun e s' => R (.error e) s') s := by
  have lz := low z (.inl rfl)
  have ty : s.TypeIs (.ref z) "zip" := ⟨_, hz, rfl⟩
  have run : ∀ (h : Heap) (tk c1 : Nat), (∀ b o, b ≠ S → s.heap.get? b = some o → h.get? b = some o) → h.get? S = some { cls := .type "list", data := .seq #[] c1 } → codeAny (model prog w) A (.builtin "list.extend.loop" ⟨[.ref S, .ref z, res], []⟩) R { s with heap := h, toks := tk } := by
    intro h tk c1 k e
    have kl : ∀ b, b < S → ∀ o, s.heap.get? b = some o → h.get? b = some o := fun b lb o q => k b o (Nat.ne_of_lt lb) q
    refine zs_loop (s := s) (h0 := s.heap) Z D1 D2 low hn res fin _ 0 h tk c1 #[] [] rfl (Nat.zero_le _) ⟨kl _ (low _ (by simp)) _ hTI, .inl ⟨rfl, kl _ lz _ hz, ?_⟩⟩ (D1.frame _ _ _ t1 fun b hb => kl b (low b (by simp [hb]))) (D2.frame _ _ _ t2 fun b hb => kl b (low b (by simp [hb])))
      (fun b o b0 _ _ _ _ q => k b o b0 q) e rfl rfl ⟨List.Pairwise.nil, (fun _ q => nomatch q), fun j a q => by simp at q⟩
    obtain ⟨a, b, q⟩ := hTO
    exact ⟨a, b, kl _ (low _ (by simp)) _ q⟩
  unfold Builtin.List.listExtendWith
  refine wpAny_bind (wpAny_typeOf ty ?_)
  have e1 : Builtin.List.listSameRef (.ref S) (.ref z) = false := by simp [Builtin.List.listSameRef, Nat.ne_of_gt lz]
  have e2 : (Value.type "zip" == Value.type "list") = false := by decide
  have e3 : (Value.type "zip" == Value.type "tuple") = false := by decide
  simp only [e1, e2, e3, Bool.or_false, Bool.false_eq_true, if_false]
  refine wpAny_bind (wpAny_pyIter_zip hz ?_)
  refine wpAny_bind (wpAny_holding ?_)
  unfold Builtin.List.listLengthHint
  refine wpAny_bind (wpAny_specialOf ty zip_lenless ?_)
  show wpAny _ A.in1 (specialOf (Value.ref z) (Str.ofString "__length_hint__") >>= _) _ _ _
  refine wpAny_bind (wpAny_specialOf ty zip_hintless ?_)
  refine wpAny_pure ?_
  refine wpAny_ite_split (fun _ => ?_) (fun _ => wpAny_pure ⟨plainId_quiet F.plain_extend_loop _, run _ _ c0 (fun b o _ e => e) hS⟩)
  refine wpAny_bind (wpAny_rule (wpAny_bind ?_))
  show wpAny _ A.in1 (updateSeq S (·.push .none) >>= fun _ => updateSeq S (·.pop)) _ _ _
  refine wpAny_bind (wpAny_updateSeq hS rfl ?_)
  have g1 := Heap.get?_update_self (Obj.mapSeq (·.push Value.none)) hS rfl
  refine wpAny_updateSeq (hz := by seq_fits) g1 rfl ?_
  have g2 := Heap.get?_update_self (Obj.mapSeq (·.pop)) g1 rfl
  refine wpAny_pure ⟨plainId_quiet F.plain_extend_loop _, run _ _ _ (fun b o nb e => ?_) g2⟩
  exact (Heap.get?_update_other _ _ (Ne.symm nb)).trans ((Heap.get?_update_other _ _ (Ne.symm nb)).trans e)
/-- list(z) -/
theorem zs_call {Q : Value → Shared → Prop} (hh : A.handled = none) (Z : ZipSep2 z TI TO i1 i2 fp1 fp2) (D1 : Draws prog w A.in1.in1.in1 i1 fp1 n1 P1 St1) (D2 : Draws prog w A.in1.in1.in1 i2 fp2 n2 P2 St2) (low : ∀ b, b = z ∨ b = TI ∨ b = TO ∨ b = i1 ∨ b = i2 ∨ b ∈ fp1 ∨ b ∈ fp2 → b < s.heap.objs.size) (hn : n1 ≤ sizeLine)
    (hz : IsZip s.heap z TI TO .none) (hTI : IsTupOf2 s.heap TI (.ref i1) (.ref i2)) (hTO : ∃ a b, IsTupOf2 s.heap TO a b) (t1 : St1 0 s.heap) (t2 : St2 0 s.heap)
    (fin : ∀ h' tk acc c as, (∀ b o, b ≠ z → b ≠ TO → b ≠ i1 → b ≠ i2 → s.heap.get? b = some o → h'.get? b = some o) → h'.get? s.heap.objs.size = some { cls := .type "list", dict := none, data := .seq acc c, slots := #[] } → as.length = min n1 n2 → Prs P1 P2 s.heap.objs.size h' as →
      acc.toList = as.map Value.ref → Q (.ref s.heap.objs.size) { s with heap := h', toks := tk }) :
    wpAny (model prog w) A (call (.type "list") [.ref z]) Q E s := by
  refine callType_codes (Q₁ := fun obj s1 => obj = .ref s.heap.objs.size ∧ s1 = { s with heap := s.heap.push { cls := .type "list", data := .seq #[] } }) F.called_list (F.typeCall_list_1 _) F.entry_list_init (code_list_new _ ⟨rfl, rfl⟩) fun obj s1 q => ?_
  obtain ⟨rfl, rfl⟩ := q
  have hS : (s.heap.push { cls := .type "list", data := .seq #[] }).get? s.heap.objs.size = some { cls := .type "list", data := .seq #[] } := Heap.get?_push_size _ rfl
  refine ⟨⟨_, hS, rfl⟩, F.args_list_init_2 _ _, ?_⟩
  show wpAny _ A.in1.in1 (do let old ← Builtin.List.listItems (.ref s.heap.objs.size); Builtin.List.listUpdate (.ref s.heap.objs.size) (fun _ => #[]); letGo old.toList.reverse; Builtin.List.listExtendWith (.ref s.heap.objs.size) (.ref z) .none) _ _ _
  refine wpAny_bind ?_
  unfold Builtin.List.listItems
  refine wpAny_bind (wpAny_seqItems hS rfl (wpAny_pure ?_))
  show wpAny _ A.in1.in1 (updateSeq s.heap.objs.size (fun _ => #[]) >>= fun _ => letGo (#[] : Array Value).toList.reverse >>= fun _ => Builtin.List.listExtendWith (.ref s.heap.objs.size) (.ref z) .none) _ _ _
  refine wpAny_bind (wpAny_updateSeq hS rfl ?_)
  have hS2 := Heap.get?_update_self (Obj.mapSeq (fun _ => (#[] : Array Value))) hS rfl
  refine wpAny_bind (wpAny_letGo ?_)
  have up : ∀ b o, s.heap.get? b = some o → ((s.heap.push { cls := .type "list", data := .seq #[] }).update s.heap.objs.size (Obj.mapSeq (fun _ => (#[] : Array Value)))).get? b = some o := fun b o e =>
    (Heap.get?_update_other _ _ (Ne.symm (Nat.ne_of_lt (Heap.lt_size e)))).trans (Heap.get?_push_of_some _ e)
  refine zs_extend (s := { s with heap := (s.heap.push { cls := .type "list", data := .seq #[] }).update s.heap.objs.size (Obj.mapSeq (fun _ => (#[] : Array Value))) }) (A := A.in1) hh Z D1 D2 low hn .none _ (up _ _ hz) (up _ _ hTI) (let ⟨a, b, q⟩ := hTO; ⟨a, b, up _ _ q⟩) (D1.frame _ _ _ t1 fun b _ => up b) (D2.frame _ _ _ t2 fun b _ => up b) hS2 fun h' tk acc c as k e l g q => ?_
  exact ⟨rfl, fin h' tk acc c as (fun b o b1 b2 b3 b4 x => k b o (Nat.ne_of_lt (Heap.lt_size x)) b1 b2 b3 b4 (up b o x)) e l g q⟩
end
end U
set_option Elab.async false
set_option linter.all false
set_option maxRecDepth 100000
set_option maxHeartbeats 2000000
namespace U
open PySem PySem.Spec PyProof.Rows L2
open Evl (Ex)
/-- what a list or a tuple is for a zip -/
theorem zip_side {X : Cx} {pins : List (Addr × Obj)} {σ : L2.St} {H : Hp} {s : Shared} {l : Addr} {xs : List V} (I : Inv X pins σ H s) (h : SqL X.K H l xs ∨ SqT X.K H l xs) :
    ∃ (ob : Obj) (Hb : Heap → Prop) (its : List Value), Vals xs its ∧ Begins (.ref l) ob Hb ∧ Hb s.heap ∧ l < s.heap.objs.size ∧ ∀ (it : Addr) (A : Around), A.handled = none → l ≠ it →
      ∃ St : Nat → Heap → Prop, Draws X.prog X.w A it [it, l] its.toArray.size (fun i v => its.toArray[i]? = some v) St ∧ ∀ g : Heap, g.get? it = some ob → (∀ b o, s.heap.get? b = some o → g.get? b = some o) → St 0 g := by
  rcases h with h | h
  · obtain ⟨its, rv, p, _⟩ := I.list h
    refine ⟨_, _, its, rv, begins_list l its.toArray, p.isList, p.lt, fun it A hh ne => ⟨_, Draws.list hh it l ne its.toArray, fun g e k => ⟨⟨_, e, rfl, rfl⟩, p.isList.at fun o q => k l o q⟩⟩⟩
  · obtain ⟨its, rv, p, _⟩ := I.tuple h
    have p' : s.heap.IsTuple l its.toArray := p
    refine ⟨_, _, its, rv, begins_tuple l its.toArray, p', ?_, fun it A hh ne => ⟨_, Draws.tuple hh it l ne its.toArray, fun g e k => ⟨⟨_, e, rfl, rfl⟩, p'.at fun o q => k l o q⟩⟩⟩
    obtain ⟨o, ho, _⟩ := id p'
    exact Heap.lt_size ho
def putP : Hp → List Addr → Nat → (Nat → V × V) → Hp
  | H, [], _, _ => H
  | H, a :: as, i, f => putP (upd H a (.tup [(f i).1, (f i).2])) as (i + 1) f
theorem putP_off {b : Addr} {f : Nat → V × V} : ∀ (as : List Addr) (i : Nat) (H : Hp), b ∉ as → putP H as i f b = H b
  | [], _, _, _ => rfl
  | a :: as, i, H, h => by
    show putP (upd H a _) as (i + 1) f b = H b
    rw [putP_off as _ _ (fun z => h (List.mem_cons_of_mem _ z)), upd_ne (fun z => h (by rw [z]; exact List.mem_cons_self))]
theorem putP_at {f : Nat → V × V} : ∀ (as : List Addr) (i : Nat) (H : Hp), as.Nodup → ∀ (j : Nat) (a : Addr), as[j]? = some a → putP H as i f a = some (.tup [(f (i + j)).1, (f (i + j)).2])
  | [], _, _, _, j, a, h => by simp at h
  | b :: as, i, H, n, 0, a, h => by
    have e : b = a := by simpa using h
    subst e
    show putP (upd H b _) as (i + 1) f b = _
    rw [putP_off as _ _ (List.nodup_cons.mp n).1, upd_same]
    rfl
  | b :: as, i, H, n, j + 1, a, h => by
    have := putP_at (f := f) as (i + 1) (upd H b (.tup [(f i).1, (f i).2])) (List.nodup_cons.mp n).2 j a (by simpa using h)
    rw [show i + (j + 1) = i + 1 + j from by omega]
    exact this
def ZipK (K : PySem.W.Frag) (Q : VK) : List V → Hp → Prop
  | [x, y], H2 => ∃ a b xs ys, x = .ref a ∧ y = .ref b ∧ (SqL K H2 a xs ∨ SqT K H2 a xs) ∧ (SqL K H2 b ys ∨ SqT K H2 b ys) ∧ xs.length ≤ 1000 ∧
    ∀ p H3 (ps : List Addr), H2 p = none → Ex H2 H3 → H3 p = some (.lst (ps.map V.ref)) → ps.length = min xs.length ys.length → (∀ (i : Nat) u, ps[i]? = some u → ∃ x y, xs[i]? = some x ∧ ys[i]? = some y ∧ H3 u = some (.tup [x, y])) → Q (.ref p) H3
  | _, _ => False
theorem zip_args {K : PySem.W.Frag} {ta tb : TE} {σ : L2.St} {H : Hp} {Q : VK} (h : tZipL K ta tb σ H Q) : tCons ta (tCons tb tNil) σ H (ZipK K Q) := h
theorem zipK_two {K : PySem.W.Frag} {Q : VK} {vs : List V} {us : List Value} {H : Hp} (h : ZipK K Q vs H) (r : Vals vs us) : ∃ a b xs ys, vs = [.ref a, .ref b] ∧ us = [.ref a, .ref b] ∧ (SqL K H a xs ∨ SqT K H a xs) ∧ (SqL K H b ys ∨ SqT K H b ys) ∧ xs.length ≤ 1000 ∧
    ∀ p H3 (ps : List Addr), H p = none → Ex H H3 → H3 p = some (.lst (ps.map V.ref)) → ps.length = min xs.length ys.length → (∀ (i : Nat) u, ps[i]? = some u → ∃ x y, xs[i]? = some x ∧ ys[i]? = some y ∧ H3 u = some (.tup [x, y])) → Q (.ref p) H3 := by
  match vs, us, h, r with
  | [], _, h, _ => exact h.elim
  | [_], _, h, _ => exact h.elim
  | _ :: _ :: _ :: _, _, h, _ => exact h.elim
  | [_, _], _, h, .cons ra (.cons rb .nil) =>
    obtain ⟨a, b, xs, ys, ex, ey, q⟩ := h
    subst ex ey
    cases ra
    cases rb
    exact ⟨a, b, xs, ys, rfl, rfl, q⟩
theorem zip_sep (I l1 l2 : Nat) (h1 : l1 < I) (h2 : l2 < I) : ZipSep2 (I + 4) (I + 2) (I + 3) I (I + 1) [I, l1] [I + 1, l2] := by
  have w : ∀ {m n : Nat}, (m < n ∨ n < m) → (show Addr from m) ≠ n := fun h e => by
    have e' : (show Nat from _) = _ := e
    rcases h with h | h
    · exact Nat.ne_of_lt h e
    · exact Nat.ne_of_gt h e
  constructor <;> (try simp only [List.mem_cons, List.mem_nil_iff, List.not_mem_nil, or_false, not_or, true_or]) <;> (try constructor) <;> (refine w ?_; omega)
theorem gD {xs : List V} {i : Nat} (h : i < xs.length) : xs.getD i .non = xs[i] := by simp [List.getD, h]
theorem zip_rule {mg : Str → Option Value} : ZipRule mg := by
  intro X e1 e2 ta tb p1 p2 q1 q2 hmg hc hr ml mz gl gz h1 h2 hs1 hs2 hs3
  refine ⟨fun pins s σ H Q I hq => ?_⟩
  refine wpAny_Call_Name_kw (ld_blt I gl ml PyProof.Rows.boot_list ?_)
  refine PyProof.Rows.callWith_type1 ?_ hs3 rfl
  rw [hs3]
  show wpAny _ _ (spliced ((false, eval (.Call (.Name "zip" p2) [e1, e2] [] q2) X.env) :: backTo q1 (starEach [] X.env))) _ _ s
  refine Calls.spliced_cons ?_
  have pa : PA X [e1, e2] (tCons ta (tCons tb tNil)) := pa_cons h1 (pa_cons h2 pa_nil hs2) hs1
  refine wpAny_Call_Name_kw (ld_blt I gz mz PyProof.Rows.boot_zip ?_)
  refine PyProof.Rows.callWith_type1 (thn (pa.run q2 pins s σ H (ZipK X.K Q) I (zip_args hq)) fun us s1 ⟨vs, H1, I1, r1, q1⟩ => ?_) hs1 (by rw [hs2]; rfl)
  obtain ⟨a, b, xs, ys, e1, e2, qa, qb, lx, q⟩ := zipK_two q1 r1
  subst e1 e2
  obtain ⟨o1, B1, its1, rv1, b1, hb1, la, dr1⟩ := zip_side I1 qa
  obtain ⟨o2, B2, its2, rv2, b2, hb2, lb, dr2⟩ := zip_side I1 qb
  refine zip_begins2 b1 b2 hb1 hb2 fun h' hz hTI hTO g1 g2 hsz hk => ?_
  have I2 : Inv X pins σ H1 { s1 with heap := h' } := I1.kept (t' := s1.toks) hk
  refine Calls.spliced_nil ?_
  have hh : X.A.in1.in1.in1.handled = none := I1.ok.hd hc
  obtain ⟨St1, D1, z1⟩ := dr1 s1.heap.objs.size X.A.in1.in1.in1 hh (Nat.ne_of_lt la)
  obtain ⟨St2, D2, z2⟩ := dr2 (s1.heap.objs.size + 1) X.A.in1.in1.in1 hh (Nat.ne_of_lt (Nat.lt_succ_of_lt lb))
  have S := zip_sep s1.heap.objs.size a b la lb
  refine zs_call (s := { s1 with heap := h' }) (I1.ok.hd hc) S D1 D2 ?_ ?_ hz hTI ⟨_, _, hTO⟩ (z1 h' g1 hk) (z2 h' g2 hk) fun h2 tk acc cp as kp hS hl hG hacc => ?_
  · intro c e
    show c < h'.objs.size
    rw [hsz]
    have z : ∀ {m n : Nat}, m < n → (show Addr from m) < n := fun h => h
    simp only [List.mem_cons, List.mem_nil_iff, List.not_mem_nil, or_false] at e
    have l5 : s1.heap.objs.size < s1.heap.objs.size + 5 := Nat.lt_add_of_pos_right (by decide)
    rcases e with e | e | e | e | e | (e | e) | e | e
    · rw [e]; exact Nat.add_lt_add_left (by decide) _
    · rw [e]; exact Nat.add_lt_add_left (by decide) _
    · rw [e]; exact Nat.add_lt_add_left (by decide) _
    · rw [e]; exact l5
    · rw [e]; exact Nat.add_lt_add_left (by decide) _
    · rw [e]; exact l5
    · rw [e]; exact Nat.lt_trans la l5
    · rw [e]; exact Nat.add_lt_add_left (by decide) _
    · rw [e]; exact Nat.lt_trans lb l5
  · have := rv1.length
    show its1.toArray.size ≤ sizeLine
    rw [sizeLine_eq]
    simp
    omega
  have n1 := rv1.length
  have n2 := rv2.length
  have hl' : as.length = min xs.length ys.length := by rw [hl]; simp; omega
  dsimp only at hS hG kp
  let f : Nat → V × V := fun i => (xs.getD i .non, ys.getD i .non)
  let H' : Hp := putP (upd H1 h'.objs.size (.lst (as.map V.ref))) as 0 f
  have nd : as.Nodup := List.Pairwise.imp (fun {a b} (h : a < b) => Nat.ne_of_lt h) hG.rise
  have nS : h'.objs.size ∉ as := fun z => Nat.lt_irrefl _ (hG.above _ z)
  have newS : H1 h'.objs.size = none := I2.hok.fresh (Nat.le_refl _)
  have new : ∀ t ∈ as, H1 t = none := fun t ht => I2.hok.fresh (Nat.le_of_lt (hG.above t ht))
  have atP : ∀ (j : Nat) (t : Addr), as[j]? = some t → H' t = some (.tup [xs.getD j .non, ys.getD j .non]) := fun j t ht => by
    have := putP_at (f := f) as 0 (upd H1 h'.objs.size (.lst (as.map V.ref))) nd j t ht
    rw [Nat.zero_add] at this
    exact this
  have atS : H' h'.objs.size = some (.lst (as.map V.ref)) := by
    show putP _ as 0 f h'.objs.size = _
    rw [putP_off as _ _ nS, upd_same]
  have off : ∀ c, c ∉ as → c ≠ h'.objs.size → H' c = H1 c := fun c c1 c2 => by
    show putP _ as 0 f c = _
    rw [putP_off as _ _ c1, upd_ne c2]
  have up : ∀ c u, H1 c = some u → H' c = some u := fun c u e => by
    rw [off c (fun z => by rw [new c z] at e; cases e) (fun z => by rw [z, newS] at e; cases e)]
    exact e
  have low : ∀ c o, h'.get? c = some o → c ∉ as ∧ c ≠ h'.objs.size := fun c o e => ⟨fun z => absurd (Heap.lt_size e) (Nat.not_lt.mpr (Nat.le_of_lt (hG.above c z))), Nat.ne_of_lt (Heap.lt_size e)⟩
  have fp : ∀ c ∈ [s1.heap.objs.size + 4, s1.heap.objs.size + 3, s1.heap.objs.size, s1.heap.objs.size + 1], FpOk X pins H1 c := fun c hc' => by
    have e' : c = s1.heap.objs.size + 4 ∨ c = s1.heap.objs.size + 3 ∨ c = s1.heap.objs.size ∨ c = s1.heap.objs.size + 1 := by simpa using hc'
    have le : s1.heap.objs.size ≤ c := by
      rcases e' with z | z | z | z
      · rw [z]; exact Nat.le_add_right _ _
      · rw [z]; exact Nat.le_add_right _ _
      · rw [z]; exact Nat.le_refl _
      · rw [z]; exact Nat.le_add_right _ _
    exact I1.fpOk le (I1.hok.fresh le)
  have kp' : ∀ c o, c ∉ [s1.heap.objs.size + 4, s1.heap.objs.size + 3, s1.heap.objs.size, s1.heap.objs.size + 1] → h'.get? c = some o → h2.get? c = some o := fun c o nc e =>
    kp c o (fun z => nc (by rw [z]; simp)) (fun z => nc (by rw [z]; simp)) (fun z => nc (by rw [z]; simp)) (fun z => nc (by rw [z]; simp)) e
  have nit : ∀ c u, H1 c = some u → c ∉ [s1.heap.objs.size + 4, s1.heap.objs.size + 3, s1.heap.objs.size, s1.heap.objs.size + 1] := fun c u e z => by
    have := (fp c z).1
    rw [this] at e
    cases e
  have J : Inv X pins σ H' { s1 with heap := h2, toks := tk } := by
    refine I2.call' (s' := { s1 with heap := h2, toks := tk }) (ch := [s1.heap.objs.size + 4, s1.heap.objs.size + 3, s1.heap.objs.size, s1.heap.objs.size + 1]) rfl
      ⟨fun c o e _ _ nc => kp' c o nc e, fun c o e _ _ nc => ⟨o.slots, kp' c o nc e⟩, fun c o e n _ => ?_, fun c o e nc => ⟨o, kp' c o nc e⟩, fun c _ e => up c _ e, fun c _ _ e => up c _ e, fun c ps e => ⟨#[], by rw [up c _ e]; simp⟩⟩ (fun c u e => ?_) I2.bare fun c hc' => ⟨(fp c hc').2.2.2.1, (fp c hc').2.1, (fp c hc').2.2.2.2.1, (fp c hc').2.2.2.2.2⟩
    · obtain ⟨z1, z2⟩ := low c o e
      rw [off c z1 z2]
      exact n
    · by_cases hb : c ∈ as
      · obtain ⟨j, ej⟩ := List.mem_iff_getElem?.mp hb
        have lt : j < as.length := (List.getElem?_eq_some_iff.mp ej).1
        rw [atP j c ej] at e
        cases e
        obtain ⟨u1, u2, f1, f2, f3⟩ := hG.pairs j c ej
        have lx : j < xs.length := by omega
        have ly : j < ys.length := by omega
        obtain ⟨w1, g1, r1⟩ := rv1.get (List.getElem?_eq_getElem lx)
        obtain ⟨w2, g2, r2⟩ := rv2.get (List.getElem?_eq_getElem ly)
        have d1 : w1 = u1 := by
          have : its1[j]? = some u1 := by simpa using f1
          rw [g1] at this
          exact Option.some.inj this
        have d2 : w2 = u2 := by
          have : its2[j]? = some u2 := by simpa using f2
          rw [g2] at this
          exact Option.some.inj this
        subst d1 d2
        refine ⟨by show 2 ≤ sizeLine; decide, [w1, w2], .cons ?_ (.cons ?_ .nil), ⟨_, f3, rfl, _, rfl⟩⟩
        · rw [gD lx]; exact r1
        · rw [gD ly]; exact r2
      · by_cases hb2 : c = h'.objs.size
        · rw [hb2] at e ⊢
          rw [atS] at e
          cases e
          refine ⟨by rw [List.length_map, sizeLine_eq]; omega, acc.toList, cp, by rw [hacc]; exact LiI.vals_refs as, ?_⟩
          rw [Array.toArray_toList]
          exact hS
        · rw [off c hb hb2] at e
          refine (I2.hok c u e).stay (fun d v y q => kp' d v ?_ q) (fun d y => up d _ y) fun d xs y => up d _ y
          rcases y with y | y
          · rw [y]; exact nit c u e
          · exact nit d _ y
  exact ⟨.ref h'.objs.size, H', J, rfl, q _ H' as newS up atS hl' fun i u e => by
    have lt : i < as.length := (List.getElem?_eq_some_iff.mp e).1
    have lx : i < xs.length := by omega
    have ly : i < ys.length := by omega
    refine ⟨xs[i], ys[i], List.getElem?_eq_getElem lx, List.getElem?_eq_getElem ly, ?_⟩
    rw [atP i u e, gD lx, gD ly]⟩
end U
set_option Elab.async false
set_option linter.all false
set_option maxRecDepth 100000
set_option maxHeartbeats 4000000
/-! the law's view of rows, and its small defs -/
namespace U
open PySem PySem.Spec PyProof.Rows L2
open Evl (Ex)
open C8 (Met Mak pe_mt pe_mt0 pe_mk)
abbrev s_is_list : Stmt := top 68
abbrev sc_is_list_N : List Str := ["_law_thing"]
theorem sc_is_list : FnScope sc_is_list_N ["_law_thing"] (defScope s_is_list) := ⟨rfl, rfl, rfl, by decide +kernel, rfl, by decide +kernel, by decide +kernel⟩
abbrev s_is_int : Stmt := top 69
abbrev sc_is_int_N : List Str := ["_law_thing"]
theorem sc_is_int : FnScope sc_is_int_N ["_law_thing"] (defScope s_is_int) := ⟨rfl, rfl, rfl, by decide +kernel, rfl, by decide +kernel, by decide +kernel⟩
abbrev s_headed : Stmt := top 70
abbrev sc_headed_N : List Str := ["_law_thing", "_law_word", "_law_many"]
theorem sc_headed : FnScope sc_headed_N ["_law_thing", "_law_word", "_law_many"] (defScope s_headed) := ⟨rfl, rfl, rfl, by decide +kernel, rfl, by decide +kernel, by decide +kernel⟩
abbrev s_is_pairs : Stmt := top 71
abbrev sc_is_pairs_N : List Str := ["_law_thing", "_law_pair"]
theorem sc_is_pairs : FnScope sc_is_pairs_N ["_law_thing"] (defScope s_is_pairs) := ⟨rfl, rfl, rfl, by decide +kernel, rfl, by decide +kernel, by decide +kernel⟩
abbrev s_labelled : Stmt := top 72
abbrev sc_labelled_N : List Str := ["_law_view_here", "_law_number", "_law_label"]
theorem sc_labelled : FnScope sc_labelled_N ["_law_view_here", "_law_number", "_law_label"] (defScope s_labelled) := ⟨rfl, rfl, rfl, by decide +kernel, rfl, by decide +kernel, by decide +kernel⟩
abbrev s_around : Stmt := top 76
abbrev sc_around_N : List Str := ["_law_view_here", "_law_at", "_law_pair", "_law_entry"]
theorem sc_around : FnScope sc_around_N ["_law_view_here", "_law_at", "_law_pair", "_law_entry"] (defScope s_around) := ⟨rfl, rfl, rfl, by decide +kernel, rfl, by decide +kernel, by decide +kernel⟩
abbrev s_view : Stmt := top 79
abbrev sc_view_N : List Str := ["_law_rows_here", "_law_number", "_law_row"]
theorem sc_view : FnScope sc_view_N ["_law_rows_here"] (defScope s_view) := ⟨rfl, rfl, rfl, by decide +kernel, rfl, by decide +kernel, by decide +kernel⟩
structure TxV (mg : Str → Option Value) : Prop extends TxF mg where
  m_any : mg "any" = none
  m_dict : mg "dict" = none
  m_str : mg "str" = none
  m_sorted : mg "sorted" = none
def ixd : Nat → List V → List (L2.Key × V)
  | _, [] => []
  | k, v :: vs => (Sum.inl (k : Int), v) :: ixd (k + 1) vs
def LV (K : PySem.W.Frag) (H : Hp) (a : Addr) (rs : List Rw2) : Prop := ∃ vs, H a = some (.dK (ixd 0 vs)) ∧ DpAll K H vs (rs.map rD)
theorem valV_ixd : ∀ (vs : List V) (k : Nat) (i : Int), valV (ixd k vs) (Sum.inl i : L2.Key) = if (k : Int) ≤ i then vs[(i - k).toNat]? else none
  | [], k, i => by
    show none = _
    split <;> simp
  | v :: vs, k, i => by
    show valV ((Sum.inl (k : Int), v) :: ixd (k + 1) vs) (Sum.inl i : L2.Key) = _
    by_cases hk : (k : Int) = i
    · rw [valV_pos (show ((Sum.inl (k : Int), v) : L2.Key × V).1 = Sum.inl i by rw [hk]), if_pos (by omega), ← hk]
      simp
    · rw [valV_neg (show ¬ ((Sum.inl (k : Int), v) : L2.Key × V).1 = Sum.inl i from fun z => hk (by injection z)), valV_ixd vs (k + 1) i]
      by_cases hlt : ((k + 1 : Nat) : Int) ≤ i
      · have e1 : (i - (k : Int)).toNat = (i - ((k + 1 : Nat) : Int)).toNat + 1 := by omega
        rw [if_pos hlt, if_pos (by omega), e1, List.getElem?_cons_succ]
      · rw [if_neg hlt, if_neg (by omega)]
def inR (rs : List Rw2) (i : Int) : Bool := decide (0 ≤ i) && decide (i.toNat < rs.length)
def lab (rs : List Rw2) (i : Int) (b : Bool) : Bool := (vget (vwF b 0 rs) i).isSome
theorem rat_get {rs : List Rw2} {i : Nat} (h : i < rs.length) : rs[i]? = some (rat rs i) := by
  rw [List.getElem?_eq_getElem h]
  simp [rat, List.getD_eq_getElem?_getD, List.getElem?_eq_getElem h]
theorem vget_rat {rs : List Rw2} {i : Int} {b : Bool} : vget (vwF b 0 rs) i = if inR rs i && (rat rs i.toNat).2 == b then some (rat rs i.toNat).1 else none := by
  rw [vwF_get]
  by_cases h0 : 0 ≤ i
  · rw [if_pos (by omega)]
    by_cases hl : i.toNat < rs.length
    · have e : (i - ((0 : Nat) : Int)).toNat = i.toNat := by omega
      rw [e, rat_get hl]
      simp only [inR, h0, hl, decide_true, Bool.true_and]
      by_cases hb : (rat rs i.toNat).2 = b <;> simp [hb]
    · have e : (i - ((0 : Nat) : Int)).toNat = i.toNat := by omega
      rw [e, List.getElem?_eq_none (by omega)]
      simp [inR, hl]
  · rw [if_neg (by omega)]
    simp [inR, h0]
theorem lab_eq {rs : List Rw2} {i : Int} {b : Bool} : lab rs i b = (inR rs i && (rat rs i.toNat).2 == b) := by
  unfold lab
  rw [vget_rat]
  cases inR rs i && (rat rs i.toNat).2 == b <;> rfl
theorem lab_get {rs : List Rw2} {i : Int} {b : Bool} (h : lab rs i b = true) : inR rs i = true ∧ (rat rs i.toNat).2 = b ∧ vget (vwF b 0 rs) i = some (rat rs i.toNat).1 := by
  have h2 := h
  rw [lab_eq] at h
  have h3 := vget_rat (rs := rs) (i := i) (b := b)
  rw [h] at h3
  obtain ⟨h4, h5⟩ := Bool.and_eq_true_iff.mp h
  exact ⟨h4, by simpa using h5, h3⟩
section
variable {P : Program} {w : World} {K : PySem.W.Frag} {mg : Str → Option Value} {base : Heap} {C : Addr} {c : KC} {σ : L2.St} {H H' : Hp} {a : Addr} {rs : List Rw2} {te td : TE} {i : Int}
theorem LV.up (h : LV K H a rs) (e : Ex H H') : LV K H' a rs := by
  obtain ⟨vs, h1, h2⟩ := h
  exact ⟨vs, e _ _ h1, h2.up e⟩
theorem lv_len {vs : List V} (h : DpAll K H vs (rs.map rD)) : vs.length = rs.length := by
  have := dpa_len h
  rw [List.length_map] at this
  exact this
theorem ev_lin (h : Evl.Ev te σ H (.int i)) (hd : Evl.Ev td σ H (.ref a)) (hv : LV K H a rs) : Evl.Ev (tDIn te td) σ H (.bl (inR rs i)) := fun H1 e Q q =>
  h H1 e _ fun H2 e2 => hd H2 (e.trans e2) _ fun H3 e3 => by
    obtain ⟨vs, h1, h2⟩ := hv.up ((e.trans e2).trans e3)
    have es : (valV (ixd 0 vs) (Sum.inl i : L2.Key)).isSome = inR rs i := by
      rw [valV_ixd]
      have hl := lv_len h2
      unfold inR
      by_cases h0 : 0 ≤ i
      · have e : (i - ((0 : Nat) : Int)).toNat = i.toNat := by omega
        rw [if_pos (by omega), e]
        by_cases hlt : i.toNat < rs.length
        · rw [List.getElem?_eq_getElem (by omega)]
          simp [h0, hlt]
        · rw [List.getElem?_eq_none (by omega)]
          simp [hlt]
      · rw [if_neg (by omega)]
        simp [h0]
    refine ⟨a, valV (ixd 0 vs) (Sum.inl i : L2.Key), rfl, DGet.k (k := Sum.inl i) h1, ?_⟩
    rw [es]
    exact q H3 (e2.trans e3)
theorem lv_row (hv : LV K H a rs) (hi : inR rs i = true) : ∃ t pv, SqT K H t [pv, .bl (rat rs i.toNat).2] ∧ Dp K H pv (ptD (rat rs i.toNat).1) ∧ ∀ (te td : TE) (σ : L2.St) (H1 : Hp), Ex H H1 → Evl.Ev td σ H1 (.ref a) → Evl.Ev te σ H1 (.int i) → Evl.Ev (tDGet td te) σ H1 (.ref t) := by
  obtain ⟨vs, h1, h2⟩ := hv
  obtain ⟨h0, hl⟩ := Bool.and_eq_true_iff.mp hi
  have h0 : 0 ≤ i := by simpa using h0
  have hl : i.toNat < rs.length := by simpa using hl
  have hl2 := lv_len h2
  obtain ⟨v, hv⟩ : ∃ v, vs[i.toNat]? = some v := ⟨_, List.getElem?_eq_getElem (by omega)⟩
  obtain ⟨d, hd1, hd2⟩ := dpa_get h2 hv
  rw [List.getElem?_map, rat_get hl] at hd1
  cases hd1
  obtain ⟨t, pv, rfl, hs, hp⟩ := dp_row hd2
  refine ⟨t, pv, hs, hp, fun te td σ H1 e ha hi H2 e2 Q q => ha H2 e2 _ fun H3 e3 => hi H3 (e2.trans e3) _ fun H4 e4 => ⟨a, .ref t, rfl, ?_, q H4 (e3.trans e4)⟩⟩
  have := DGet.k (k := (Sum.inl i : L2.Key)) ((((e.trans e2).trans e3).trans e4) _ _ h1)
  rw [valV_ixd, if_pos (by omega), show (i - ((0 : Nat) : Int)).toNat = i.toNat by omega, hv] at this
  exact this
theorem ok_law_is_int {f : Addr} {fd : FuncData} (F : Fun K "_law_is_int" "_law_is_int" s_is_int f fd) (T : TxF mg) : FnOk P w K mg base CX0 1 f fd ["_law_thing"] (spB K isI) := by
  refine F.ok sc_is_int (fun vs H Q E h => ?_) (fun cdv A outer s H vs Q E hr h => ?_)
  · obtain ⟨_, _, rfl, _⟩ := h
    rfl
  · obtain ⟨v, d, rfl, hd, k⟩ := h
    refine ⟨_, (pss_one (ps_ret (pe_and (pe_callB call_isi (by rfl) T.m_isinstance (by decide +kernel) (pa_cons (pv 0) (pa_cons (pe_bltn (v := .ty "int") (by rfl) T.m_int (by decide +kernel) rfl) pa_nil))) (pe_one (pe_not (pe_callB call_isi (by rfl) T.m_isinstance (by decide +kernel) (pa_cons (pv 0) (pa_cons (pe_bltn (v := .ty "bool") (by rfl) T.m_bool (by decide +kernel) rfl) pa_nil)))))))), ?_⟩
    have v0 : Evl.Ev (tVar 0) (start sc_is_int_N [v]) H v := Evl.ev_var rfl
    cases d with
    | none => exact Evl.s_ret (v := .bl false) (Evl.ev_andV (a := false) (b := false) (evq_isi v0 hd isi_NoneType_int) fun z => nomatch z) k
    | bool z => exact Evl.s_ret (v := .bl false) (Evl.ev_andV (a := true) (b := false) (evq_isi v0 hd isi_bool_int) fun _ => Evl.ev_notV (a := true) (evq_isi v0 hd isi_bool_bool)) k
    | int z => exact Evl.s_ret (v := .bl true) (Evl.ev_andV (a := true) (b := true) (evq_isi v0 hd isi_int_int) fun _ => Evl.ev_notV (a := false) (evq_isi v0 hd isi_int_bool)) k
    | str z' => exact Evl.s_ret (v := .bl false) (Evl.ev_andV (a := false) (b := false) (evq_isi v0 hd isi_str_int) fun z => nomatch z) k
    | list ds => exact Evl.s_ret (v := .bl false) (Evl.ev_andV (a := false) (b := false) (evq_isi v0 hd isi_list_int) fun z => nomatch z) k
    | tuple ds => exact Evl.s_ret (v := .bl false) (Evl.ev_andV (a := false) (b := false) (evq_isi v0 hd isi_tuple_int) fun z => nomatch z) k
    | dict z' => exact Evl.s_ret (v := .bl false) (Evl.ev_andV (a := false) (b := false) (evq_isi v0 hd isi_dict_int) fun z => nomatch z) k
theorem ok_law_is_list {f : Addr} {fd : FuncData} (F : Fun K "_law_is_list" "_law_is_list" s_is_list f fd) (T : TxF mg) : FnOk P w K mg base CX0 1 f fd ["_law_thing"] (spB K isR) := by
  refine F.ok sc_is_list (fun vs H Q E h => ?_) (fun cdv A outer s H vs Q E hr h => ?_)
  · obtain ⟨_, _, rfl, _⟩ := h
    rfl
  · obtain ⟨v, d, rfl, hd, k⟩ := h
    refine ⟨_, (pss_one (ps_ret (pe_callB call_isiT (by rfl) T.m_isinstance (by decide +kernel) (pa_cons (pv 0) (pa_cons (pe_tup (pa_cons (pe_bltn (v := .ty "list") (by rfl) T.m_list (by decide +kernel) rfl) (pa_cons (pe_bltn (v := .ty "tuple") (by rfl) T.m_tuple (by decide +kernel) rfl) pa_nil))) pa_nil))))), ?_⟩
    have v0 : Evl.Ev (tVar 0) (start sc_is_list_N [v]) H v := Evl.ev_var rfl
    cases d with
    | none => exact Evl.s_ret (evq_isi2 v0 hd isi_NoneType_list_tuple) k
    | bool z => exact Evl.s_ret (evq_isi2 v0 hd isi_bool_list_tuple) k
    | int z => exact Evl.s_ret (evq_isi2 v0 hd isi_int_list_tuple) k
    | str z => exact Evl.s_ret (evq_isi2 v0 hd isi_str_list_tuple) k
    | list ds => exact Evl.s_ret (evq_isi2 v0 hd isi_list_list_tuple) k
    | tuple ds => exact Evl.s_ret (evq_isi2 v0 hd isi_tuple_list_tuple) k
    | dict z => exact Evl.s_ret (evq_isi2 v0 hd isi_dict_list_tuple) k
def spHd (K : PySem.W.Frag) : Sp := fun vs H Q _ => ∃ v z ds, vs = [v, .str z, .int (ds.length : Nat)] ∧ Dp K H v (.tuple (.str z :: ds)) ∧ ∀ H', Ex H H' → Q (.bl true) H'
theorem ok_headed {f : Addr} {fd : FuncData} (F : Fun K "_law_headed" "_law_headed" s_headed f fd) (T : TxV mg) (D_is_list : DefAt P w K mg base "_law_is_list" 1 ["_law_thing"] (spB K isR)) : FnOk P w K mg base CX0 2 f fd ["_law_thing", "_law_word", "_law_many"] (spHd K) := by
  refine F.ok sc_headed (fun vs H Q E h => ?_) (fun cdv A outer s H vs Q E hr h => ?_)
  · obtain ⟨_, _, _, rfl, _⟩ := h
    rfl
  · obtain ⟨v, z, ds, rfl, hd, k⟩ := h
    refine ⟨_, (pss_one (ps_ret (pe_and (pe_callD D_is_list (by first | exact hr | exact hr.mono (by decide) | exact hr.mono (by omega)) (by rfl) (pa_cons (pv 0) pa_nil)) (pe_and (pe_cmpR op_eq (pe_callB call_len_seq (by rfl) T.m_len (by decide +kernel) (pa_cons (pv 0) pa_nil)) (pe_op op_add (pv 2) pe_int) (nomark _)) (pe_and (pe_callB call_isi (by rfl) T.m_isinstance (by decide +kernel) (pa_cons (pe_ix ix_tup (pv 0) pe_int (fun _ _ => rfl)) (pa_cons (pe_bltn (v := .ty "str") (by rfl) T.m_str (by decide +kernel) rfl) pa_nil))) (pe_one (pe_cmpR op_eq (pe_ix ix_tup (pv 0) pe_int (fun _ _ => rfl)) (pv 1) (nomark _)))))))), ?_⟩
    have hd0 := hd
    cases hd with
    | @tup t xs _ hs ha =>
      cases ha with
      | @cons x xs' d ds' hx ha =>
        cases hx
        have lx := dpa_len ha
        have v0 : Evl.Ev (tVar 0) (start sc_headed_N [.ref t, .str z, .int (ds.length : Nat)]) H (.ref t) := Evl.ev_var rfl
        have e0 : Evl.Ev (tOp (rIxT K) (tVar 0) (tC (.int 0))) (start sc_headed_N [.ref t, .str z, .int (ds.length : Nat)]) H (.str z) := Evl.ev_op v0 Evl.ev_c (Evl.rv_ixT hs (atI_nat (j := 0) rfl))
        refine Evl.s_ret (Evl.ev_is (Evl.ev_andV (a := true) (b := true) (Evl.ev_is (ev_spB v0 hd0) rfl) fun _ => Evl.ev_andV (a := true) (b := true) (Evl.ev_is (Evl.ev_op (ev_lenS v0 (.inr hs)) (Evl.ev_op (Evl.ev_var (v := .int (ds.length : Nat)) rfl) (Evl.ev_c (v := .int 1)) (Evl.rv_I0 (g := fun i j => .int (i + j)))) (Evl.rv_eq rfl)) ?_) fun _ => Evl.ev_andV (a := true) (b := true) (ev_isi e0 (.str z) isi_str_str) fun _ => Evl.ev_is (Evl.ev_op e0 (Evl.ev_var (v := .str z) rfl) (Evl.rv_eq rfl)) (by simp)) rfl) k
        rw [List.length_cons, lx]
        simp
def spLb (K : PySem.W.Frag) : Sp := fun vs H Q _ => ∃ a i b rs, vs = [.ref a, .int i, .bl b] ∧ LV K H a rs ∧ ∀ H', Ex H H' → Q (.bl (lab rs i b)) H'
theorem ok_labelled {f : Addr} {fd : FuncData} (F : Fun K "_law_labelled" "_law_labelled" s_labelled f fd) (D_is_int : DefAt P w K mg base "_law_is_int" 1 ["_law_thing"] (spB K isI)) : FnOk P w K mg base CX0 2 f fd ["_law_view_here", "_law_number", "_law_label"] (spLb K) := by
  refine F.ok sc_labelled (fun vs H Q E h => ?_) (fun cdv A outer s H vs Q E hr h => ?_)
  · obtain ⟨_, _, _, _, rfl, _⟩ := h
    rfl
  · obtain ⟨a, i, b, rs, rfl, hv, k⟩ := h
    refine ⟨_, (pss_one (ps_ret (pe_and (pe_callD D_is_int (by first | exact hr | exact hr.mono (by decide) | exact hr.mono (by omega)) (by rfl) (pa_cons (pv 1) pa_nil)) (pe_and (pe_cmp (pc_din (Nat.lt_of_le_of_lt (Nat.add_le_add_left (by decide : 1 ≤ 64) _) hr.units) (pv 1) (pv 0)) (by rfl)) (pe_one (pe_cmpR op_eq (pe_ix ix_tup (pe_dget (Nat.lt_of_le_of_lt (Nat.add_le_add_left (by decide : 1 ≤ 64) _) hr.units) (pv 0) (pv 1) (fun _ _ => rfl)) pe_int (fun _ _ => rfl)) (pv 2) (nomark _))))))), ?_⟩
    have v1 : Evl.Ev (tVar 1) (start sc_labelled_N [.ref a, .int i, .bl b]) H (.int i) := Evl.ev_var rfl
    have v0 : Evl.Ev (tVar 0) (start sc_labelled_N [.ref a, .int i, .bl b]) H (.ref a) := Evl.ev_var rfl
    refine Evl.s_ret (Evl.ev_is (Evl.ev_andV (a := true) (b := inR rs i && (rat rs i.toNat).2 == b) (Evl.ev_is (ev_spB v1 (.int i)) rfl) fun _ => Evl.ev_andV (a := inR rs i) (b := (rat rs i.toNat).2 == b) (ev_lin v1 v0 hv) fun hi => ?_) (by rw [lab_eq]; rfl)) k
    obtain ⟨t, pv, hs, _, eg⟩ := lv_row hv hi
    refine Evl.ev_is (Evl.ev_op (Evl.ev_op (eg _ _ _ _ (Ex.refl _) v0 v1) (Evl.ev_c (v := .int 1)) (Evl.rv_ixT hs rfl)) (Evl.ev_var (v := .bl b) rfl) (Evl.rv_eq rfl)) (congrArg V.bl ?_)
    cases (rat rs i.toNat).2 <;> cases b <;> rfl
theorem ev_lab {tl : TE} {b : Bool} (hd : Evl.Ev td σ H (.ref a)) (h : Evl.Ev te σ H (.int i)) (hb : Evl.Ev tl σ H (.bl b)) (hv : LV K H a rs) : Evl.Ev (tCallD (spLb K) (tCons td (tCons te (tCons tl tNil)))) σ H (.bl (lab rs i b)) :=
  ev_callD (Evl.ea_cons hd (Evl.ea_cons h (Evl.ea_cons hb Evl.ea_nil))) fun H1 e1 Q q => ⟨a, i, b, rs, rfl, hv.up e1, q⟩
def prD (q : Int × Int) : PyData := .tuple [.int q.1, .int q.2]
theorem dp_pr {v : V} {q : Int × Int} (h : Dp K H v (prD q)) : ∃ t, v = .ref t ∧ SqT K H t [.int q.1, .int q.2] := by
  cases h with
  | @tup t xs _ hs ha =>
    cases ha with
    | cons h1 ha =>
      cases ha with
      | cons h2 ha =>
        cases ha
        cases h1
        cases h2
        exact ⟨t, rfl, hs⟩
def spPa (K : PySem.W.Frag) : Sp := fun vs H Q _ => ∃ v, ∃ qs : List (Int × Int), vs = [v] ∧ Dp K H v (.list (qs.map prD)) ∧ qs.length ≤ 1000 ∧ ∀ H', Ex H H' → Q (.bl true) H'
theorem all_true {α : Type} {f : α → Bool} (hf : ∀ x, f x = true) : ∀ l : List α, ((l.map f).all id) = true
  | [] => rfl
  | x :: l => by
    rw [List.map_cons, List.all_cons, all_true hf l, hf]
    rfl
theorem ok_is_pairs {f : Addr} {fd : FuncData} (F : Fun K "_law_is_pairs" "_law_is_pairs" s_is_pairs f fd) (T : TxV mg) (D_is_list : DefAt P w K mg base "_law_is_list" 1 ["_law_thing"] (spB K isR)) (D_is_int : DefAt P w K mg base "_law_is_int" 1 ["_law_thing"] (spB K isI)) : FnOk P w K mg base CX0 2 f fd ["_law_thing"] (spPa K) := by
  refine F.ok sc_is_pairs (fun vs H Q E h => ?_) (fun cdv A outer s H vs Q E hr h => ?_)
  · obtain ⟨_, _, rfl, _⟩ := h
    rfl
  · obtain ⟨v, qs, rfl, hd, hz, k⟩ := h
    refine ⟨_, (pss_cons (ps_if (PW.pt (pw_or (pt_not (pt_val (pe_callD D_is_list (by first | exact hr | exact hr.mono (by decide) | exact hr.mono (by omega)) (by rfl) (pa_cons (pv 0) pa_nil)))) (pw_or1 (pt_not (pt_val (pe_callB (cr_all rfl) (by rfl) T.m_all (by decide +kernel) (pa_cons (pe_lc (own := [("_law_pair", 1)]) (g := gName 1) (tt := tYes) (te := tAndV (tCallD (spB K isR) (tCons (tVar 1) tNil)) (tOp rEq (tCB (fun xs H Q => ∃ p ys, xs = [.ref p] ∧ (SqL K H p ys ∨ SqT K H p ys) ∧ Q (.int ys.length) H) (tCons (tVar 1) tNil)) (tC (.int 2)))) (by rfl) sc_is_pairs.nd (pi_seq (pv 0)) (blkOk_by (N := sc_is_pairs_N) (sc := defScope s_is_pairs) (by decide +kernel)) (fun _ _ _ _ _ => (pg_name (i := 1) sc_is_pairs.nd rfl (by first | exact Or.inl rfl | exact Or.inr rfl))) (fun _ _ _ _ _ => pts_nil) (fun _ _ _ _ _ => (pe_and (pe_callD D_is_list (by first | exact hr | exact hr.mono (by decide) | exact hr.mono (by omega)) (by rfl) (pa_cons (pv 1) pa_nil)) (pe_one (pe_cmpR op_eq (pe_callB call_len_seq (by rfl) T.m_len (by decide +kernel) (pa_cons (pv 1) pa_nil)) pe_int (nomark _)))))) pa_nil))))))) (pss_one (ps_ret pe_bl)) pss_nil)
    (pss_one (ps_ret (pe_callB (cr_all rfl) (by rfl) T.m_all (by decide +kernel) (pa_cons (pe_lc (own := [("_law_pair", 1)]) (g := gName 1) (tt := tYes) (te := tAndV (tCallD (spB K isI) (tCons (tOp (rIxT K) (tVar 1) (tC (.int 0))) tNil)) (tCallD (spB K isI) (tCons (tOp (rIxT K) (tVar 1) (tC (.int 1))) tNil))) (by rfl) sc_is_pairs.nd (pi_seq (pv 0)) (blkOk_by (N := sc_is_pairs_N) (sc := defScope s_is_pairs) (by decide +kernel)) (fun _ _ _ _ _ => (pg_name (i := 1) sc_is_pairs.nd rfl (by first | exact Or.inl rfl | exact Or.inr rfl))) (fun _ _ _ _ _ => pts_nil) (fun _ _ _ _ _ => (pe_and (pe_callD D_is_int (by first | exact hr | exact hr.mono (by decide) | exact hr.mono (by omega)) (by rfl) (pa_cons (pe_ix ix_tup (pv 1) pe_int (fun _ _ => rfl)) pa_nil)) (pe_one (pe_callD D_is_int (by first | exact hr | exact hr.mono (by decide) | exact hr.mono (by omega)) (by rfl) (pa_cons (pe_ix ix_tup (pv 1) pe_int (fun _ _ => rfl)) pa_nil)))))) pa_nil))))), ?_⟩
    have hd0 := hd
    cases hd with
    | @lst t xs _ hs ha =>
      have v0 : ∀ H1, Evl.Ev (tVar 0) (start sc_is_pairs_N [.ref t]) H1 (.ref t) := fun H1 => Evl.ev_var rfl
      have hfit : (qs.map prD).length ≤ 40000 := by rw [List.length_map]; omega
      refine Evl.q_when (b := false) (Evl.et_is (Evl.et_or (a := false) (b := false) (Evl.et_is (Evl.et_not (Evl.et_B (ev_spB (v0 H) hd0))) rfl) fun _ => Evl.et_is (Evl.et_not (Evl.et_B (ev_all (bs := (qs.map prD).map fun _ => true) (el_seqB (f := fun _ => true) (v0 H) (.inl hs) ha hfit (fun _ => rfl) fun x d H1 hm e1 hx => ?_)))) ?_) rfl) (fun z => nomatch z) (fun _ H1 e1 => ?_)
      · obtain ⟨q, _, rfl⟩ := List.mem_map.mp hm
        obtain ⟨u, rfl, hu⟩ := dp_pr hx
        exact Evl.ev_is (Evl.ev_andV (a := true) (b := true) (Evl.ev_is (ev_spB (Evl.ev_var (v := .ref u) rfl) hx) rfl) fun _ => Evl.ev_is (Evl.ev_op (ev_lenS (Evl.ev_var (v := .ref u) rfl) (.inr hu)) Evl.ev_c (Evl.rv_eq rfl)) (by simp)) rfl
      · rw [all_true fun _ => rfl]
        rfl
      · refine Evl.s_ret (Evl.ev_is (ev_all (bs := (qs.map prD).map fun _ => true) (el_seqB (f := fun _ => true) (v0 H1) (.inl (Evl.ex_l e1 hs)) (ha.up e1) hfit (fun _ => rfl) fun x d H2 hm e2 hx => ?_)) (congrArg V.bl (all_true (fun _ => rfl) _))) fun H2 e2 => k H2 (e1.trans e2)
        obtain ⟨q, _, rfl⟩ := List.mem_map.mp hm
        obtain ⟨u, rfl, hu⟩ := dp_pr hx
        exact Evl.ev_is (Evl.ev_andV (a := true) (b := true) (Evl.ev_is (ev_spB (Evl.ev_op (Evl.ev_var (v := .ref u) rfl) (Evl.ev_c (v := .int 0)) (Evl.rv_ixT hu rfl)) (.int _)) rfl) fun _ => Evl.ev_is (ev_spB (Evl.ev_op (Evl.ev_var (v := .ref u) rfl) (Evl.ev_c (v := .int 1)) (Evl.rv_ixT hu rfl)) (.int _)) rfl) rfl
def spAr (K : PySem.W.Frag) : Sp := fun vs H Q _ => ∃ a j v e q rs p, vs = [.ref a, .int ((j : Nat) : Int), v, .int e] ∧ LV K H a rs ∧ Dp K H v (prD q) ∧ (∀ r ∈ rs, r.1.length = p) ∧ j < p ∧ ∀ H', Ex H H' → Q (.bl (encl (vwF true 0 rs) j e (prD q))) H'
theorem encl_lab {rs : List Rw2} {j : Nat} {e : Int} {q : Int × Int} : encl (vwF true 0 rs) j e (prD q) = ((lab rs q.1 true && lab rs q.2 true) && (decide ((rat rs q.1.toNat).1.getD j 0 ≤ e) && decide (e ≤ (rat rs q.2.toNat).1.getD j 0))) := by
  have h0 : encl (vwF true 0 rs) j e (prD q) = ((true && (lab rs q.1 true && (lab rs q.2 true && true))) && (decide (((vget (vwF true 0 rs) q.1).getD []).getD j 0 ≤ e) && decide (e ≤ ((vget (vwF true 0 rs) q.2).getD []).getD j 0))) := rfl
  rw [h0]
  cases h1 : lab rs q.1 true with
  | false => rfl
  | true =>
    cases h2 : lab rs q.2 true with
    | false => rfl
    | true =>
      rw [(lab_get h1).2.2, (lab_get h2).2.2]
      rfl
theorem rat_mem {rs : List Rw2} {i : Int} (h : inR rs i = true) : rat rs i.toNat ∈ rs := by
  obtain ⟨_, hl⟩ := Bool.and_eq_true_iff.mp h
  exact List.mem_of_getElem? (rat_get (by simpa using hl))
theorem ok_around {f : Addr} {fd : FuncData} (F : Fun K "_law_around" "_law_around" s_around f fd) (D_labelled : DefAt P w K mg base "_law_labelled" 2 ["_law_view_here", "_law_number", "_law_label"] (spLb K)) : FnOk P w K mg base CX0 3 f fd ["_law_view_here", "_law_at", "_law_pair", "_law_entry"] (spAr K) := by
  refine F.ok sc_around (fun vs H Q E h => ?_) (fun cdv A outer s H vs Q E hr h => ?_)
  · obtain ⟨_, _, _, _, _, _, _, rfl, _⟩ := h
    rfl
  · obtain ⟨a, j, v, e, q, rs, p, rfl, hv, hd, hp, hj, k⟩ := h
    refine ⟨_, (pss_cons (ps_if (PW.pt (pw_or (pt_not (pt_val (pe_callD D_labelled (by first | exact hr | exact hr.mono (by decide) | exact hr.mono (by omega)) (by rfl) (pa_cons (pv 0) (pa_cons (pe_ix ix_tup (pv 2) pe_int (fun _ _ => rfl)) (pa_cons pe_bl pa_nil)))))) (pw_or1 (pt_not (pt_val (pe_callD D_labelled (by first | exact hr | exact hr.mono (by decide) | exact hr.mono (by omega)) (by rfl) (pa_cons (pv 0) (pa_cons (pe_ix ix_tup (pv 2) pe_int (fun _ _ => rfl)) (pa_cons pe_bl pa_nil))))))))) (pss_one (ps_ret pe_bl)) pss_nil)
    (pss_one (ps_ret (pe_chain op_le op_le (pe_ix ix_tup (pe_ix ix_tup (pe_dget (Nat.lt_of_le_of_lt (Nat.add_le_add_left (by decide : 1 ≤ 64) _) hr.units) (pv 0) (pe_ix ix_tup (pv 2) pe_int (fun _ _ => rfl)) (fun _ _ => rfl)) pe_int (fun _ _ => rfl)) (pv 1) (fun _ _ => rfl)) (pv 3) (pe_ix ix_tup (pe_ix ix_tup (pe_dget (Nat.lt_of_le_of_lt (Nat.add_le_add_left (by decide : 1 ≤ 64) _) hr.units) (pv 0) (pe_ix ix_tup (pv 2) pe_int (fun _ _ => rfl)) (fun _ _ => rfl)) pe_int (fun _ _ => rfl)) (pv 1) (fun _ _ => rfl)))))), ?_⟩
    obtain ⟨t, rfl, ht⟩ := dp_pr hd
    have v0 : ∀ H1, Evl.Ev (tVar 0) (start sc_around_N [.ref a, .int (j : Int), .ref t, .int e]) H1 (.ref a) := fun H1 => Evl.ev_var rfl
    have w0 : ∀ H1, Ex H H1 → Evl.Ev (tOp (rIxT K) (tVar 2) (tC (.int 0))) (start sc_around_N [.ref a, .int (j : Int), .ref t, .int e]) H1 (.int q.1) := fun H1 e1 => Evl.ev_op (Evl.ev_var (v := .ref t) rfl) Evl.ev_c (Evl.rv_ixT (Evl.ex_t e1 ht) rfl)
    have w1 : ∀ H1, Ex H H1 → Evl.Ev (tOp (rIxT K) (tVar 2) (tC (.int 1))) (start sc_around_N [.ref a, .int (j : Int), .ref t, .int e]) H1 (.int q.2) := fun H1 e1 => Evl.ev_op (Evl.ev_var (v := .ref t) rfl) Evl.ev_c (Evl.rv_ixT (Evl.ex_t e1 ht) rfl)
    refine Evl.q_when (b := !(lab rs q.1 true && lab rs q.2 true)) (Evl.et_is (Evl.et_or (a := !lab rs q.1 true) (b := !lab rs q.2 true) (Evl.et_not (Evl.et_B (ev_lab (v0 H) (w0 H (Ex.refl _)) Evl.ev_c hv))) fun z => Evl.et_not (Evl.et_B (ev_lab (v0 H) (w1 H (Ex.refl _)) Evl.ev_c hv))) (by simp)) (fun z H1 e1 => ?_) (fun z H1 e1 => ?_)
    · refine Evl.s_ret (v := .bl false) Evl.ev_c fun H2 e2 => ?_
      have := k H2 (e1.trans e2)
      rw [encl_lab, notT z] at this
      exact this
    · have zz := notF z
      obtain ⟨z1, z2⟩ := Bool.and_eq_true_iff.mp zz
      obtain ⟨i1, _, _⟩ := lab_get z1
      obtain ⟨i2, _, _⟩ := lab_get z2
      have ent : ∀ {te : TE} {i : Int}, Evl.Ev te (start sc_around_N [.ref a, .int (j : Int), .ref t, .int e]) H1 (.int i) → inR rs i = true → Evl.Ev (tOp (rIxT K) (tOp (rIxT K) (tDGet (tVar 0) te) (tC (.int 0))) (tVar 1)) (start sc_around_N [.ref a, .int (j : Int), .ref t, .int e]) H1 (.int ((rat rs i.toNat).1.getD j 0)) := fun {te i} h g => by
        obtain ⟨u, pv, hs, hpv, eg⟩ := lv_row (hv.up e1) g
        have lp := hp _ (rat_mem g)
        refine ev_ent (Evl.ev_op (eg _ _ _ _ (Ex.refl _) (v0 H1) h) (Evl.ev_c (v := .int 0)) (Evl.rv_ixT hs rfl)) hpv (Evl.ev_var (v := .int (j : Int)) rfl) (by omega) ?_
        rw [show ((j : Nat) : Int).toNat = j by omega, List.getD_eq_getElem?_getD, List.getElem?_eq_getElem (by omega)]
        rfl
      refine Evl.s_ret (v := .bl (decide ((rat rs q.1.toNat).1.getD j 0 ≤ e) && decide (e ≤ (rat rs q.2.toNat).1.getD j 0))) (ev_chain (k := decide ((rat rs q.1.toNat).1.getD j 0 ≤ e)) (ent (w0 H1 e1) i1) (Evl.ev_var (v := .int e) rfl) (Evl.rv_I0 (g := fun a b => .bl (decide (a ≤ b)))) (fun _ => ent (w1 H1 e1) i2) (fun z => ?_) (fun z => by rw [z]; rfl)) fun H2 e2 => ?_
      · rw [z, Bool.true_and]
        exact Evl.rv_I0 (g := fun a b => .bl (decide (a ≤ b)))
      · have := k H2 (e1.trans e2)
        rw [encl_lab, zz] at this
        exact this
end
end U
set_option Elab.async false
set_option linter.all false
set_option maxRecDepth 100000
set_option maxHeartbeats 4000000
/-! lists of new tuples; _law_view, _law_shows_turns -/
namespace U
open PySem PySem.Spec PyProof.Rows L2
open Evl (Ex)
open C8 (Met Mak pe_mt pe_mt0 pe_mk)
abbrev s_shows_turns : Stmt := top 77
abbrev sc_shows_turns_N : List Str := ["_law_spec", "_law_view_here", "_law_numbers", "_law_rows_here", "_law_pairs", "_law_number", "_law_one", "_law_two"]
theorem sc_shows_turns : FnScope sc_shows_turns_N ["_law_spec", "_law_view_here", "_law_numbers"] (defScope s_shows_turns) := ⟨rfl, rfl, rfl, by decide +kernel, rfl, by decide +kernel, by decide +kernel⟩
def isIn (rs : List Rw2) : PyData → Bool
  | .int i => inR rs i
  | _ => false
def Cn (H : Hp) (f : Nat → List V) (Dl : Addr) (i : Nat) (H' : Hp) : Prop := H Dl = none ∧ Ex H H' ∧ ∃ ps : List Addr, ps.length = i ∧ H' Dl = some (.lst (ps.map V.ref)) ∧ ∀ (j : Nat) u, ps[j]? = some u → H' u = some (.tup (f j))
def EvN (te : TE) (σ : L2.St) (H : Hp) (n : Nat) (f : Nat → List V) : Prop := ∀ H1, Ex H H1 → ∀ Q : VK, (∀ Dl H2 (ps : List Addr), H1 Dl = none → Ex H1 H2 → ps.length = n → H2 Dl = some (.lst (ps.map V.ref)) → (∀ (j : Nat) u, ps[j]? = some u → H2 u = some (.tup (f j))) → Q (.ref Dl) H2) → te σ H1 Q
section
variable {P : Program} {w : World} {K : PySem.W.Frag} {mg : Str → Option Value} {base : Heap} {σ σ2 : L2.St} {H H' : Hp} {a Dl : Addr} {xs : List V} {te tl : TE} {ta : TA} {f : Nat → List V} {i : Nat}
theorem cn_0 (h : H Dl = none) : Cn H f Dl 0 (upd H Dl (.lst [])) := ⟨h, Ex.new h, [], rfl, upd_same, fun j u z => by simp at z⟩
theorem cn_turn (p : Cn H f Dl i H') (hi : i < 50000) (H2 : Hp) (e2 : Ex H' H2) (he : Evl.EvU te σ2 H (f i)) :
    te σ2 H2 fun y H4 => ∃ acc, H4 Dl = some (.lst acc) ∧ acc.length < sizeLine ∧ Cn H f Dl (i + 1) (upd H4 Dl (.lst (acc ++ [y]))) := by
  obtain ⟨p1, p2, ps, p3, p4, p5⟩ := p
  refine he H2 (p2.trans e2) _ fun r H4 hr e4 hr2 => ⟨_, e4 Dl _ (e2 Dl _ p4), Evl.sz_lt (by rw [List.length_map]; omega), p1, Evl.Ex.mut ((p2.trans e2).trans e4) p1, ps ++ [r], by rw [List.length_append, p3]; rfl, ?_, fun j u hj => ?_⟩
  · rw [upd_same, List.map_append]
    rfl
  · have hD4 : H4 Dl = some (.lst (ps.map V.ref)) := e4 Dl _ (e2 Dl _ p4)
    have key : H4 u = some (.tup (f j)) := by
      by_cases hlt : j < ps.length
      · rw [List.getElem?_append_left hlt] at hj
        exact e4 _ _ (e2 _ _ (p5 j u hj))
      · rw [List.getElem?_append_right (by omega)] at hj
        have hj0 : j = i := by
          rcases Nat.lt_or_ge (j - ps.length) 1 with h | h
          · omega
          · rw [List.getElem?_eq_none (by simpa using h)] at hj
            cases hj
        subst hj0
        rw [p3, Nat.sub_self] at hj
        cases hj
        exact hr2
    have nD : u ≠ Dl := fun z => by rw [z, hD4] at key; cases key
    rw [upd_ne nD]
    exact key
theorem eln_seq {j : Nat} {vs : List Nat} (h : Evl.Ev tl σ H (.ref a)) (hx : SqL K H a xs ∨ SqT K H a xs) (hz : xs.length ≤ 40000) (hw : ∀ x, wipe ((wipe σ vs).set j (some x)) vs = wipe σ vs)
    (he : ∀ (i : Nat) (x : V) H1, Ex H H1 → xs[i]? = some x → Evl.EvU te ((wipe σ vs).set j (some x)) H1 (f i)) : EvN (tLc (iSeq K tl) (gName j) tYes te vs) σ H xs.length f := fun H0 e0 Q q => h H0 e0 _ fun H1 e1 => by
  have turn : ∀ (Dl : Addr) (i : Nat) (x : V) (H2 H3 : Hp), i < xs.length → Cn H1 f Dl i H2 → YAt xs i H2 x H3 → gName j x (wipe σ vs) H3 fun σ2 H2 => wipe σ2 vs = wipe σ vs ∧ tYes σ2 H2 fun b H3 =>
      if b = true then te σ2 H3 fun y H4 => ∃ acc, H4 Dl = some (.lst acc) ∧ acc.length < sizeLine ∧ Cn H1 f Dl (i + 1) (upd H4 Dl (.lst (acc ++ [y]))) else Cn H1 f Dl (i + 1) H3 := by
    intro Dl i x H2 H3 hi p yp
    obtain ⟨rfl, hu⟩ := yp
    refine ⟨hw x, yes_lc (A := fun H3 => te ((wipe σ vs).set j (some x)) H3 fun y H4 => ∃ acc, H4 Dl = some (.lst acc) ∧ acc.length < sizeLine ∧ Cn H1 f Dl (i + 1) (upd H4 Dl (.lst (acc ++ [y])))) (B := fun H3 => Cn H1 f Dl (i + 1) H3) ?_⟩
    exact cn_turn p (by omega) _ (Ex.refl _) (he i x _ (e0.trans e1) hu)
  have fin : ∀ Dl H2, Cn H1 f Dl xs.length H2 → Q (.ref Dl) H2 := fun Dl H2 p => by
    obtain ⟨p1, p2, ps, p3, p4, p5⟩ := p
    exact q Dl H2 ps (Evl.fresh_back e1 p1) (e1.trans p2) p3 p4 p5
  refine ⟨a, rfl, ?_⟩
  rcases hx with x1 | x1
  · exact .inl ⟨⟨xs, Evl.ex_l (e0.trans e1) x1⟩, fun Dl hD => lc_it (walk_list (xs := xs)) (Cn H1 f Dl) (cn_0 hD) (fun i H2 _ p => Evl.ex_l ((e0.trans e1).trans p.2.1) x1) (fun i x H2 H3 hi p y => turn Dl i x H2 H3 hi p y) (fun H2 p => fin Dl H2 p)⟩
  · exact .inr ⟨⟨xs, Evl.ex_t (e0.trans e1) x1⟩, fun Dl hD => lc_it (walk_tup (xs := xs)) (Cn H1 f Dl) (cn_0 hD) (fun i H2 _ p => Evl.ex_t ((e0.trans e1).trans p.2.1) x1) (fun i x H2 H3 hi p y => turn Dl i x H2 H3 hi p y) (fun H2 p => fin Dl H2 p)⟩
theorem eln_enum {i1 i2 : Nat} {vs : List Nat} (h : Evl.EvA ta σ H [.ref a]) (hx : SqL K H a xs ∨ SqT K H a xs) (hz : xs.length ≤ 40000) (hw : ∀ x y, wipe (((wipe σ vs).set i1 (some x)).set i2 (some y)) vs = wipe σ vs)
    (he : ∀ (i : Nat) (x : V) H1, Ex H H1 → xs[i]? = some x → Evl.EvU te (((wipe σ vs).set i1 (some (.int (i : Int)))).set i2 (some x)) H1 (f i)) : EvN (tLc (iEnumA K ta) (gTup K 2 (gCons (gName i1) (gCons (gName i2) gNil))) tYes te vs) σ H xs.length f := fun H0 e0 Q q => h H0 e0 _ fun H1 e1 => by
  have turn : ∀ (Dl : Addr) (i : Nat) (x : V) (H2 H3 : Hp), i < xs.length → Cn H1 f Dl i H2 → YPair (fun i => some (.int (i : Nat))) (fun i => xs[i]?) i H2 x H3 → gTup K 2 (gCons (gName i1) (gCons (gName i2) gNil)) x (wipe σ vs) H3 fun σ2 H2 => wipe σ2 vs = wipe σ vs ∧ tYes σ2 H2 fun b H3 =>
      if b = true then te σ2 H3 fun y H4 => ∃ acc, H4 Dl = some (.lst acc) ∧ acc.length < sizeLine ∧ Cn H1 f Dl (i + 1) (upd H4 Dl (.lst (acc ++ [y]))) else Cn H1 f Dl (i + 1) H3 := by
    intro Dl i x H2 H3 hi p yp
    obtain ⟨T, u, w, rfl, hT, rfl, hu, hw'⟩ := yp
    cases hu
    refine ⟨T, [.int (i : Int), w], rfl, SqT.of upd_same, rfl, .int (i : Int), [w], rfl, w, [], rfl, rfl, hw _ w, ?_⟩
    exact yes_lc (A := fun H3 => te ((List.set (wipe σ vs) i1 (some (.int (i : Int)))).set i2 (some w)) H3 fun y H4 => ∃ acc, H4 Dl = some (.lst acc) ∧ acc.length < sizeLine ∧ Cn H1 f Dl (i + 1) (upd H4 Dl (.lst (acc ++ [y])))) (B := fun H3 => Cn H1 f Dl (i + 1) H3) <| cn_turn p (by omega) _ (Ex.new hT) (he i w _ (e0.trans e1) hw')
  have fin : ∀ Dl H2, Cn H1 f Dl xs.length H2 → Q (.ref Dl) H2 := fun Dl H2 p => by
    obtain ⟨p1, p2, ps, p3, p4, p5⟩ := p
    exact q Dl H2 ps (Evl.fresh_back e1 p1) (e1.trans p2) p3 p4 p5
  rcases hx with x1 | x1
  · exact ⟨a, xs, rfl, .inl ⟨Evl.ex_l (e0.trans e1) x1, fun Dl hD => lc_it (walk_enum (xs := xs)) (Cn H1 f Dl) (cn_0 hD) (fun i H2 _ p => Evl.ex_l ((e0.trans e1).trans p.2.1) x1) (fun i x H2 H3 hi p y => turn Dl i x H2 H3 hi p y) (fun H2 p => fin Dl H2 p)⟩⟩
  · exact ⟨a, xs, rfl, .inr ⟨Evl.ex_t (e0.trans e1) x1, fun Dl hD => lc_it (walk_enumT (xs := xs)) (Cn H1 f Dl) (cn_0 hD) (fun i H2 _ p => Evl.ex_t ((e0.trans e1).trans p.2.1) x1) (fun i x H2 H3 hi p y => turn Dl i x H2 H3 hi p y) (fun H2 p => fin Dl H2 p)⟩⟩
theorem q_asgN {n : Nat} {D : Ends} {tz : TS} (h : EvN te σ H n f) (k : ∀ Dl H2 (ps : List Addr), H Dl = none → Ex H H2 → ps.length = n → H2 Dl = some (.lst (ps.map V.ref)) → (∀ (j : Nat) u, ps[j]? = some u → H2 u = some (.tup (f j))) → tz D (σ.set i (some (.ref Dl))) H2) : tSeq (tAsg te (gName i)) tz D σ H := h H (Ex.refl _) _ k
theorem q_asgZ {tb : TE} {ys : List V} {D : Ends} {tz : TS} (h1 : Evl.Ev te σ H (.ref a)) (hx : SqL K H a xs) (h2 : Evl.EvL tb σ H ys) (hz : xs.length ≤ 1000)
    (k : ∀ p H3 (ps : List Addr), H p = none → Ex H H3 → H3 p = some (.lst (ps.map V.ref)) → ps.length = min xs.length ys.length → (∀ (i : Nat) u, ps[i]? = some u → ∃ x y, xs[i]? = some x ∧ ys[i]? = some y ∧ H3 u = some (.tup [x, y])) → tz D (σ.set i (some (.ref p))) H3) : tSeq (tAsg (tZipL K te tb) (gName i)) tz D σ H :=
  h1 H (Ex.refl _) _ fun H3 e3 => h2 H3 e3 _ fun D2 H4 hD2 e4 hl4 => ⟨a, D2, xs, ys, rfl, rfl, .inl (Evl.ex_l (e3.trans e4) hx), .inl (SqL.of hl4), hz, fun p H5 qs hp5 e5 hl5 hq hu5 => k p H5 qs (Evl.fresh_back (e3.trans e4) hp5) ((e3.trans e4).trans e5) hl5 hq hu5⟩
theorem ret_cb {r : List V → Hp → VK → Prop} {D : Ends} (h : te σ H fun x H1 => r [x] H1 D.rt) : tRet (tCB r (tCons te tNil)) D σ H := h
theorem ixd_keys : ∀ (vs : List V) (k : Nat), (ixd k vs).map (·.1) = ((List.range vs.length).map fun i => (Sum.inl ((k + i : Nat) : Int) : L2.Key))
  | [], _ => rfl
  | v :: vs, k => by
    show Sum.inl (k : Int) :: (ixd (k + 1) vs).map (·.1) = _
    rw [ixd_keys vs (k + 1), List.length_cons, List.range_succ_eq_map, List.map_cons, List.map_map]
    congr 1
    exact List.map_congr_left fun i _ => by
      show (Sum.inl (((k + 1) + i : Nat) : Int) : L2.Key) = Sum.inl ((k + (i + 1) : Nat) : Int)
      rw [show k + 1 + i = k + (i + 1) by omega]
theorem ixd_nd (vs : List V) : ((ixd 0 vs).map (·.1)).Nodup := by
  rw [ixd_keys]
  exact List.Pairwise.map _ (fun x y h z => h (by injection z with z; omega)) List.nodup_range
theorem ixd_paired {G : Addr → V → Nat → Prop} : ∀ (ps : List Addr) (vs : List V) (k : Nat), ps.length = vs.length → (∀ (j : Nat) u, ps[j]? = some u → SqT K H u [.int ((k + j : Nat) : Int), vs.getD j .non]) → Paired (fun p kv => SqT K H p [kV kv.1, kv.2]) ps (ixd k vs)
  | [], [], _, _, _ => .nil
  | p :: ps, v :: vs, k, hl, h => by
    refine .cons (h 0 p rfl) (ixd_paired (G := G) ps vs (k + 1) (by simpa using hl) fun j u hu => ?_)
    have := h (j + 1) u (by rw [List.getElem?_cons_succ]; exact hu)
    rw [show k + (j + 1) = k + 1 + j by omega] at this
    exact this
def spVw (K : PySem.W.Frag) : Sp := fun vs H Q _ => ∃ a xs rs, vs = [.ref a] ∧ (SqL K H a xs ∨ SqT K H a xs) ∧ DpAll K H xs (rs.map rD) ∧ rs.length ≤ 1000 ∧ ∀ b H', H b = none → Ex H H' → LV K H' b rs → Q (.ref b) H'
theorem ok_view {f : Addr} {fd : FuncData} (F : Fun K "_law_view" "_law_view" s_view f fd) (T : TxV mg) : FnOk P w K mg base CX0 1 f fd ["_law_rows_here"] (spVw K) := by
  refine F.ok sc_view (fun vs H Q E h => ?_) (fun cdv A outer s H vs Q E hr h => ?_)
  · obtain ⟨_, _, _, rfl, _⟩ := h
    rfl
  · obtain ⟨a, xs, rs, rfl, hs, ha, hz, k⟩ := h
    refine ⟨_, (pss_one (ps_ret (pe_callTy (call_dictP rfl) (by rfl) T.m_dict (by decide +kernel) (pa_cons (pe_lc (own := [("_law_number", 1), ("_law_row", 2)]) (g := gTup K 2 (gCons (gName 1) (gCons (gName 2) (gNil)))) (tt := tYes) (te := tTup (tCons (tVar 1) (tCons (tVar 2) tNil))) (by rfl) sc_view.nd (pi_enumA (by rfl) T.m_enumerate (pa_cons (pv 0) pa_nil)) (blkOk_by (N := sc_view_N) (sc := defScope s_view) (by decide +kernel)) (fun _ _ _ _ _ => (pg_tup (by rfl) (pgs_cons (pg_name (i := 1) sc_view.nd rfl (by first | exact Or.inl rfl | exact Or.inr rfl)) (pgs_cons (pg_name (i := 2) sc_view.nd rfl (by first | exact Or.inl rfl | exact Or.inr rfl)) pgs_nil)))) (fun _ _ _ _ _ => pts_nil) (fun _ _ _ _ _ => (pe_tup (pa_cons (pv 1) (pa_cons (pv 2) pa_nil))))) pa_nil)))), ?_⟩
    have hl := lv_len ha
    have z : EvN (tLc (iEnumA K (tCons (tVar 0) tNil)) (gTup K 2 (gCons (gName 1) (gCons (gName 2) gNil))) tYes (tTup (tCons (tVar 1) (tCons (tVar 2) tNil))) [1, 2]) (start sc_view_N [.ref a]) H xs.length (fun i => [.int (i : Int), xs.getD i .non]) := by
      refine eln_enum (Evl.ea_cons (Evl.ev_var (v := .ref a) rfl) Evl.ea_nil) hs (by omega) (fun _ _ => rfl) (fun i x H1 e1 hx => ?_)
      have := Evl.eu_tup (Evl.ea_cons (Evl.ev_var (σ := [some (.ref a), some (.int (i : Int)), some x]) (H := H1) (i := 1) (v := .int (i : Int)) rfl) (Evl.ea_cons (Evl.ev_var (i := 2) (v := x) rfl) Evl.ea_nil)) (by simp)
      rw [List.getD_eq_getElem?_getD, hx]
      exact this
    refine ret_cb (z H (Ex.refl _) _ fun Dl H2 ps hD e2 hps hl2 hu => ?_)
    · refine ⟨Dl, ps, ixd 0 xs, rfl, SqL.of hl2, ixd_paired (G := fun _ _ _ => True) ps xs 0 hps fun j u hj => ?_, fun p hp => ?_⟩
      · have := SqT.of (K := K) (hu j u hj)
        rw [Nat.zero_add]
        exact this
      · rw [mergeK_fresh _ _ (by simpa using ixd_nd xs), List.nil_append]
        exact k p _ (Evl.fresh_back e2 hp) (e2.trans (Ex.new hp)) ⟨xs, upd_same, (ha.up e2).up (Ex.new hp)⟩
theorem lex1 {p q : List Int} (hp : p.length = 1) (hq : q.length = 1) : HT.lexLt p q = decide (p.getD 0 0 < q.getD 0 0) := by
  match p, q, hp, hq with
  | [x], [y], _, _ =>
    simp [HT.lexLt]
    omega
theorem pt1 {p q : List Int} (hp : p.length = 1) (hq : q.length = 1) : decide (p = q) = decide (p.getD 0 0 = q.getD 0 0) := by
  match p, q, hp, hq with
  | [x], [y], _, _ => simp
theorem lab_both {rs : List Rw2} {i : Int} : (lab rs i true || lab rs i false) = inR rs i := by
  rw [lab_eq, lab_eq]
  cases inR rs i <;> cases (rat rs i.toNat).2 <;> rfl
theorem rowT_rat {rs : List Rw2} {i : Int} (h : inR rs i = true) : rowT (vwF true 0 rs) (vwF false 0 rs) i = rat rs i.toNat := by
  unfold rowT
  have h1 := vget_rat (rs := rs) (i := i) (b := true)
  have h2 := vget_rat (rs := rs) (i := i) (b := false)
  rw [h, Bool.true_and] at h1 h2
  rw [h1, h2]
  generalize rat rs i.toNat = r
  obtain ⟨p, b⟩ := r
  cases b <;> rfl
def spTs (K : PySem.W.Frag) : Sp := fun vs H Q _ => ∃ w a v rs m, ∃ ns : List Int, vs = [w, .ref a, v] ∧ Dp K H w (.tuple [.str "turns", .int m]) ∧ LV K H a rs ∧ Dp K H v (.list (ns.map .int)) ∧ ns.length ≤ 900 ∧ (∀ r ∈ rs, r.1.length = 1) ∧
  ∀ H', Ex H H' → Q (.bl (allD (fun e => isNum (vwF true 0 rs) e || isNum (vwF false 0 rs) e) (.list (ns.map .int)) && turnsOk m (ns.map (rowT (vwF true 0 rs) (vwF false 0 rs))))) H'
theorem ok_shows_turns {f : Addr} {fd : FuncData} (F : Fun K "_law_shows_turns" "_law_shows_turns" s_shows_turns f fd) (T : TxV mg) (D_is_list : DefAt P w K mg base "_law_is_list" 1 ["_law_thing"] (spB K isR)) (D_is_int : DefAt P w K mg base "_law_is_int" 1 ["_law_thing"] (spB K isI)) : FnOk P w K mg base CX0 3 f fd ["_law_spec", "_law_view_here", "_law_numbers"] (spTs K) := by
  refine F.ok sc_shows_turns (fun vs H Q E h => ?_) (fun cdv A outer s H vs Q E hr h => ?_)
  · obtain ⟨_, _, _, _, _, _, rfl, _⟩ := h
    rfl
  · obtain ⟨w, a, v, rs, m, ns, rfl, hw, hv, hd, hz, hp, k⟩ := h
    refine ⟨_, (pss_cons (ps_if (PW.pt (pw_or (pt_not (pt_val (pe_callD D_is_list (by first | exact hr | exact hr.mono (by decide) | exact hr.mono (by omega)) (by rfl) (pa_cons (pv 2) pa_nil)))) (pw_or1 (pt_not (pt_val (pe_callB (cr_all rfl) (by rfl) T.m_all (by decide +kernel) (pa_cons (pe_lc (own := [("_law_number", 5)]) (g := gName 5) (tt := tYes) (te := tAndV (tCallD (spB K isI) (tCons (tVar 5) tNil)) (tDIn (tVar 5) (tVar 1))) (by rfl) sc_shows_turns.nd (pi_seq (pv 2)) (blkOk_by (N := sc_shows_turns_N) (sc := defScope s_shows_turns) (by decide +kernel)) (fun _ _ _ _ _ => (pg_name (i := 5) sc_shows_turns.nd rfl (by first | exact Or.inl rfl | exact Or.inr rfl))) (fun _ _ _ _ _ => pts_nil) (fun _ _ _ _ _ => (pe_and (pe_callD D_is_int (by first | exact hr | exact hr.mono (by decide) | exact hr.mono (by omega)) (by rfl) (pa_cons (pv 5) pa_nil)) (pe_one (pe_cmp (pc_din (Nat.lt_of_le_of_lt (Nat.add_le_add_left (by decide : 1 ≤ 64) _) hr.units) (pv 5) (pv 1)) (by rfl)))))) pa_nil))))))) (pss_one (ps_ret pe_bl)) pss_nil)
    (pss_cons (ps_setLc (i := 3) (own := [("_law_number", 5)]) (g := gName 5) (tt := tYes) (te := tTup (tCons (tOp (rIxT K) (tOp (rIxT K) (tDGet (tVar 1) (tVar 5)) (tC (.int 0))) (tC (.int 0))) (tCons (tOp (rIxT K) (tDGet (tVar 1) (tVar 5)) (tC (.int 1))) tNil))) (by rfl) sc_shows_turns.nd rfl rfl (sw_true rfl rfl rfl (by decide +kernel)) (pi_seq (pv 2)) (blkOk_by (N := sc_shows_turns_N) (sc := defScope s_shows_turns) (by decide +kernel)) (fun _ _ _ _ _ => (pg_name (i := 5) sc_shows_turns.nd rfl (by first | exact Or.inl rfl | exact Or.inr rfl))) (fun _ _ _ _ _ => pts_nil) (fun _ _ _ _ _ => (pe_tup (pa_cons (pe_ix ix_tup (pe_ix ix_tup (pe_dget (Nat.lt_of_le_of_lt (Nat.add_le_add_left (by decide : 1 ≤ 64) _) hr.units) (pv 1) (pv 5) (fun _ _ => rfl)) pe_int (fun _ _ => rfl)) pe_int (fun _ _ => rfl)) (pa_cons (pe_ix ix_tup (pe_dget (Nat.lt_of_le_of_lt (Nat.add_le_add_left (by decide : 1 ≤ 64) _) hr.units) (pv 1) (pv 5) (fun _ _ => rfl)) pe_int (fun _ _ => rfl)) pa_nil)))))
    (pss_cons (ps_set (i := 4) sc_shows_turns.nd rfl (by first | exact Or.inl rfl | exact Or.inr rfl) ((zip_rule (mg := mg)) _ _ _ _ _ _ _ _ _ rfl rfl (hr.mono (by omega)) T.m_list T.m_zip (by rfl) (by rfl) (pv 3) (pe_slice sl_list (pv 3) (po_some pe_int) po_none) rfl rfl rfl))
    (pss_cons (ps_if (pt_val (pe_callB (cr_any rfl) (by rfl) T.m_any (by decide +kernel) (pa_cons (pe_lc (own := [("_law_one", 6), ("_law_two", 7)]) (g := gTup K 2 (gCons (gName 6) (gCons (gName 7) (gNil)))) (tt := tYes) (te := tOp rEq (tOp (rIxT K) (tVar 6) (tC (.int 1))) (tOp (rIxT K) (tVar 7) (tC (.int 1)))) (by rfl) sc_shows_turns.nd (pi_seq (pv 4)) (blkOk_by (N := sc_shows_turns_N) (sc := defScope s_shows_turns) (by decide +kernel)) (fun _ _ _ _ _ => (pg_tup (by rfl) (pgs_cons (pg_name (i := 6) sc_shows_turns.nd rfl (by first | exact Or.inl rfl | exact Or.inr rfl)) (pgs_cons (pg_name (i := 7) sc_shows_turns.nd rfl (by first | exact Or.inl rfl | exact Or.inr rfl)) pgs_nil)))) (fun _ _ _ _ _ => pts_nil) (fun _ _ _ _ _ => (pe_cmpR op_eq (pe_ix ix_tup (pv 6) pe_int (fun _ _ => rfl)) (pe_ix ix_tup (pv 7) pe_int (fun _ _ => rfl)) (nomark _)))) pa_nil))) (pss_one (ps_ret pe_bl)) pss_nil)
    (pss_cons (ps_if (PW.pt (pw_and (pt_cmpR op_eq (pe_callB call_len_seq (by rfl) T.m_len (by decide +kernel) (pa_cons (pv 3) pa_nil)) pe_int (nomark _)) (pw_and1 (pt_cmpR op_eq (pe_ix ix_tup (pe_ix ix_list (pv 3) pe_int (fun _ _ => rfl)) pe_int (fun _ _ => rfl)) (pe_ix ix_tup (pe_ix ix_list (pv 3) pe_int (fun _ _ => rfl)) pe_int (fun _ _ => rfl)) (nomark _))))) (pss_one (ps_ret pe_bl)) pss_nil)
    (pss_one (ps_ret (pe_and (pe_cmpR op_eq (pe_callB call_len_seq (by rfl) T.m_len (by decide +kernel) (pa_cons (pv 3) pa_nil)) (pe_op op_add (pe_ix ix_tup (pv 0) pe_int (fun _ _ => rfl)) pe_int) (nomark _)) (pe_one (pe_callB (cr_all rfl) (by rfl) T.m_all (by decide +kernel) (pa_cons (pe_lc (own := [("_law_one", 6), ("_law_two", 7)]) (g := gTup K 2 (gCons (gName 6) (gCons (gName 7) (gNil)))) (tt := tYes) (te := tOp (rI0 (fun a b => .bl (decide (a < b)))) (tOp (rIxT K) (tVar 6) (tC (.int 0))) (tOp (rIxT K) (tVar 7) (tC (.int 0)))) (by rfl) sc_shows_turns.nd (pi_seq (pv 4)) (blkOk_by (N := sc_shows_turns_N) (sc := defScope s_shows_turns) (by decide +kernel)) (fun _ _ _ _ _ => (pg_tup (by rfl) (pgs_cons (pg_name (i := 6) sc_shows_turns.nd rfl (by first | exact Or.inl rfl | exact Or.inr rfl)) (pgs_cons (pg_name (i := 7) sc_shows_turns.nd rfl (by first | exact Or.inl rfl | exact Or.inr rfl)) pgs_nil)))) (fun _ _ _ _ _ => pts_nil) (fun _ _ _ _ _ => (pe_cmpR op_lt (pe_ix ix_tup (pv 6) pe_int (fun _ _ => rfl)) (pe_ix ix_tup (pv 7) pe_int (fun _ _ => rfl)) (nomark _)))) pa_nil))))))))))), ?_⟩
    have hd0 := hd
    cases hd with
    | @lst t xs _ hs ha =>
      obtain rfl := dpi_inv ha
      have hall : allD (fun e => isNum (vwF true 0 rs) e || isNum (vwF false 0 rs) e) (.list (ns.map .int)) = (ns.map PyData.int).all (isIn rs) := by
        show (ns.map PyData.int).all _ = _
        rw [List.all_map, List.all_map]
        congr 1
        funext i
        exact lab_both
      rw [hall] at k
      have v2 : ∀ H1, Evl.Ev (tVar 2) (start sc_shows_turns_N [w, .ref a, .ref t]) H1 (.ref t) := fun H1 => Evl.ev_var rfl
      refine Evl.q_when (b := !((ns.map PyData.int).all (isIn rs))) (Evl.et_is (Evl.et_or (a := false) (b := !((ns.map PyData.int).all (isIn rs))) (Evl.et_is (Evl.et_not (Evl.et_B (ev_spB (v2 H) hd0))) rfl) fun _ => Evl.et_not (Evl.et_B (Evl.ev_is (ev_all (bs := (ns.map PyData.int).map (isIn rs)) (el_seqB (v2 H) (.inl hs) ha (by rw [List.length_map]; omega) (fun _ => rfl) fun x d H1 hm e1 hx => ?_)) (congrArg V.bl (by rw [List.all_map]; rfl))))) rfl) (fun z H1 e1 => ?_) (fun z H1 e1 => ?_)
      · obtain ⟨i, _, rfl⟩ := List.mem_map.mp hm
        cases hx
        exact Evl.ev_is (Evl.ev_andV (a := true) (b := inR rs i) (Evl.ev_is (ev_spB (Evl.ev_var (v := .int i) rfl) (.int i)) rfl) fun _ => ev_lin (Evl.ev_var (v := .int i) rfl) (Evl.ev_var (v := .ref a) rfl) (hv.up e1)) rfl
      · refine Evl.s_ret (v := .bl false) Evl.ev_c fun H2 e2 => ?_
        have := k H2 (e1.trans e2)
        rw [notT z] at this
        exact this
      · rw [notF z] at k
        have hin : ∀ i ∈ ns, inR rs i = true := fun i hi => List.all_eq_true.mp (notF z) _ (List.mem_map_of_mem hi)
        have hrr : ns.map (rowT (vwF true 0 rs) (vwF false 0 rs)) = ns.map fun i => rat rs i.toNat := List.map_congr_left fun i hi => rowT_rat (hin i hi)
        rw [hrr] at k
        have hp1 : ∀ r ∈ ns.map (fun i => rat rs i.toNat), r.1.length = 1 := fun r hr => by
          obtain ⟨i, hi, rfl⟩ := List.mem_map.mp hr
          exact hp _ (rat_mem (hin i hi))
        have hat : ∀ (j : Nat) i, ns[j]? = some i → rat (ns.map fun i => rat rs i.toNat) j = rat rs i.toNat := fun j i hj => by
          simp [rat, List.getD_eq_getElem?_getD, hj]
        have hlr : (ns.map fun i => rat rs i.toNat).length = ns.length := List.length_map ..
        have hv1 := hv.up e1
        refine q_asgN (eln_seq (f := fun j => [.int ((rat (ns.map fun i => rat rs i.toNat) j).1.getD 0 0), .bl (rat (ns.map fun i => rat rs i.toNat) j).2]) (v2 H1) (.inl (Evl.ex_l e1 hs)) (by rw [List.length_map]; omega) (fun _ => rfl) (fun j x H2 e2 hx => ?_)) fun Dl H2 ps hD e2 hps hl2 hu => ?_
        · rw [List.getElem?_map] at hx
          obtain ⟨i, hi, rfl⟩ := Option.map_eq_some_iff.mp hx
          rw [hat j i hi]
          obtain ⟨u, pv, hs2, hpv, eg⟩ := lv_row hv1 (hin i (List.mem_of_getElem? hi))
          have lp := hp _ (rat_mem (hin i (List.mem_of_getElem? hi)))
          have g := eg (tVar 5) (tVar 1) (List.set (wipe (start sc_shows_turns_N [w, .ref a, .ref t]) [5]) 5 (some (.int i))) H2 e2 (Evl.ev_var rfl) (Evl.ev_var rfl)
          refine Evl.eu_tup (Evl.ea_cons (ev_ent (Evl.ev_op g (Evl.ev_c (v := .int 0)) (Evl.rv_ixT (Evl.ex_t e2 hs2) rfl)) (hpv.up e2) (Evl.ev_c (v := .int 0)) (by decide) ?_) (Evl.ea_cons (Evl.ev_op g (Evl.ev_c (v := .int 1)) (Evl.rv_ixT (Evl.ex_t e2 hs2) rfl)) Evl.ea_nil)) (by simp)
          show (rat rs i.toNat).1[0]? = _
          rw [List.getD_eq_getElem?_getD, List.getElem?_eq_getElem (by omega)]
          rfl
        · rw [List.length_map] at hps
          generalize ns.map (fun i => rat rs i.toNat) = rr at *
          have hx0 : SqL K H2 Dl (ps.map V.ref) := SqL.of hl2
          have hsl : Evl.EvL (tSl (rSlL K) (tVar 3) (tPart (tC (.int 1))) tNoPart) [some w, some (.ref a), some (.ref t), some (.ref Dl), none, none, none, none] H2 ((ps.map V.ref).drop 1) := by
            rw [← cut_1]
            exact Evl.el_sl (Evl.ev_var (v := .ref Dl) rfl) (Evl.eo_some (Evl.ev_c (v := .int 1))) Evl.eo_none hx0
          refine q_asgZ (Evl.ev_var (v := .ref Dl) rfl) hx0 hsl (by rw [List.length_map]; omega) fun p H5 qs hp5 e25 hl5 hq hu5 => ?_
          have lq : qs.length = rr.length - 1 := by
            rw [hq, List.length_map, List.length_drop, List.length_map]
            omega
          have rowE : ∀ {σ : L2.St} {H6 : Hp} {i j : Nat} {x : V}, Ex H5 H6 → (ps.map V.ref)[j]? = some x → σ[i]? = some (some x) → Evl.Ev (tOp (rIxT K) (tVar i) (tC (.int 1))) σ H6 (.bl (rat rr j).2) ∧ Evl.Ev (tOp (rIxT K) (tVar i) (tC (.int 0))) σ H6 (.int ((rat rr j).1.getD 0 0)) := fun {σ H6 i j x} e hx h => by
            rw [List.getElem?_map] at hx
            obtain ⟨u, hu1, rfl⟩ := Option.map_eq_some_iff.mp hx
            have hs6 := SqT.of (K := K) ((e25.trans e) _ _ (hu j u hu1))
            exact ⟨Evl.ev_op (Evl.ev_var h) Evl.ev_c (Evl.rv_ixT hs6 rfl), Evl.ev_op (Evl.ev_var h) Evl.ev_c (Evl.rv_ixT hs6 rfl)⟩
          have hpr : ∀ {H6 : Hp}, Ex H5 H6 → ∀ (i : Nat) u, qs[i]? = some u → ∃ x y, (ps.map V.ref)[i]? = some x ∧ ((ps.map V.ref).drop 1)[i]? = some y ∧ H6 u = some (.tup [x, y]) := fun {H6} e i u h => by
            obtain ⟨x, y, h1, h2, h3⟩ := hu5 i u h
            exact ⟨x, y, h1, h2, e _ _ h3⟩
          have dr : ∀ {i : Nat} {y : V}, ((ps.map V.ref).drop 1)[i]? = some y → (ps.map V.ref)[i + 1]? = some y := fun {i y} h => by
            rw [List.getElem?_drop, Nat.add_comm] at h
            exact h
          refine Evl.q_when (b := !(List.range (rr.length - 1)).all fun i => (rat rr i).2 != (rat rr (i + 1)).2) (Evl.et_is (Evl.et_B (ev_any (el_prB (g := fun i => decide (V.bl (rat rr i).2 = V.bl (rat rr (i + 1)).2)) (xs := ps.map V.ref) (ys := (ps.map V.ref).drop 1) (Evl.ev_var (v := .ref p) rfl) hl5 (by omega) (hpr (Ex.refl _)) (fun _ _ => rfl) fun i x y H6 hi e6 hx hy => Evl.ev_op (rowE e6 hx rfl).1 (rowE e6 (dr hy) rfl).1 (Evl.rv_eq rfl)))) ?_) (fun z5 H6 e6 => ?_) (fun z5 H6 e6 => ?_)
          · rw [lq, List.any_map]
            rw [Bool.eq_iff_iff]
            simp only [List.any_eq_true, Bool.not_eq_true', List.all_eq_false, Function.comp]
            refine ⟨fun ⟨i, hi, h⟩ => ⟨i, hi, ?_⟩, fun ⟨i, hi, h⟩ => ⟨i, hi, ?_⟩⟩
            · revert h
              cases (rat rr i).2 <;> cases (rat rr (i + 1)).2 <;> simp
            · revert h
              cases (rat rr i).2 <;> cases (rat rr (i + 1)).2 <;> simp
          · refine Evl.s_ret (v := .bl false) Evl.ev_c fun H7 e7 => ?_
            have := k H7 (e1.trans (e2.trans (e25.trans (e6.trans e7))))
            unfold turnsOk at this
            rw [notT z5] at this
            exact this
          · have z6 := notF z5
            have lenE : ∀ {σ : L2.St} {H7 : Hp}, Ex H5 H7 → σ[3]? = some (some (.ref Dl)) → Evl.Ev (tCB (Evl.rLenS K) (tCons (tVar 3) tNil)) σ H7 (.int ((rr.length : Nat) : Int)) := fun e h => Evl.ev_is (ev_lenS (a := Dl) (xs := ps.map V.ref) (Evl.ev_var h) (.inl (Evl.ex_l (e25.trans e) hx0))) (by rw [List.length_map, hps, hlr])
            have lps : ps.length = rr.length := by omega
            refine Evl.q_when (b := decide (rr.length = 2) && decide ((rat rr 0).1 = (rat rr 1).1)) (Evl.et_and (a := decide (rr.length = 2)) (Evl.et_is (Evl.et_test (Evl.ev_op (lenE e6 rfl) Evl.ev_c (Evl.rv_eq rfl))) ?_) fun z7 => ?_) (fun z7 H7 e7 => ?_) (fun z7 H7 e7 => ?_)
            · exact decide_eq_decide.mpr ⟨fun z => by injection z with z; omega, fun z => by rw [z]; rfl⟩
            · have z8 : rr.length = 2 := of_decide_eq_true z7
              have at_ : ∀ j : Nat, j < 2 → Evl.Ev (tOp (rIxT K) (tOp (rIxL K) (tVar 3) (tC (.int (j : Int)))) (tC (.int 0))) [some w, some (.ref a), some (.ref t), some (.ref Dl), some (.ref p), none, none, none] H6 (.int ((rat rr j).1.getD 0 0)) := fun j hj => by
                obtain ⟨u, hu1⟩ : ∃ u, ps[j]? = some u := ⟨_, List.getElem?_eq_getElem (by omega)⟩
                have hs6 := SqT.of (K := K) ((e25.trans e6) _ _ (hu j u hu1))
                exact Evl.ev_op (Evl.ev_op (Evl.ev_var (v := .ref Dl) rfl) Evl.ev_c (Evl.rv_ixL (Evl.ex_l (e25.trans e6) hx0) (atI_nat (j := j) (by rw [List.getElem?_map, hu1]; rfl)))) Evl.ev_c (Evl.rv_ixT hs6 rfl)
              refine Evl.et_is (Evl.et_test (Evl.ev_op (at_ 0 (by decide)) (at_ 1 (by decide)) (Evl.rv_eq rfl))) ?_
              have m0 : rat rr 0 ∈ rr := List.mem_of_getElem? (rat_get (by omega))
              have m1 : rat rr 1 ∈ rr := List.mem_of_getElem? (rat_get (by omega))
              rw [pt1 (hp1 _ m0) (hp1 _ m1)]
              exact decide_eq_decide.mpr ⟨fun z => by injection z, fun z => by rw [z]⟩
            · refine Evl.s_ret (v := .bl true) Evl.ev_c fun H8 e8 => ?_
              have := k H8 (e1.trans (e2.trans (e25.trans (e6.trans (e7.trans e8)))))
              unfold turnsOk at this
              rw [z6, z7] at this
              exact this
            · have hw7 := hw.up (e1.trans (e2.trans (e25.trans (e6.trans e7))))
              obtain ⟨tw, rfl, htw⟩ : ∃ tw, w = .ref tw ∧ SqT K H7 tw [.str "turns", .int m] := by
                cases hw7 with
                | @tup t2 xs _ hs2 ha2 =>
                  cases ha2 with
                  | cons h1 ha2 =>
                    cases ha2 with
                    | cons h2 ha2 =>
                      cases ha2
                      cases h1
                      cases h2
                      exact ⟨t2, rfl, hs2⟩
              refine Evl.s_ret (v := .bl (decide ((rr.length : Int) = m + 2) && (List.range (rr.length - 1)).all fun i => HT.lexLt (rat rr i).1 (rat rr (i + 1)).1)) (Evl.ev_andV (Evl.ev_is (Evl.ev_op (lenE (e6.trans e7) rfl) (Evl.ev_op (x := .int m) (y := .int 2) (Evl.ev_op (Evl.ev_var (v := .ref tw) rfl) Evl.ev_c (Evl.rv_ixT htw rfl)) Evl.ev_c Evl.rv_I0) (Evl.rv_eq rfl)) ?_) fun _ => Evl.ev_is (ev_all (el_prB (g := fun i => decide ((rat rr i).1.getD 0 0 < (rat rr (i + 1)).1.getD 0 0)) (xs := ps.map V.ref) (ys := (ps.map V.ref).drop 1) (Evl.ev_var (v := .ref p) rfl) ((e6.trans e7) _ _ hl5) (by omega) (hpr (e6.trans e7)) (fun _ _ => rfl) fun i x y H8 hi e8 hx hy => Evl.ev_op (rowE ((e6.trans e7).trans e8) hx rfl).2 (rowE ((e6.trans e7).trans e8) (dr hy) rfl).2 (Evl.rv_I0 (g := fun a b => .bl (decide (a < b)))))) (congrArg V.bl ?_)) fun H8 e8 => ?_
              · exact congrArg V.bl (decide_eq_decide.mpr ⟨fun z => by injection z, fun z => by rw [z]⟩)
              · rw [lq, List.all_map]
                rw [Bool.eq_iff_iff]
                simp only [List.all_eq_true, Function.comp, id]
                refine ⟨fun h i hi => ?_, fun h i hi => ?_⟩ <;>
                · have hi2 : i < rr.length - 1 := List.mem_range.mp hi
                  have q := h i hi
                  have m0 : rat rr i ∈ rr := List.mem_of_getElem? (rat_get (by omega))
                  have m1 : rat rr (i + 1) ∈ rr := List.mem_of_getElem? (rat_get (by omega))
                  rw [lex1 (hp1 _ m0) (hp1 _ m1)] at *
                  exact q
              · have := k H8 (e1.trans (e2.trans (e25.trans (e6.trans (e7.trans e8)))))
                unfold turnsOk at this
                rw [z6, z7] at this
                exact this
end
end U
set_option Elab.async false
set_option linter.all false
set_option maxRecDepth 100000
set_option maxHeartbeats 4000000
/-! _law_shows -/
namespace U
open PySem PySem.Spec PyProof.Rows L2
open Evl (Ex)
open C8 (Met Mak pe_mt pe_mt0 pe_mk)
abbrev s_shows : Stmt := top 75
abbrev sc_shows_N : List Str := ["_law_spec", "_law_view_here", "_law_thing", "_law_word", "_law_heads", "_law_point_here", "_law_total_here", "_law_low", "_law_high", "_law_entry", "_law_at"]
theorem sc_shows : FnScope sc_shows_N ["_law_spec", "_law_view_here", "_law_thing"] (defScope s_shows) := ⟨rfl, rfl, rfl, by decide +kernel, rfl, by decide +kernel, by decide +kernel⟩
def abD (i j : Int) : PyData := .tuple [.str "above", .int i, .int j]
def beD (i : Int) (qs : List (Int × Int)) : PyData := .tuple [.str "between", .int i, .list (qs.map prD)]
def tuD (ns : List Int) : PyData := .tuple [.str "turns", .list (ns.map .int)]
/-- a certificate as the law writes it for kinds of three sorts -/
def Shp (p : Nat) : Kd → PyData → Prop
  | .rising _, d => ∃ i j, d = abD i j
  | .boxes _, d => ∃ i qs, d = beD i qs ∧ qs.length = p
  | .turns _, d => ∃ ns, d = tuD ns ∧ ns.length ≤ 900
  | _, _ => False
abbrev HD4 : List (L2.Key × V) := [(Sum.inr "halves", .str "meet"), (Sum.inr "boxes", .str "between"), (Sum.inr "rising", .str "above"), (Sum.inr "flats", .str "span")]
abbrev tHD4 : TE := tDisp [(tC (.str "halves"), tC (.str "meet")), (tC (.str "boxes"), tC (.str "between")), (tC (.str "rising"), tC (.str "above")), (tC (.str "flats"), tC (.str "span"))]
theorem above_lab {rs : List Rw2} {i j : Int} : isAbove (vwF true 0 rs) (vwF false 0 rs) (abD i j) = (lab rs i true && (lab rs j false && ptLe (rat rs i.toNat).1 (rat rs j.toNat).1)) := by
  have h0 : isAbove (vwF true 0 rs) (vwF false 0 rs) (abD i j) = (lab rs i true && (lab rs j false && ptLe ((vget (vwF true 0 rs) i).getD []) ((vget (vwF false 0 rs) j).getD []))) := rfl
  rw [h0]
  cases h1 : lab rs i true with
  | false => rfl
  | true =>
    cases h2 : lab rs j false with
    | false => rfl
    | true =>
      rw [(lab_get h1).2.2, (lab_get h2).2.2]
      rfl
theorem between_lab {rs : List Rw2} {p : Nat} {i : Int} {qs : List (Int × Int)} (hl : qs.length = p) : isBetween p (vwF true 0 rs) (vwF false 0 rs) (beD i qs) = (lab rs i false && (List.range p).all fun j => encl (vwF true 0 rs) j ((rat rs i.toNat).1.getD j 0) (prD (qs.getD j (0, 0)))) := by
  have h0 : isBetween p (vwF true 0 rs) (vwF false 0 rs) (beD i qs) = ((lab rs i false && decide ((((qs.map prD).length : Nat) : Int) = (p : Int))) && (List.range p).all fun j => encl (vwF true 0 rs) j (((vget (vwF false 0 rs) i).getD []).getD j 0) (el (.list (qs.map prD)) j)) := rfl
  rw [h0, List.length_map, hl, decide_eq_true rfl, Bool.and_true]
  cases h1 : lab rs i false with
  | false => rfl
  | true =>
    rw [(lab_get h1).2.2]
    congr 1
    rw [Bool.eq_iff_iff]
    simp only [List.all_eq_true]
    have key : ∀ j ∈ List.range p, el (.list (qs.map prD)) j = prD (qs.getD j (0, 0)) := fun j hj => by
      have hj : j < qs.length := by
        rw [hl]
        exact List.mem_range.mp hj
      show (qs.map prD).getD j .none = _
      simp [List.getD_eq_getElem?_getD, hj]
    refine ⟨fun h j hj => ?_, fun h j hj => ?_⟩
    · rw [← key j hj]
      exact h j hj
    · rw [key j hj]
      exact h j hj
section
variable {K : PySem.W.Frag} {L : List Addr} {σ : L2.St} {H : Hp} {t1 t2 te : TE} {d : PyData}
theorem el_rng {ta : TA} {j : Nat} {vs : List Nat} {n : Nat} {v : Nat → V} (h : Evl.EvA ta σ H [.int (n : Int)]) (hn : n ≤ 40000) (hw : ∀ x, wipe ((wipe σ vs).set j (some x)) vs = wipe σ vs)
    (he : ∀ (i : Nat) H1, Ex H H1 → i < n → Evl.Ev te ((wipe σ vs).set j (some (.int (i : Int)))) H1 (v i)) : Evl.EvL (tLc (iRng1 ta) (gName j) tYes te vs) σ H ((List.range n).map v) := fun H0 e0 Q q => h H0 e0 _ fun H1 e1 => by
  refine ⟨(n : Int), rfl, by omega, by omega, fun Dl hD => ?_⟩
  rw [Int.toNat_natCast]
  refine lc_range (lo := 0) (n := n) (Cm H1 v Dl) (cm_0 hD) (fun i H' hi p => ?_) (fun H2 p => q Dl H2 (Evl.fresh_back e1 p.1) (e1.trans p.2.1) p.2.2)
  have z0 : (0 : Int) + (i : Int) = (i : Int) := Int.zero_add _
  rw [z0]
  exact ⟨hw _, yes_lc (A := fun H3 => te ((wipe σ vs).set j (some (.int (i : Int)))) H3 fun y H4 => ∃ acc, H4 Dl = some (.lst acc) ∧ acc.length < sizeLine ∧ Cm H1 v Dl (i + 1) (upd H4 Dl (.lst (acc ++ [y])))) (B := fun H3 => Cm H1 v Dl (i + 1) H3) (cm_turn p (by omega) _ (Ex.refl _) (he i _ (e0.trans e1) hi))⟩
end
section
variable {P : Program} {w : World} {K : PySem.W.Frag} {mg : Str → Option Value} {base : Heap} {σ : L2.St} {H H' : Hp} {a : Addr} {rs : List Rw2}
theorem hd4_run {D : Ends} {tz : TS} (k : ∀ p H1, Ex H H1 → H1 p = some (.dK HD4) → tz D (σ.set 4 (some (.ref p))) H1) : tSeq (tAsg tHD4 (gName 4)) tz D σ H := by
  intro p hp
  refine ⟨upd_same, HD4, rfl, by decide, ?_⟩
  have hm : mergeK [] HD4 = HD4 := by decide
  rw [hm]
  exact k p _ (fun a o h => by
    have ne : a ≠ p := ne_of_none h hp
    rw [upd_ne ne, upd_ne ne]
    exact h) upd_same
theorem dp_two {v : V} {z : Str} {q : Int} (h : Dp K H v (.tuple [.str z, .int q])) : ∃ t, v = .ref t ∧ SqT K H t [.str z, .int q] := by
  cases h with
  | @tup t2 xs _ hs2 ha2 =>
    cases ha2 with
    | cons h1 ha2 =>
      cases ha2 with
      | cons h2 ha2 =>
        cases ha2
        cases h1
        cases h2
        exact ⟨t2, rfl, hs2⟩
theorem dp_three {v : V} {z : Str} {i : Int} {d : PyData} (h : Dp K H v (.tuple [.str z, .int i, d])) : ∃ t u, v = .ref t ∧ SqT K H t [.str z, .int i, u] ∧ Dp K H u d := by
  cases h with
  | @tup t2 xs _ hs2 ha2 =>
    cases ha2 with
    | cons h1 ha2 =>
      cases ha2 with
      | cons h2 ha2 =>
        cases ha2 with
        | cons h3 ha2 =>
          cases ha2
          cases h1
          cases h2
          exact ⟨t2, _, rfl, hs2, h3⟩
theorem dp_strd {v : V} {z : Str} {d : PyData} (h : Dp K H v (.tuple [.str z, d])) : ∃ t u, v = .ref t ∧ SqT K H t [.str z, u] ∧ Dp K H u d := by
  cases h with
  | @tup t2 xs _ hs2 ha2 =>
    cases ha2 with
    | cons h1 ha2 =>
      cases ha2 with
      | cons h2 ha2 =>
        cases ha2
        cases h1
        exact ⟨t2, _, rfl, hs2, h2⟩
theorem ev_hd {te tz tm : TE} {v : V} {z : Str} {ds : List PyData} (h : Evl.Ev te σ H v) (h2 : Evl.Ev tz σ H (.str z)) (h3 : Evl.Ev tm σ H (.int (ds.length : Nat))) (hd : Dp K H v (.tuple (.str z :: ds))) : Evl.Ev (tCallD (spHd K) (tCons te (tCons tz (tCons tm tNil)))) σ H (.bl true) :=
  ev_callD (Evl.ea_cons h (Evl.ea_cons h2 (Evl.ea_cons h3 Evl.ea_nil))) fun H1 e1 Q q => ⟨v, z, ds, rfl, hd.up e1, q⟩
def spSh (K : PySem.W.Frag) : Sp := fun vs H Q _ => ∃ w a v k d rs p, vs = [w, .ref a, v] ∧ Dp K H w (kdD k) ∧ LV K H a rs ∧ Dp K H v d ∧ okK ((p : Nat) : Int) k ∧ Shp p k d ∧ (∀ r ∈ rs, r.1.length = p) ∧ p ≤ 3 ∧ ∀ H', Ex H H' → Q (.bl (plainK 0 k d (vwF true 0 rs) (vwF false 0 rs))) H'
theorem ok_shows {f : Addr} {fd : FuncData} (F : Fun K "_law_shows" "_law_shows" s_shows f fd) (T : TxV mg) (D_headed : DefAt P w K mg base "_law_headed" 2 ["_law_thing", "_law_word", "_law_many"] (spHd K)) (D_shows_turns : DefAt P w K mg base "_law_shows_turns" 3 ["_law_spec", "_law_view_here", "_law_numbers"] (spTs K))
    (D_labelled : DefAt P w K mg base "_law_labelled" 2 ["_law_view_here", "_law_number", "_law_label"] (spLb K)) (D_is_pairs : DefAt P w K mg base "_law_is_pairs" 2 ["_law_thing"] (spPa K)) (D_around : DefAt P w K mg base "_law_around" 3 ["_law_view_here", "_law_at", "_law_pair", "_law_entry"] (spAr K)) : FnOk P w K mg base CX0 4 f fd ["_law_spec", "_law_view_here", "_law_thing"] (spSh K) := by
  refine F.ok sc_shows (fun vs H Q E h => ?_) (fun cdv A outer s H vs Q E hr h => ?_)
  · obtain ⟨_, _, _, _, _, _, _, rfl, _⟩ := h
    rfl
  · obtain ⟨w, a, v, k, d, rs, p, rfl, hw, hv, hd, hok, hsh, hp, p3, kk⟩ := h
    refine ⟨_, (pss_cons (ps_set (i := 3) sc_shows.nd rfl (by first | exact Or.inl rfl | exact Or.inr rfl) (pe_ix ix_tup (pv 0) pe_int (fun _ _ => rfl)))
    (pss_cons (ps_if (pt_cmpR op_eq (pv 3) pe_str (nomark _)) (pss_one ps_never) pss_nil)
    (pss_cons (ps_if (pt_cmpR op_eq (pv 3) pe_str (nomark _)) (pss_cons ps_never
      (pss_one ps_never)) pss_nil)
    (pss_cons (ps_if (pt_cmpR op_in_seq (pv 3) (pe_tup (pa_cons pe_str (pa_cons pe_str pa_nil))) (by rfl)) (pss_one ps_never) pss_nil)
    (pss_cons (ps_if (pt_cmpR op_eq (pv 3) pe_str (nomark _)) (pss_one (ps_ret (pe_and (pe_callD D_headed (by first | exact hr | exact hr.mono (by decide) | exact hr.mono (by omega)) (by rfl) (pa_cons (pv 2) (pa_cons pe_str (pa_cons pe_int pa_nil)))) (pe_one (pe_callD D_shows_turns (by first | exact hr | exact hr.mono (by decide) | exact hr.mono (by omega)) (by rfl) (pa_cons (pv 0) (pa_cons (pv 1) (pa_cons (pe_ix ix_tup (pv 2) pe_int (fun _ _ => rfl)) pa_nil)))))))) pss_nil)
    (pss_cons (ps_set (i := 4) sc_shows.nd rfl (by first | exact Or.inl rfl | exact Or.inr rfl) (pe_disp (pps_cons pe_str pe_str (pps_cons pe_str pe_str (pps_cons pe_str pe_str (pps_cons pe_str pe_str pps_nil)))) rfl rfl (by simp) (by decide)))
    (pss_cons (ps_if (pt_not (pt_val (pe_callD D_headed (by first | exact hr | exact hr.mono (by decide) | exact hr.mono (by omega)) (by rfl) (pa_cons (pv 2) (pa_cons (pe_dget (Nat.lt_of_le_of_lt (Nat.add_le_add_left (by decide : 1 ≤ 64) _) hr.units) (pv 4) (pv 3) (fun _ _ => rfl)) (pa_cons pe_int pa_nil)))))) (pss_one (ps_ret pe_bl)) pss_nil)
    (pss_cons (ps_if (pt_cmpR op_eq (pv 3) pe_str (nomark _)) (pss_one ps_never) pss_nil)
    (pss_cons (ps_if (pt_cmpR op_eq (pv 3) pe_str (nomark _)) (pss_cons (ps_if (PW.pt (pw_or (pt_not (pt_val (pe_callD D_labelled (by first | exact hr | exact hr.mono (by decide) | exact hr.mono (by omega)) (by rfl) (pa_cons (pv 1) (pa_cons (pe_ix ix_tup (pv 2) pe_int (fun _ _ => rfl)) (pa_cons pe_bl pa_nil)))))) (pw_or1 (pt_not (pt_val (pe_callD D_labelled (by first | exact hr | exact hr.mono (by decide) | exact hr.mono (by omega)) (by rfl) (pa_cons (pv 1) (pa_cons (pe_ix ix_tup (pv 2) pe_int (fun _ _ => rfl)) (pa_cons pe_bl pa_nil))))))))) (pss_one (ps_ret pe_bl)) pss_nil)
      (pss_one (ps_ret (pe_callB (cr_all rfl) (by rfl) T.m_all (by decide +kernel) (pa_cons (pe_lc (own := [("_law_low", 7), ("_law_high", 8)]) (g := gTup K 2 (gCons (gName 7) (gCons (gName 8) (gNil)))) (tt := tYes) (te := tOp (rI0 (fun a b => .bl (decide (a ≤ b)))) (tVar 7) (tVar 8)) (by rfl) sc_shows.nd (RZ.pi_zipA (by rfl) T.m_zip (pa_cons (pe_ix ix_tup (pe_dget (Nat.lt_of_le_of_lt (Nat.add_le_add_left (by decide : 1 ≤ 64) _) hr.units) (pv 1) (pe_ix ix_tup (pv 2) pe_int (fun _ _ => rfl)) (fun _ _ => rfl)) pe_int (fun _ _ => rfl)) (pa_cons (pe_ix ix_tup (pe_dget (Nat.lt_of_le_of_lt (Nat.add_le_add_left (by decide : 1 ≤ 64) _) hr.units) (pv 1) (pe_ix ix_tup (pv 2) pe_int (fun _ _ => rfl)) (fun _ _ => rfl)) pe_int (fun _ _ => rfl)) pa_nil))) (blkOk_by (N := sc_shows_N) (sc := defScope s_shows) (by decide +kernel)) (fun _ _ _ _ _ => (pg_tup (by rfl) (pgs_cons (pg_name (i := 7) sc_shows.nd rfl (by first | exact Or.inl rfl | exact Or.inr rfl)) (pgs_cons (pg_name (i := 8) sc_shows.nd rfl (by first | exact Or.inl rfl | exact Or.inr rfl)) pgs_nil)))) (fun _ _ _ _ _ => pts_nil) (fun _ _ _ _ _ => (pe_cmpR op_le (pv 7) (pv 8) (nomark _)))) pa_nil))))) pss_nil)
    (pss_cons (ps_if (pt_not (pt_val (pe_callD D_labelled (by first | exact hr | exact hr.mono (by decide) | exact hr.mono (by omega)) (by rfl) (pa_cons (pv 1) (pa_cons (pe_ix ix_tup (pv 2) pe_int (fun _ _ => rfl)) (pa_cons pe_bl pa_nil)))))) (pss_one (ps_ret pe_bl)) pss_nil)
    (pss_cons (ps_set (i := 5) sc_shows.nd rfl (by first | exact Or.inl rfl | exact Or.inr rfl) (pe_ix ix_tup (pe_dget (Nat.lt_of_le_of_lt (Nat.add_le_add_left (by decide : 1 ≤ 64) _) hr.units) (pv 1) (pe_ix ix_tup (pv 2) pe_int (fun _ _ => rfl)) (fun _ _ => rfl)) pe_int (fun _ _ => rfl)))
    (pss_cons (ps_if (pt_cmpR op_eq (pv 3) pe_str (nomark _)) (pss_cons ps_never
      (pss_one ps_never)) pss_nil)
    (pss_cons (ps_if (PW.pt (pw_or (pt_not (pt_val (pe_callD D_is_pairs (by first | exact hr | exact hr.mono (by decide) | exact hr.mono (by omega)) (by rfl) (pa_cons (pe_ix ix_tup (pv 2) pe_int (fun _ _ => rfl)) pa_nil)))) (pw_or1 (pt_cmpR op_ne (pe_callB call_len_seq (by rfl) T.m_len (by decide +kernel) (pa_cons (pe_ix ix_tup (pv 2) pe_int (fun _ _ => rfl)) pa_nil)) (pe_callB call_len_seq (by rfl) T.m_len (by decide +kernel) (pa_cons (pv 5) pa_nil)) (nomark _))))) (pss_one (ps_ret pe_bl)) pss_nil)
    (pss_one (ps_ret (pe_callB (cr_all rfl) (by rfl) T.m_all (by decide +kernel) (pa_cons (pe_lc (own := [("_law_at", 10)]) (g := gName 10) (tt := tYes) (te := tCallD (spAr K) (tCons (tVar 1) (tCons (tVar 10) (tCons (tOp (rIxL K) (tOp (rIxT K) (tVar 2) (tC (.int 2))) (tVar 10)) (tCons (tOp (rIxT K) (tVar 5) (tVar 10)) tNil))))) (by rfl) sc_shows.nd (pi_range1 (by rfl) T.m_range (pa_cons (pe_callB call_len_seq (by rfl) T.m_len (by decide +kernel) (pa_cons (pv 5) pa_nil)) pa_nil)) (blkOk_by (N := sc_shows_N) (sc := defScope s_shows) (by decide +kernel)) (fun _ _ _ _ _ => (pg_name (i := 10) sc_shows.nd rfl (by first | exact Or.inl rfl | exact Or.inr rfl))) (fun _ _ _ _ _ => pts_nil) (fun _ _ _ _ _ => (pe_callD D_around (by first | exact hr | exact hr.mono (by decide) | exact hr.mono (by omega)) (by rfl) (pa_cons (pv 1) (pa_cons (pv 10) (pa_cons (pe_ix ix_list (pe_ix ix_tup (pv 2) pe_int (fun _ _ => rfl)) (pv 10) (fun _ _ => rfl)) (pa_cons (pe_ix ix_tup (pv 5) (pv 10) (fun _ _ => rfl)) pa_nil))))))) pa_nil))))))))))))))))), ?_⟩
    cases k with
    | halves q => exact hsh.elim
    | flats q => exact hsh.elim
    | no k => exact hsh.elim
    | both k m => exact hsh.elim
    | either k m => exact hsh.elim
    | any k m => exact hsh.elim
    | turns m =>
      obtain ⟨p1, m0, m3⟩ := hok
      have p1 : p = 1 := by omega
      subst p1
      obtain ⟨ns, rfl, hz⟩ := hsh
      have hw0 := hw
      obtain ⟨tw, rfl, htw⟩ := dp_two hw
      obtain ⟨tv, u, rfl, htv, hu⟩ := dp_strd hd
      refine Evl.q_asg (v := .str "turns") (Evl.ev_op (Evl.ev_var (v := .ref tw) rfl) Evl.ev_c (Evl.rv_ixT htw rfl)) fun H1 e1 => ?_
      refine Evl.q_when (b := false) (Evl.et_is (Evl.et_test (Evl.ev_op (Evl.ev_var (v := .str "turns") rfl) Evl.ev_c (Evl.rv_eq rfl))) (by decide)) (fun z => nomatch z) (fun _ H2 e2 => ?_)
      refine Evl.q_when (b := false) (Evl.et_is (Evl.et_test (Evl.ev_op (Evl.ev_var (v := .str "turns") rfl) Evl.ev_c (Evl.rv_eq rfl))) (by decide)) (fun z => nomatch z) (fun _ H3 e3 => ?_)
      refine Evl.q_when (b := false) (Evl.et_is (Evl.et_test (Evl.ev_inU (Evl.ev_var (v := .str "turns") rfl) (Evl.eu_tup (Evl.ea_cons Evl.ev_c (Evl.ea_cons Evl.ev_c Evl.ea_nil)) (by decide)) rfl rfl)) (by decide)) (fun z => nomatch z) (fun _ H4 e4 => ?_)
      refine Evl.q_when (b := true) (Evl.et_is (Evl.et_test (Evl.ev_op (Evl.ev_var (v := .str "turns") rfl) Evl.ev_c (Evl.rv_eq rfl))) (by decide)) (fun _ H5 e5 => ?_) (fun z => nomatch z)
      have eA := (((e1.trans e2).trans e3).trans e4).trans e5
      refine Evl.s_ret (v := .bl (plainK 0 (.turns m) (tuD ns) (vwF true 0 rs) (vwF false 0 rs))) (Evl.ev_is (Evl.ev_andV (a := true) (b := plainK 0 (.turns m) (tuD ns) (vwF true 0 rs) (vwF false 0 rs)) (ev_hd (ds := [.list (ns.map .int)]) (Evl.ev_var (v := .ref tv) rfl) Evl.ev_c Evl.ev_c (hd.up eA)) fun _ => ?_) rfl) fun H6 e6 => kk H6 (eA.trans e6)
      refine ev_callD (Evl.ea_cons (Evl.ev_var (v := .ref tw) rfl) (Evl.ea_cons (Evl.ev_var (v := .ref a) rfl) (Evl.ea_cons (Evl.ev_op (Evl.ev_var (v := .ref tv) rfl) (Evl.ev_c (v := .int 1)) (Evl.rv_ixT (Evl.ex_t eA htv) rfl)) Evl.ea_nil))) fun H6 e6 Q q => ⟨.ref tw, a, u, rs, m, ns, rfl, hw0.up (eA.trans e6), hv.up (eA.trans e6), hu.up (eA.trans e6), hz, hp, fun H7 e7 => ?_⟩
      have := q H7 e7
      have e0 : (entries (el (tuD ns) 1)).map (fun e => rowT (vwF true 0 rs) (vwF false 0 rs) (valI e)) = ns.map (rowT (vwF true 0 rs) (vwF false 0 rs)) := by
        show (ns.map PyData.int).map _ = _
        rw [List.map_map]
        rfl
      have e1 : plainK 0 (.turns m) (tuD ns) (vwF true 0 rs) (vwF false 0 rs) = ((true && true) && (allD (fun e => isNum (vwF true 0 rs) e || isNum (vwF false 0 rs) e) (.list (ns.map .int)) && turnsOk m ((entries (el (tuD ns) 1)).map fun e => rowT (vwF true 0 rs) (vwF false 0 rs) (valI e)))) := rfl
      rw [e1, e0] at this
      exact this
    | rising q =>
      obtain rfl : q = (p : Int) := hok
      obtain ⟨i, j, rfl⟩ := hsh
      obtain ⟨tw, rfl, htw⟩ := dp_two hw
      obtain ⟨tv, u, rfl, htv, hu⟩ := dp_three hd
      cases hu
      refine Evl.q_asg (v := .str "rising") (Evl.ev_op (Evl.ev_var (v := .ref tw) rfl) Evl.ev_c (Evl.rv_ixT htw rfl)) fun H1 e1 => ?_
      refine Evl.q_when (b := false) (Evl.et_is (Evl.et_test (Evl.ev_op (Evl.ev_var (v := .str "rising") rfl) Evl.ev_c (Evl.rv_eq rfl))) (by decide)) (fun z => nomatch z) (fun _ H2 e2 => ?_)
      refine Evl.q_when (b := false) (Evl.et_is (Evl.et_test (Evl.ev_op (Evl.ev_var (v := .str "rising") rfl) Evl.ev_c (Evl.rv_eq rfl))) (by decide)) (fun z => nomatch z) (fun _ H3 e3 => ?_)
      refine Evl.q_when (b := false) (Evl.et_is (Evl.et_test (Evl.ev_inU (Evl.ev_var (v := .str "rising") rfl) (Evl.eu_tup (Evl.ea_cons Evl.ev_c (Evl.ea_cons Evl.ev_c Evl.ea_nil)) (by decide)) rfl rfl)) (by decide)) (fun z => nomatch z) (fun _ H4 e4 => ?_)
      refine Evl.q_when (b := false) (Evl.et_is (Evl.et_test (Evl.ev_op (Evl.ev_var (v := .str "rising") rfl) Evl.ev_c (Evl.rv_eq rfl))) (by decide)) (fun z => nomatch z) (fun _ H5 e5 => ?_)
      refine hd4_run fun pd H6 e6 hpd => ?_
      have eA := ((((e1.trans e2).trans e3).trans e4).trans e5).trans e6
      have hg : Evl.Ev (tDGet (tVar 4) (tVar 3)) [some (.ref tw), some (.ref a), some (.ref tv), some (.str "rising"), some (.ref pd), none, none, none, none, none, none] H6 (.str "above") := fun H7 e7 Q q => ⟨_, rfl, _, rfl, pd, .str "above", rfl, DGet.k (k := Sum.inr "rising") (kvs := HD4) (e7 _ _ hpd), q H7 (Ex.refl _)⟩
      refine Evl.q_when (b := false) (Evl.et_is (Evl.et_not (Evl.et_B (ev_hd (ds := [.int i, .int j]) (Evl.ev_var (v := .ref tv) rfl) hg Evl.ev_c (hd.up eA)))) rfl) (fun z => nomatch z) (fun _ H7 e7 => ?_)
      refine Evl.q_when (b := false) (Evl.et_is (Evl.et_test (Evl.ev_op (Evl.ev_var (v := .str "rising") rfl) Evl.ev_c (Evl.rv_eq rfl))) (by decide)) (fun z => nomatch z) (fun _ H8 e8 => ?_)
      refine Evl.q_when (b := true) (Evl.et_is (Evl.et_test (Evl.ev_op (Evl.ev_var (v := .str "rising") rfl) Evl.ev_c (Evl.rv_eq rfl))) (by decide)) (fun _ H9 e9 => ?_) (fun z => nomatch z)
      have eB := ((eA.trans e7).trans e8).trans e9
      have n1 : ∀ H', Ex H9 H' → Evl.Ev (tOp (rIxT K) (tVar 2) (tC (.int 1))) [some (.ref tw), some (.ref a), some (.ref tv), some (.str "rising"), some (.ref pd), none, none, none, none, none, none] H' (.int i) := fun H' e' => Evl.ev_op (Evl.ev_var (v := .ref tv) rfl) Evl.ev_c (Evl.rv_ixT (Evl.ex_t (eB.trans e') htv) rfl)
      have n2 : ∀ H', Ex H9 H' → Evl.Ev (tOp (rIxT K) (tVar 2) (tC (.int 2))) [some (.ref tw), some (.ref a), some (.ref tv), some (.str "rising"), some (.ref pd), none, none, none, none, none, none] H' (.int j) := fun H' e' => Evl.ev_op (Evl.ev_var (v := .ref tv) rfl) Evl.ev_c (Evl.rv_ixT (Evl.ex_t (eB.trans e') htv) rfl)
      have va : ∀ H', Evl.Ev (tVar 1) [some (.ref tw), some (.ref a), some (.ref tv), some (.str "rising"), some (.ref pd), none, none, none, none, none, none] H' (.ref a) := fun H' => Evl.ev_var rfl
      have kk2 : ∀ H', Ex H9 H' → Q (.bl (lab rs i true && (lab rs j false && ptLe (rat rs i.toNat).1 (rat rs j.toNat).1))) H' := fun H' e' => by
        have := kk H' (eB.trans e')
        rw [show plainK 0 (.rising (p : Int)) (abD i j) (vwF true 0 rs) (vwF false 0 rs) = isAbove (vwF true 0 rs) (vwF false 0 rs) (abD i j) from rfl, above_lab] at this
        exact this
      refine Evl.q_when (b := !(lab rs i true && lab rs j false)) (Evl.et_is (Evl.et_or (a := !lab rs i true) (b := !lab rs j false) (Evl.et_not (Evl.et_B (ev_lab (va H9) (n1 H9 (Ex.refl _)) Evl.ev_c (hv.up eB)))) fun _ => Evl.et_not (Evl.et_B (ev_lab (va H9) (n2 H9 (Ex.refl _)) Evl.ev_c (hv.up eB)))) (by simp)) (fun z H10 e10 => ?_) (fun z H10 e10 => ?_)
      · refine Evl.s_ret (v := .bl false) Evl.ev_c fun H11 e11 => ?_
        have := kk2 H11 (e10.trans e11)
        rw [← Bool.and_assoc, notT z] at this
        exact this
      · have z' := notF z
        obtain ⟨z1, z2⟩ := Bool.and_eq_true_iff.mp z'
        obtain ⟨i1, _, _⟩ := lab_get z1
        obtain ⟨i2, _, _⟩ := lab_get z2
        have hvA := hv.up (eB.trans e10)
        obtain ⟨u1, q1, hs1, hq1, g1⟩ := lv_row hvA i1
        obtain ⟨u2, q2, hs2, hq2, g2⟩ := lv_row hvA i2
        obtain ⟨r1, x1, rfl, hr1, rfl⟩ := dp_pt hq1
        obtain ⟨r2, x2, rfl, hr2, rfl⟩ := dp_pt hq2
        have l1 := hp _ (rat_mem i1)
        have l2 := hp _ (rat_mem i2)
        refine Evl.s_ret (ev_ptLe (Evl.ea_cons (Evl.ev_op (g1 _ _ _ _ (Ex.refl _) (va H10) (n1 H10 e10)) (Evl.ev_c (v := .int 0)) (Evl.rv_ixT hs1 rfl)) (Evl.ea_cons (Evl.ev_op (g2 _ _ _ _ (Ex.refl _) (va H10) (n2 H10 e10)) (Evl.ev_c (v := .int 0)) (Evl.rv_ixT hs2 rfl)) Evl.ea_nil)) hr1 hr2 (by omega) (by omega) (fun _ _ => rfl) (fun _ _ => rfl) (fun _ _ => rfl)) fun H11 e11 => ?_
        have := kk2 H11 (e10.trans e11)
        rw [← Bool.and_assoc, z'] at this
        exact this
    | boxes q =>
      obtain rfl : q = (p : Int) := hok
      obtain ⟨i, qs, rfl, hql⟩ := hsh
      obtain ⟨tw, rfl, htw⟩ := dp_two hw
      obtain ⟨tv, u, rfl, htv, hu⟩ := dp_three hd
      refine Evl.q_asg (v := .str "boxes") (Evl.ev_op (Evl.ev_var (v := .ref tw) rfl) Evl.ev_c (Evl.rv_ixT htw rfl)) fun H1 e1 => ?_
      refine Evl.q_when (b := false) (Evl.et_is (Evl.et_test (Evl.ev_op (Evl.ev_var (v := .str "boxes") rfl) Evl.ev_c (Evl.rv_eq rfl))) (by decide)) (fun z => nomatch z) (fun _ H2 e2 => ?_)
      refine Evl.q_when (b := false) (Evl.et_is (Evl.et_test (Evl.ev_op (Evl.ev_var (v := .str "boxes") rfl) Evl.ev_c (Evl.rv_eq rfl))) (by decide)) (fun z => nomatch z) (fun _ H3 e3 => ?_)
      refine Evl.q_when (b := false) (Evl.et_is (Evl.et_test (Evl.ev_inU (Evl.ev_var (v := .str "boxes") rfl) (Evl.eu_tup (Evl.ea_cons Evl.ev_c (Evl.ea_cons Evl.ev_c Evl.ea_nil)) (by decide)) rfl rfl)) (by decide)) (fun z => nomatch z) (fun _ H4 e4 => ?_)
      refine Evl.q_when (b := false) (Evl.et_is (Evl.et_test (Evl.ev_op (Evl.ev_var (v := .str "boxes") rfl) Evl.ev_c (Evl.rv_eq rfl))) (by decide)) (fun z => nomatch z) (fun _ H5 e5 => ?_)
      refine hd4_run fun pd H6 e6 hpd => ?_
      have eA := ((((e1.trans e2).trans e3).trans e4).trans e5).trans e6
      have hg : Evl.Ev (tDGet (tVar 4) (tVar 3)) [some (.ref tw), some (.ref a), some (.ref tv), some (.str "boxes"), some (.ref pd), none, none, none, none, none, none] H6 (.str "between") := fun H7 e7 Q q => ⟨_, rfl, _, rfl, pd, .str "between", rfl, DGet.k (k := Sum.inr "boxes") (kvs := HD4) (e7 _ _ hpd), q H7 (Ex.refl _)⟩
      refine Evl.q_when (b := false) (Evl.et_is (Evl.et_not (Evl.et_B (ev_hd (ds := [.int i, .list (qs.map prD)]) (Evl.ev_var (v := .ref tv) rfl) hg Evl.ev_c (hd.up eA)))) rfl) (fun z => nomatch z) (fun _ H7 e7 => ?_)
      refine Evl.q_when (b := false) (Evl.et_is (Evl.et_test (Evl.ev_op (Evl.ev_var (v := .str "boxes") rfl) Evl.ev_c (Evl.rv_eq rfl))) (by decide)) (fun z => nomatch z) (fun _ H8 e8 => ?_)
      refine Evl.q_when (b := false) (Evl.et_is (Evl.et_test (Evl.ev_op (Evl.ev_var (v := .str "boxes") rfl) Evl.ev_c (Evl.rv_eq rfl))) (by decide)) (fun z => nomatch z) (fun _ H9 e9 => ?_)
      have eB := ((eA.trans e7).trans e8).trans e9
      have n1 : ∀ H', Ex H9 H' → Evl.Ev (tOp (rIxT K) (tVar 2) (tC (.int 1))) [some (.ref tw), some (.ref a), some (.ref tv), some (.str "boxes"), some (.ref pd), none, none, none, none, none, none] H' (.int i) := fun H' e' => Evl.ev_op (Evl.ev_var (v := .ref tv) rfl) Evl.ev_c (Evl.rv_ixT (Evl.ex_t (eB.trans e') htv) rfl)
      have va : ∀ H', Evl.Ev (tVar 1) [some (.ref tw), some (.ref a), some (.ref tv), some (.str "boxes"), some (.ref pd), none, none, none, none, none, none] H' (.ref a) := fun H' => Evl.ev_var rfl
      have kk2 : ∀ H', Ex H9 H' → Q (.bl (lab rs i false && (List.range p).all fun j => encl (vwF true 0 rs) j ((rat rs i.toNat).1.getD j 0) (prD (qs.getD j (0, 0))))) H' := fun H' e' => by
        have := kk H' (eB.trans e')
        rw [show plainK 0 (.boxes (p : Int)) (beD i qs) (vwF true 0 rs) (vwF false 0 rs) = isBetween p (vwF true 0 rs) (vwF false 0 rs) (beD i qs) from rfl, between_lab hql] at this
        exact this
      refine Evl.q_when (b := !lab rs i false) (Evl.et_not (Evl.et_B (ev_lab (va H9) (n1 H9 (Ex.refl _)) Evl.ev_c (hv.up eB)))) (fun z H10 e10 => ?_) (fun z H10 e10 => ?_)
      · refine Evl.s_ret (v := .bl false) Evl.ev_c fun H11 e11 => ?_
        have := kk2 H11 (e10.trans e11)
        rw [notT z] at this
        exact this
      · have z' := notF z
        obtain ⟨i1, _, _⟩ := lab_get z'
        have eC := eB.trans e10
        obtain ⟨u1, q1, hs1, hq1, g1⟩ := lv_row (hv.up eC) i1
        obtain ⟨r1, x1, rfl, hr1, rfl⟩ := dp_pt hq1
        have l1 := hp _ (rat_mem i1)
        refine Evl.q_asg (v := .ref r1) (Evl.ev_op (g1 _ _ _ _ (Ex.refl _) (va H10) (n1 H10 e10)) (Evl.ev_c (v := .int 0)) (Evl.rv_ixT hs1 rfl)) fun H11 e11 => ?_
        refine Evl.q_when (b := false) (Evl.et_is (Evl.et_test (Evl.ev_op (Evl.ev_var (v := .str "boxes") rfl) Evl.ev_c (Evl.rv_eq rfl))) (by decide)) (fun z => nomatch z) (fun _ H12 e12 => ?_)
        have eD := (eC.trans e11).trans e12
        have e02 := e11.trans e12
        have v5 : ∀ H', Evl.Ev (tVar 5) [some (.ref tw), some (.ref a), some (.ref tv), some (.str "boxes"), some (.ref pd), some (.ref r1), none, none, none, none, none] H' (.ref r1) := fun H' => Evl.ev_var rfl
        have n2 : ∀ H', Ex H12 H' → Evl.Ev (tOp (rIxT K) (tVar 2) (tC (.int 2))) [some (.ref tw), some (.ref a), some (.ref tv), some (.str "boxes"), some (.ref pd), some (.ref r1), none, none, none, none, none] H' u := fun H' e' => Evl.ev_op (Evl.ev_var (v := .ref tv) rfl) Evl.ev_c (Evl.rv_ixT (Evl.ex_t (eD.trans e') htv) rfl)
        obtain ⟨tq, ys, rfl, hys, hya⟩ : ∃ tq ys, u = .ref tq ∧ SqL K H tq ys ∧ DpAll K H ys (qs.map prD) := by
          cases hu with
          | lst hs ha => exact ⟨_, _, rfl, hs, ha⟩
        have lys : ys.length = p := by
          have := dpa_len hya
          rw [List.length_map] at this
          omega
        have lx : ((rat rs i.toNat).1.map V.int).length = p := by rw [List.length_map, l1]
        have len5 : ∀ H', Ex H12 H' → Evl.Ev (tCB (Evl.rLenS K) (tCons (tVar 5) tNil)) [some (.ref tw), some (.ref a), some (.ref tv), some (.str "boxes"), some (.ref pd), some (.ref r1), none, none, none, none, none] H' (.int ((p : Nat) : Int)) := fun H' e' => Evl.ev_is (ev_lenS (v5 H') (.inr (Evl.ex_t (e02.trans e') hr1))) (by rw [lx])
        refine Evl.q_when (b := false) (Evl.et_is (Evl.et_or (a := false) (b := false) (Evl.et_is (Evl.et_not (Evl.et_B (ev_callD (z := .bl true) (Evl.ea_cons (n2 H12 (Ex.refl _)) Evl.ea_nil) fun H' e' Q' q' => ⟨_, qs, rfl, hu.up (eD.trans e'), by omega, q'⟩))) rfl) fun _ => Evl.et_is (Evl.et_test (Evl.ev_op (x := .int ((p : Nat) : Int)) (Evl.ev_is (ev_lenS (n2 H12 (Ex.refl _)) (.inl (Evl.ex_l eD hys))) (by rw [lys])) (len5 H12 (Ex.refl _)) (Evl.rv_ne rfl))) (by simp)) rfl) (fun z => nomatch z) (fun _ H13 e13 => ?_)
        have hf : ∀ r ∈ rs, r.1.length = p := hp
        have zz : Evl.EvL (tLc (iRng1 (tCons (tCB (Evl.rLenS K) (tCons (tVar 5) tNil)) tNil)) (gName 10) tYes (tCallD (spAr K) (tCons (tVar 1) (tCons (tVar 10) (tCons (tOp (rIxL K) (tOp (rIxT K) (tVar 2) (tC (.int 2))) (tVar 10)) (tCons (tOp (rIxT K) (tVar 5) (tVar 10)) tNil))))) [10]) [some (.ref tw), some (.ref a), some (.ref tv), some (.str "boxes"), some (.ref pd), some (.ref r1), none, none, none, none, none] H13 ((List.range p).map fun j => V.bl (encl (vwF true 0 rs) j ((rat rs i.toNat).1.getD j 0) (prD (qs.getD j (0, 0))))) := by
          refine el_rng (Evl.ea_cons (len5 H13 e13) Evl.ea_nil) (by omega) (fun _ => rfl) fun j H14 e14 hj => ?_
          obtain ⟨y, hy⟩ : ∃ y, ys[j]? = some y := ⟨_, List.getElem?_eq_getElem (by omega)⟩
          obtain ⟨dy, hd1, hd2⟩ := dpa_get hya hy
          have hqj : qs[j]? = some (qs.getD j (0, 0)) := by
            rw [List.getD_eq_getElem?_getD, List.getElem?_eq_getElem (by omega)]
            rfl
          rw [List.getElem?_map, hqj] at hd1
          cases hd1
          have eE := (eD.trans e13).trans e14
          have eF := (e02.trans e13).trans e14
          refine ev_callD (Evl.ea_cons (Evl.ev_var (v := .ref a) rfl) (Evl.ea_cons (Evl.ev_var (v := .int (j : Int)) rfl) (Evl.ea_cons (Evl.ev_op (Evl.ev_op (Evl.ev_var (v := .ref tv) rfl) (Evl.ev_c (v := .int 2)) (Evl.rv_ixT (Evl.ex_t eE htv) rfl)) (Evl.ev_var (v := .int (j : Int)) rfl) (Evl.rv_ixL (Evl.ex_l eE hys) (atI_nat (j := j) hy))) (Evl.ea_cons (Evl.ev_op (Evl.ev_var (v := .ref r1) rfl) (Evl.ev_var (v := .int (j : Int)) rfl) (Evl.rv_ixT (v := .int ((rat rs i.toNat).1.getD j 0)) (Evl.ex_t eF hr1) (atI_nat (j := j) ?_))) Evl.ea_nil)))) fun H15 e15 Q' q' => ⟨a, j, y, _, qs.getD j (0, 0), rs, p, rfl, hv.up (eE.trans e15), hd2.up (eE.trans e15), hp, hj, q'⟩
          rw [List.getElem?_map, List.getD_eq_getElem?_getD, List.getElem?_eq_getElem (by omega)]
          rfl
        refine Evl.s_ret (Evl.ev_is (ev_all (bs := (List.range p).map fun j => encl (vwF true 0 rs) j ((rat rs i.toNat).1.getD j 0) (prD (qs.getD j (0, 0)))) (by rw [List.map_map]; exact zz)) (congrArg V.bl (by rw [List.all_map]))) fun H14 e14 => ?_
        have := kk2 H14 (((e10.trans e02).trans e13).trans e14)
        rw [z'] at this
        exact this
end
end U
set_option Elab.async false
set_option linter.all false
set_option maxRecDepth 100000
set_option maxHeartbeats 4000000
/-! _law_written -/
namespace U
open PySem PySem.Spec PyProof.Rows L2
open Evl (Ex)
open C8 (Met Mak pe_mt pe_mt0 pe_mk)
abbrev s_written : Stmt := top 81
abbrev sc_written_N : List Str := ["_law_draws", "_law_spec", "_law_rows_here", "_law_numbers", "_law_pairs", "_law_places", "_law_some", "_law_k", "_law_at", "_law_entry"]
theorem sc_written : FnScope sc_written_N ["_law_draws", "_law_spec", "_law_rows_here"] (defScope s_written) := ⟨rfl, rfl, rfl, by decide +kernel, rfl, by decide +kernel, by decide +kernel⟩
section
variable {K : PySem.W.Frag} {L : List Addr} {H H2 H' : Hp} {l Dl : Addr} {m c i : Nat} {α : Type} {D : α → PyData} {A : α → Prop} {te : TE} {σ2 : L2.St}
theorem gr_exB {t : Addr} {ds : List PyData} (h : Gr K L H t ds) (e : ExB l H H') (m : l ∈ L) : Gr K L H' t ds := by
  obtain ⟨n, xs, h1, h2⟩ := h
  exact ⟨n, xs, e t _ (fun z => n (by rw [z]; exact m)) h1, h2.up (e.w (List.mem_cons_of_mem _ m))⟩
end
section
variable {K : PySem.W.Frag} {L : List Addr} {H H2 H' : Hp} {l Dl : Addr} {m c i : Nat} {α : Type} {D : α → PyData} {A : α → Prop} {te : TE} {σ2 : L2.St}
def Cdr (K : PySem.W.Frag) (L : List Addr) (H : Hp) (l Dl : Addr) (m c : Nat) (D : α → PyData) (A : α → Prop) (i : Nat) (H' : Hp) : Prop :=
  ExB l H H' ∧ Dr (m + c * i) H' l ∧ ∃ xs : List α, xs.length = i ∧ (∀ x ∈ xs, A x) ∧ Gr K L H' Dl (xs.map D)
end
section
variable {K : PySem.W.Frag} {L : List Addr} {H H2 H' : Hp} {l Dl : Addr} {m c i : Nat} {α : Type} {D : α → PyData} {A : α → Prop} {te : TE} {σ2 : L2.St}
theorem cdr_0 (hL : Hid L H) (hn : H Dl = none) (hd : Dr m H l) : Cdr K L H l Dl m c D A 0 (upd H Dl (.lst [])) :=
  ⟨ExB.of (Ex.new hn), hd.ex (Ex.new hn), [], rfl, fun x hx => (nomatch hx), gr_new hL hn .nil⟩
end
section
variable {K : PySem.W.Frag} {L : List Addr} {H H2 H' : Hp} {l Dl : Addr} {m c i : Nat} {α : Type} {D : α → PyData} {A : α → Prop} {te : TE} {σ2 : L2.St}
theorem cdr_turn (p : Cdr K L H l Dl m c D A i H2) (hn : H Dl = none) (hl : l ∈ L) (hd : H l ≠ none) (hi : i < 50000)
    (k : Hid (Dl :: L) H2 → ∀ Q : VK, (∀ u x H3, ExB l H2 H3 → Dr (m + c * (i + 1)) H3 l → A x → Dp K (W (Dl :: L) H3) u (D x) → Q u H3) → te σ2 H2 Q) (hL : Hid L H) :
    te σ2 H2 fun y H4 => ∃ acc, H4 Dl = some (.lst acc) ∧ acc.length < sizeLine ∧ Cdr K L H l Dl m c D A (i + 1) (upd H4 Dl (.lst (acc ++ [y]))) := by
  obtain ⟨e2, d2, xs, hx, ha, g⟩ := p
  have nl : Dl ≠ l := fun e => hd (by rw [← e]; exact hn)
  refine k (fun a z => (List.mem_cons.mp z).elim (fun q => by rw [q]; exact g.ne) fun q => (e2.hid d2.ne hL) a q) _ fun u x H3 e3 d3 ax hu => ?_
  obtain ⟨nD, ys, h1, h2⟩ := gr_exB g e3 hl
  have ly := dpa_len h2
  rw [List.length_map] at ly
  refine ⟨ys, h1, Evl.sz_lt (by omega), fun b o nb hb => ?_, ?_, xs ++ [x], by rw [List.length_append, hx]; rfl, fun z hz => ?_, ?_⟩
  · rw [upd_ne (ne_of_none hb hn)]
    exact e3 b o nb (e2 b o nb hb)
  · obtain ⟨a, b, c, q1, q2⟩ := d3
    exact ⟨a, b, c, by rw [upd_ne (Ne.symm nl)]; exact q1, q2⟩
  · rcases List.mem_append.mp hz with q | q
    · exact ha z q
    · rw [List.mem_singleton.mp q]
      exact ax
  · rw [List.map_append]
    exact gr_app nD h1 h2 hu
end
section
variable {P : Program} {w : World} {K : PySem.W.Frag} {mg : Str → Option Value} {base : Heap} {C U : Addr} {L : List Addr} {σ : L2.St} {H H0 H' : Hp} {l x y t t2 : Addr} {p q : Int} {ds es : List PyData} {te tf ta tb : TE} {d : PyData} {n : Nat}
theorem cut_map (ms : List Int) (lo hi : Option Int) : ∃ os : List Int, cutV (ms.map V.int) lo hi = os.map V.int ∧ os.Sublist ms := by
  unfold cutV
  rw [← List.map_drop, ← List.map_take]
  exact ⟨_, rfl, (List.take_sublist _ _).trans (List.drop_sublist _ _)⟩
end
section
variable {K : PySem.W.Frag} {L : List Addr} {H H1 H2 H' : Hp} {l Dl a : Addr} {m c i j n : Nat} {α : Type} {D : α → PyData} {A : α → Prop} {ta : TA} {te : TE} {σ σ2 : L2.St}
theorem q_lcdr {tz : TS} {Ds : Ends} (h : Evl.EvA ta σ H [.int (n : Int)]) (hn : n ≤ 40000) (hw : ∀ x, wipe ((wipe σ [j]).set j (some x)) [j] = wipe σ [j]) (hL : Hid L H) (hl : l ∈ L) (hd : Dr m H l)
    (hturn : ∀ (q : Nat) (Dl : Addr) (H2 : Hp), H Dl = none → q < n → ExB l H H2 → Dr (m + c * q) H2 l → Hid (Dl :: L) H2 → ∀ Q : VK, (∀ u y H3, ExB l H2 H3 → Dr (m + c * (q + 1)) H3 l → A y → Dp K (W (Dl :: L) H3) u (D y) → Q u H3) → te ((wipe σ [j]).set j (some (.int ((0 : Int) + (q : Int))))) H2 Q)
    (k : ∀ Dl H2 (ys : List α), H Dl = none → ExB l H H2 → Dr (m + c * n) H2 l → ys.length = n → (∀ y ∈ ys, A y) → Gr K L H2 Dl (ys.map D) → tz Ds (σ.set i (some (.ref Dl))) H2) :
    tSeq (tAsg (tLc (iRng1 ta) (gName j) tYes te [j]) (gName i)) tz Ds σ H := by
  refine h H (Ex.refl _) _ fun H1 e1 => ⟨(n : Int), rfl, by omega, by omega, fun Dl hD => ?_⟩
  rw [Int.toNat_natCast]
  have d1 := hd.ex e1
  have hL1 : Hid L H1 := hid_ex e1 hL
  refine lc_range (lo := 0) (n := n) (Cdr K L H1 l Dl m c D A) (cdr_0 hL1 hD d1) (fun q H2 hq pv => ?_) (fun H2 pv => ?_)
  · refine ⟨hw _, yes_lc (B := fun H3 => Cdr K L H1 l Dl m c D A (q + 1) H3) (cdr_turn pv hD hl d1.ne (by omega) (fun hh Q2 q2 => ?_) hL1)⟩
    obtain ⟨e2, d2, _⟩ := pv
    exact hturn q Dl H2 (Evl.fresh_back e1 hD) hq ((ExB.of e1).trans e2) d2 hh Q2 q2
  · obtain ⟨e2, d2, ys, hy, ha, g⟩ := pv
    exact k Dl H2 ys (Evl.fresh_back e1 hD) ((ExB.of e1).trans e2) d2 hy ha g
/-- what is no list stays -/
def Exl (H H' : Hp) : Prop := ∀ b o, (∀ ys, o ≠ .lst ys) → H b = some o → H' b = some o
theorem Exl.of (e : Ex H H') : Exl H H' := fun b o _ h => e b o h
def Cv (H1 : Hp) (F : V → Hp → Prop) (Dl : Addr) (i : Nat) (H' : Hp) : Prop := H1 Dl = none ∧ Ex H1 H' ∧ ∃ xs : List V, xs.length ≤ i ∧ H' Dl = some (.lst xs) ∧ ∀ x ∈ xs, F x H'
theorem cv_0 {F : V → Hp → Prop} (h : H1 Dl = none) : Cv H1 F Dl 0 (upd H1 Dl (.lst [])) := ⟨h, Ex.new h, [], Nat.le_refl _, upd_same, fun x hx => nomatch hx⟩
theorem cv_no {F : V → Hp → Prop} (hF : ∀ x H H', F x H → Exl H H' → F x H') (p : Cv H1 F Dl i H2) (e : Ex H2 H') : Cv H1 F Dl (i + 1) H' := by
  obtain ⟨p1, p2, xs, p3, p4, p5⟩ := p
  exact ⟨p1, p2.trans e, xs, by omega, e _ _ p4, fun x hx => hF _ _ _ (p5 x hx) (.of e)⟩
theorem cv_yes {F : V → Hp → Prop} (hF : ∀ x H H', F x H → Exl H H' → F x H') (p : Cv H1 F Dl i H2) (hi : i < 50000) {y : V} {H4 : Hp} (e : Ex H2 H4) (hy : F y H4) : ∃ acc, H4 Dl = some (.lst acc) ∧ acc.length < sizeLine ∧ Cv H1 F Dl (i + 1) (upd H4 Dl (.lst (acc ++ [y]))) := by
  obtain ⟨p1, p2, xs, p3, p4, p5⟩ := p
  have h4 := e _ _ p4
  have eL : Exl H4 (upd H4 Dl (.lst (xs ++ [y]))) := fun b o ho hb => by
    have nb : b ≠ Dl := fun z => by
      rw [z, h4] at hb
      cases hb
      exact ho _ rfl
    rw [upd_ne nb]
    exact hb
  refine ⟨xs, h4, Evl.sz_lt (by omega), p1, Evl.Ex.mut (p2.trans e) p1, xs ++ [y], by rw [List.length_append]; show xs.length + 1 ≤ i + 1; omega, upd_same, fun x hx => ?_⟩
  rcases List.mem_append.mp hx with hx | hx
  · exact hF _ _ _ (hF _ _ _ (p5 x hx) (.of e)) eL
  · rw [List.mem_singleton.mp hx]
    exact hF _ _ _ hy eL
/-- a number of a row -/
def Fn (n : Nat) (x : V) (_ : Hp) : Prop := ∃ k : Nat, x = .int (k : Int) ∧ k < n
def Fp (n : Nat) (x : V) (H : Hp) : Prop := ∃ u e, ∃ k : Nat, x = .ref u ∧ H u = some (.tup [.int e, .int (k : Int)]) ∧ k < n
theorem fn_mono : ∀ x H H', Fn n x H → Exl H H' → Fn n x H' := fun _ _ _ h _ => h
theorem fp_mono : ∀ x H H', Fp n x H → Exl H H' → Fp n x H' := fun _ _ _ h e => by
  obtain ⟨u, e', k, h1, h2, h3⟩ := h
  exact ⟨u, e', k, h1, e _ _ (fun ys z => by cases z) h2, h3⟩
theorem fn_list : ∀ {xs : List V}, (∀ x ∈ xs, Fn n x H) → ∃ ns : List Int, xs = ns.map V.int ∧ ∀ e ∈ ns, 0 ≤ e ∧ e < (n : Int)
  | [], _ => ⟨[], rfl, fun _ h => nomatch h⟩
  | x :: xs, h => by
    obtain ⟨ns, rfl, hb⟩ := fn_list (xs := xs) fun y hy => h y (List.mem_cons_of_mem _ hy)
    obtain ⟨k, rfl, hk⟩ := h x (List.mem_cons_self ..)
    exact ⟨(k : Int) :: ns, rfl, fun e he => by
      rcases List.mem_cons.mp he with rfl | he
      · omega
      · exact hb e he⟩
end
section
variable {P : Program} {w : World} {K : PySem.W.Frag} {mg : Str → Option Value} {base : Heap} {H H1 H2 H' : Hp} {l t : Addr} {rs : List Rw2} {σ : L2.St}
/-- rows at t -/
theorem row_at {xs : List V} (ha : DpAll K H xs (rs.map rD)) {k : Nat} (hk : k < rs.length) : ∃ u pv, xs[k]? = some (.ref u) ∧ SqT K H u [pv, .bl (rat rs k).2] ∧ Dp K H pv (ptD (rat rs k).1) := by
  have hl := lv_len ha
  obtain ⟨v, hv⟩ : ∃ v, xs[k]? = some v := ⟨_, List.getElem?_eq_getElem (by omega)⟩
  obtain ⟨d, hd1, hd2⟩ := dpa_get ha hv
  rw [List.getElem?_map, rat_get hk] at hd1
  cases hd1
  obtain ⟨u, pv, rfl, hs, hp⟩ := dp_row hd2
  exact ⟨u, pv, hv, hs, hp⟩
def spWr (K : PySem.W.Frag) : Sp := fun vs H Q _ => ∃ l w t m k, ∃ rs : List Rw2, ∃ p, vs = [.ref l, w, .ref t] ∧ Dr m H l ∧ m < 600000 ∧ Hid [l] H ∧ Dp K (W [l] H) w (kdD k) ∧ Gr K [l] H t (rs.map rD) ∧ rs.length ≤ 100 ∧ okK ((p : Nat) : Int) k ∧ (kiOf k = .ri ∨ kiOf k = .bo ∨ kiOf k = .tu) ∧ 1 ≤ p ∧ p ≤ 3 ∧ (∀ r ∈ rs, r.1.length = p) ∧
  ∀ v d H', ExB l H H' → Dr (m + 20) H' l → Dp K (W [l] H') v d → Shp p k d → Q v H'
theorem ok_written {f : Addr} {fd : FuncData} (F : Fun K "_law_written" "_law_written" s_written f fd) (T : TxV mg) (D_draw : DefAt P w K mg base "_law_draw" 1 ["_law_draws", "_law_many"] spDraw) (D_pick : DefAt P w K mg base "_law_pick" 2 ["_law_draws", "_law_things"] (spPickV K)) : FnOk P w K mg base CX0 3 f fd ["_law_draws", "_law_spec", "_law_rows_here"] (spWr K) := by
  refine F.ok sc_written (fun vs H Q E h => ?_) (fun cdv A outer s H vs Q E hr h => ?_)
  · obtain ⟨_, _, _, _, _, _, _, rfl, _⟩ := h
    rfl
  · obtain ⟨l, w, t, m, k, rs, p, rfl, hd, hm, hL, hw, hg, hz, hok, hki, p1, p3, hp, kk⟩ := h
    refine ⟨_, (pss_cons (ps_set (i := 3) sc_written.nd rfl (by first | exact Or.inl rfl | exact Or.inr rfl) (pe_lc (own := [("_law_k", 7)]) (g := gName 7) (tt := tYes) (te := tCallD spDraw (tCons (tVar 0) (tCons (tOp (rI0 fun i j => .int (i + j)) (tCB (Evl.rLenS K) (tCons (tVar 2) tNil)) (tC (.int 1))) tNil))) (by rfl) sc_written.nd (pi_range1 (by rfl) T.m_range (pa_cons pe_int pa_nil)) (blkOk_by (N := sc_written_N) (sc := defScope s_written) (by decide +kernel)) (fun _ _ _ _ _ => (pg_name (i := 7) sc_written.nd rfl (by first | exact Or.inl rfl | exact Or.inr rfl))) (fun _ _ _ _ _ => pts_nil) (fun _ _ _ _ _ => (pe_callD D_draw (by first | exact hr | exact hr.mono (by decide) | exact hr.mono (by omega)) (by rfl) (pa_cons (pv 0) (pa_cons (pe_op op_add (pe_callB call_len_seq (by rfl) T.m_len (by decide +kernel) (pa_cons (pv 2) pa_nil)) pe_int) pa_nil))))))
    (pss_cons (ps_if (pt_cmpR op_eq (pe_ix ix_tup (pv 1) pe_int (fun _ _ => rfl)) pe_str (nomark _)) (pss_one (ps_ret (pe_tup (pa_cons pe_str (pa_cons (pe_ix ix_list (pv 3) pe_int (fun _ _ => rfl)) (pa_cons (pe_ix ix_list (pv 3) pe_int (fun _ _ => rfl)) pa_nil)))))) pss_nil)
    (pss_cons (ps_if (pt_cmpR op_eq (pe_ix ix_tup (pv 1) pe_int (fun _ _ => rfl)) pe_str (nomark _)) (pss_cons (ps_setLc (i := 4) (own := [("_law_k", 7)]) (g := gName 7) (tt := tYes) (by rfl) sc_written.nd rfl rfl (sw_true rfl rfl rfl (by decide +kernel)) (pi_range1 (by rfl) T.m_range (pa_cons (pe_ix ix_tup (pv 1) pe_int (fun _ _ => rfl)) pa_nil)) (blkOk_by (N := sc_written_N) (sc := defScope s_written) (by decide +kernel)) (fun _ _ _ _ _ => (pg_name (i := 7) sc_written.nd rfl (by first | exact Or.inl rfl | exact Or.inr rfl))) (fun _ _ _ _ _ => pts_nil) (fun _ _ _ _ _ => (pe_tup (pa_cons (pe_callD D_pick (by first | exact hr | exact hr.mono (by decide) | exact hr.mono (by omega)) (by rfl) (pa_cons (pv 0) (pa_cons (pv 3) pa_nil))) (pa_cons (pe_callD D_pick (by first | exact hr | exact hr.mono (by decide) | exact hr.mono (by omega)) (by rfl) (pa_cons (pv 0) (pa_cons (pv 3) pa_nil))) pa_nil)))))
      (pss_one (ps_ret (pe_tup (pa_cons pe_str (pa_cons (pe_ix ix_list (pv 3) pe_int (fun _ _ => rfl)) (pa_cons (pv 4) pa_nil))))))) pss_nil)
    (pss_cons (ps_set (i := 5) sc_written.nd rfl (by first | exact Or.inl rfl | exact Or.inr rfl) (pe_callB (cr_sortedP) (by rfl) T.m_sorted (by decide +kernel) (pa_cons (pe_lc (own := [("_law_at", 8)]) (g := gName 8) (tt := tTest (tOp (rI0 (fun a b => .bl (decide (a < b)))) (tVar 8) (tCB (Evl.rLenS K) (tCons (tVar 2) tNil)))) (te := tTup (tCons (tOp (rIxT K) (tOp (rIxT K) (tOp (rIxL K) (tVar 2) (tVar 8)) (tC (.int 0))) (tC (.int 0))) (tCons (tVar 8) tNil))) (by rfl) sc_written.nd (pi_list (pv 3)) (blkOk_by (N := sc_written_N) (sc := defScope s_written) (by decide +kernel)) (fun _ _ _ _ _ => (pg_name (i := 8) sc_written.nd rfl (by first | exact Or.inl rfl | exact Or.inr rfl))) (fun _ _ _ _ _ => pts_one (pt_cmpR op_lt (pv 8) (pe_callB call_len_seq (by rfl) T.m_len (by decide +kernel) (pa_cons (pv 2) pa_nil)) (nomark _))) (fun _ _ _ _ _ => (pe_tup (pa_cons (pe_ix ix_tup (pe_ix ix_tup (pe_ix ix_list (pv 2) (pv 8) (fun _ _ => rfl)) pe_int (fun _ _ => rfl)) pe_int (fun _ _ => rfl)) (pa_cons (pv 8) pa_nil))))) pa_nil)))
    (pss_cons (ps_set (i := 6) sc_written.nd rfl (by first | exact Or.inl rfl | exact Or.inr rfl) (pe_lc (own := [("_law_entry", 9), ("_law_at", 8)]) (g := gTup K 2 (gCons (gName 9) (gCons (gName 8) (gNil)))) (tt := tYes) (te := tVar 8) (by rfl) sc_written.nd (pi_list (pv 5)) (blkOk_by (N := sc_written_N) (sc := defScope s_written) (by decide +kernel)) (fun _ _ _ _ _ => (pg_tup (by rfl) (pgs_cons (pg_name (i := 9) sc_written.nd rfl (by first | exact Or.inl rfl | exact Or.inr rfl)) (pgs_cons (pg_name (i := 8) sc_written.nd rfl (by first | exact Or.inl rfl | exact Or.inr rfl)) pgs_nil)))) (fun _ _ _ _ _ => pts_nil) (fun _ _ _ _ _ => (pv 8))))
    (pss_cons (ps_if (pt_cmpR op_eq (pe_callD D_draw (by first | exact hr | exact hr.mono (by decide) | exact hr.mono (by omega)) (by rfl) (pa_cons (pv 0) (pa_cons pe_int pa_nil))) pe_int (nomark _)) (pss_one (ps_set (i := 6) sc_written.nd rfl (by first | exact Or.inl rfl | exact Or.inr rfl) (pe_lc (own := [("_law_k", 7), ("_law_at", 8)]) (g := gTup K 2 (gCons (gName 7) (gCons (gName 8) (gNil)))) (tt := tOr (tTest (tOp rEq (tVar 7) (tC (.int 0)))) (tTest (tOp rNe (tOp (rIxT K) (tOp (rIxL K) (tVar 2) (tVar 8)) (tC (.int 1))) (tOp (rIxT K) (tOp (rIxL K) (tVar 2) (tOp (rIxL K) (tVar 6) (tOp (rI0 fun i j => .int (i - j)) (tVar 7) (tC (.int 1))))) (tC (.int 1)))))) (te := tVar 8) (by rfl) sc_written.nd (pi_enumA (by rfl) T.m_enumerate (pa_cons (pv 6) pa_nil)) (blkOk_by (N := sc_written_N) (sc := defScope s_written) (by decide +kernel)) (fun _ _ _ _ _ => (pg_tup (by rfl) (pgs_cons (pg_name (i := 7) sc_written.nd rfl (by first | exact Or.inl rfl | exact Or.inr rfl)) (pgs_cons (pg_name (i := 8) sc_written.nd rfl (by first | exact Or.inl rfl | exact Or.inr rfl)) pgs_nil)))) (fun _ _ _ _ _ => pts_one (PW.pt (pw_or (pt_cmpR op_eq (pv 7) pe_int (nomark _)) (pw_or1 (pt_cmpR op_ne (pe_ix ix_tup (pe_ix ix_list (pv 2) (pv 8) (fun _ _ => rfl)) pe_int (fun _ _ => rfl)) (pe_ix ix_tup (pe_ix ix_list (pv 2) (pe_ix ix_list (pv 6) (pe_op op_sub (pv 7) pe_int) (fun _ _ => rfl)) (fun _ _ => rfl)) pe_int (fun _ _ => rfl)) (nomark _)))))) (fun _ _ _ _ _ => (pv 8))))) pss_nil)
    (pss_one (ps_ret (pe_tup (pa_cons pe_str (pa_cons (pe_slice sl_list (pv 6) po_none (po_some (pe_callD D_draw (by first | exact hr | exact hr.mono (by decide) | exact hr.mono (by omega)) (by rfl) (pa_cons (pv 0) (pa_cons (pe_op op_add (pe_callB call_len_seq (by rfl) T.m_len (by decide +kernel) (pa_cons (pv 6) pa_nil)) pe_int) pa_nil))))) pa_nil))))))))))), ?_⟩
    have hlL : l ∈ [l] := List.mem_cons_self ..
    obtain ⟨htL, xs, hxt, hxa⟩ := id hg
    have lxs := lv_len hxa
    have tl : t ≠ l := fun z => htL (by rw [z]; exact hlL)
    refine q_lcdr (K := K) (L := [l]) (l := l) (m := m) (c := 1) (n := 6) (D := PyData.int) (A := fun y : Int => 0 ≤ y ∧ y ≤ (rs.length : Int)) (Evl.ea_cons (Evl.ev_c (v := .int 6)) Evl.ea_nil) (by decide) (fun _ => rfl) hL hlL hd (fun q Dl H2 hD hq e2 d2 hh Q2 q2 => ?_) fun D1 H1 ns hD1 e1 d1 hns hnb g1 => ?_
    · have hx2 : H2 t = some (.lst xs) := e2 _ _ tl hxt
      exact draw_run (n := m + 1 * q) (many := (rs.length : Int) + 1) rfl d2 (by omega) (Evl.ev_op (x := .int (rs.length : Int)) (y := .int 1) (Evl.ev_is (ev_lenS (a := t) (xs := xs) (Evl.ev_var (v := .ref t) rfl) (.inl (SqL.of hx2))) (by rw [lxs])) Evl.ev_c (Evl.rv_I0 (g := fun i j => .int (i + j)))) (by omega) (by omega) fun r H3 r0 r1 d3 e3 => q2 _ r H3 e3 (d3.up (by omega)) ⟨r0, by omega⟩ (.int r)
    · have d1 := d1.up (show m + 1 * 6 ≤ m + 6 by omega)
      have hL1 : Hid [l] H1 := e1.hid d1.ne hL
      have hw1 := hw.up (e1.w hlL)
      have hg1 := hg.exB e1 hlL
      obtain ⟨nD1, ys, hy1, hya⟩ := id g1
      obtain rfl := dpi_inv hya
      have D1l : D1 ≠ l := fun z => nD1 (by rw [z]; exact hlL)
      obtain ⟨n0, n1, rest, rfl⟩ : ∃ n0 n1 rest, ns = n0 :: n1 :: rest := by
        match ns, hns with
        | a :: b :: r, _ => exact ⟨a, b, r, rfl⟩
      have hxt1 : H1 t = some (.lst xs) := e1 _ _ tl hxt
      have hxa1 : DpAll K (W [l] H1) xs (rs.map rD) := by
        obtain ⟨_, xs2, h1, h2⟩ := hg1
        rw [hxt1] at h1
        cases h1
        exact h2.up w_cons
      cases k with
      | halves q => rcases hki with h | h | h <;> cases h
      | flats q => rcases hki with h | h | h <;> cases h
      | no k => rcases hki with h | h | h <;> cases h
      | both k m => rcases hki with h | h | h <;> cases h
      | either k m => rcases hki with h | h | h <;> cases h
      | any k m => rcases hki with h | h | h <;> cases h
      | rising q =>
        obtain ⟨tw, rfl, htw⟩ := dp_two (hw1.up w_sub)
        refine Evl.q_when (b := true) (Evl.et_is (Evl.et_test (Evl.ev_op (Evl.ev_op (Evl.ev_var (v := .ref tw) rfl) Evl.ev_c (Evl.rv_ixT htw rfl)) Evl.ev_c (Evl.rv_eq rfl))) (by decide)) (fun _ H2 e2 => ?_) (fun z => nomatch z)
        have nx : ∀ (j : Nat) e, (n0 :: n1 :: rest)[j]? = some e → ∀ H', Ex H2 H' → Evl.Ev (tOp (rIxL K) (tVar 3) (tC (.int (j : Int)))) [some (.ref l), some (.ref tw), some (.ref t), some (.ref D1), none, none, none, none, none, none] H' (.int e) := fun j e hj H' e' => Evl.ev_op (Evl.ev_var (v := .ref D1) rfl) Evl.ev_c (Evl.rv_ixL (SqL.of ((e2.trans e') _ _ hy1)) (atI_nat (j := j) (by rw [List.getElem?_map, hj]; rfl)))
        refine Evl.eu_tup (Evl.ea_cons (Evl.ev_c (v := .str "above")) (Evl.ea_cons (nx 0 n0 rfl H2 (Ex.refl _)) (Evl.ea_cons (nx 1 n1 rfl H2 (Ex.refl _)) Evl.ea_nil))) (by simp) H2 (Ex.refl _) _ fun r H3 hr e3 hr3 => ?_
        have eA : ExB l H1 H3 := ExB.of (e2.trans e3)
        have nr : r ∉ [l] := hid_not (hid_ex e2 hL1) hr
        exact kk (.ref r) (abD n0 n1) H3 (e1.trans eA) ((d1.ex (e2.trans e3)).up (by omega)) (.tup (SqT.of (w_of nr hr3)) (.cons (.str _) (.cons (.int _) (.cons (.int _) .nil)))) ⟨n0, n1, rfl⟩
      | boxes q =>
        obtain rfl : q = (p : Int) := hok
        obtain ⟨tw, rfl, htw⟩ := dp_two (hw1.up w_sub)
        refine Evl.q_when (b := false) (Evl.et_is (Evl.et_test (Evl.ev_op (Evl.ev_op (Evl.ev_var (v := .ref tw) rfl) Evl.ev_c (Evl.rv_ixT htw rfl)) Evl.ev_c (Evl.rv_eq rfl))) (by decide)) (fun z => nomatch z) (fun _ H2 e2 => ?_)
        refine Evl.q_when (b := true) (Evl.et_is (Evl.et_test (Evl.ev_op (Evl.ev_op (Evl.ev_var (v := .ref tw) rfl) Evl.ev_c (Evl.rv_ixT (Evl.ex_t e2 htw) rfl)) Evl.ev_c (Evl.rv_eq rfl))) (by decide)) (fun _ H3 e3 => ?_) (fun z => nomatch z)
        have e13 := e2.trans e3
        have d3 := d1.ex e13
        have hL3 := hid_ex e13 hL1
        refine q_lcdr (K := K) (L := [l]) (l := l) (m := m + 6) (c := 2) (n := p) (D := prD) (A := fun _ => True) (Evl.ea_cons (Evl.ev_op (Evl.ev_var (v := .ref tw) rfl) (Evl.ev_c (v := .int 1)) (Evl.rv_ixT (Evl.ex_t e13 htw) rfl)) Evl.ea_nil) (by omega) (fun _ => rfl) hL3 hlL d3 (fun q Dl H4 hD hq e4 d4 hh Q2 q2 => ?_) fun D2 H4 qs hD2 e4 d4 hqs _ g2 => ?_
        · have hy3 : H3 D1 = some (.lst ((n0 :: n1 :: rest).map V.int)) := e13 _ _ hy1
          have hy4 : H4 D1 = some (.lst ((n0 :: n1 :: rest).map V.int)) := e4 _ _ D1l hy3
          have lns : ((n0 :: n1 :: rest).map V.int).length = 6 := by rw [List.length_map, hns]
          have hl2 : l ∈ (Dl :: [l]) := List.mem_cons_of_mem _ hlL
          refine ⟨_, rfl, _, rfl, l, D1, _, m + 6 + 2 * q, [l], rfl, d4, by omega, hlL, SqL.of (w_of nD1 hy4), by omega, by omega, fun v1 o1 hv1 d5 => ?_⟩
          have e5 : ExB l H4 (upd H4 l o1) := ExB.upd
          generalize upd H4 l o1 = H5 at d5 e5 ⊢
          refine ⟨_, rfl, _, rfl, l, D1, _, m + 6 + 2 * q + 1, [l], rfl, d5, by omega, hlL, SqL.of (w_of nD1 (e5 _ _ D1l hy4)), by omega, by omega, fun v2 o2 hv2 d6 => ?_⟩
          have e6 : ExB l H5 (upd H5 l o2) := ExB.upd
          generalize upd H5 l o2 = H6 at d6 e6 ⊢
          obtain ⟨x1, _, rfl⟩ := List.mem_map.mp hv1
          obtain ⟨x2, _, rfl⟩ := List.mem_map.mp hv2
          refine ⟨by rw [sizeLine_eq]; show 2 ≤ 16777216; decide, fun r hr => ?_⟩
          have nr : r ∉ (Dl :: [l]) := hid_not (((e5.trans e6)).hid d6.ne hh) hr
          exact q2 _ (x1, x2) _ ((e5.trans e6).trans (ExB.of (Ex.new hr))) ((d6.ex (Ex.new hr)).up (by omega)) trivial (.tup (SqT.of (w_of nr upd_same)) (.cons (.int _) (.cons (.int _) .nil)))
        · have hy3 : H3 D1 = some (.lst ((n0 :: n1 :: rest).map V.int)) := e13 _ _ hy1
          have hy4 : H4 D1 = some (.lst ((n0 :: n1 :: rest).map V.int)) := e4 _ _ D1l hy3
          have hL4 := e4.hid d4.ne hL3
          refine Evl.eu_tup (Evl.ea_cons (Evl.ev_c (v := .str "between")) (Evl.ea_cons (Evl.ev_op (Evl.ev_var (v := .ref D1) rfl) (Evl.ev_c (v := .int 0)) (Evl.rv_ixL (v := .int n0) (SqL.of hy4) (atI_nat (j := 0) rfl))) (Evl.ea_cons (Evl.ev_var (v := .ref D2) rfl) Evl.ea_nil))) (by simp) H4 (Ex.refl _) _ fun r H5 hr e5 hr5 => ?_
          have nr : r ∉ [l] := hid_not hL4 hr
          exact kk (.ref r) (beD n0 qs) H5 (((e1.trans (ExB.of e13)).trans e4).trans (ExB.of e5)) ((d4.ex e5).up (by omega)) (.tup (SqT.of (w_of nr hr5)) (.cons (.str _) (.cons (.int _) (.cons ((g2.up e5).dp) .nil)))) ⟨n0, qs, rfl, hqs⟩
      | turns mo =>
        obtain ⟨tw, rfl, htw⟩ := dp_two (hw1.up w_sub)
        refine Evl.q_when (b := false) (Evl.et_is (Evl.et_test (Evl.ev_op (Evl.ev_op (Evl.ev_var (v := .ref tw) rfl) Evl.ev_c (Evl.rv_ixT htw rfl)) Evl.ev_c (Evl.rv_eq rfl))) (by decide)) (fun z => nomatch z) (fun _ H2 e2 => ?_)
        refine Evl.q_when (b := false) (Evl.et_is (Evl.et_test (Evl.ev_op (Evl.ev_op (Evl.ev_var (v := .ref tw) rfl) Evl.ev_c (Evl.rv_ixT (Evl.ex_t e2 htw) rfl)) Evl.ev_c (Evl.rv_eq rfl))) (by decide)) (fun z => nomatch z) (fun _ H3 e3 => ?_)
        have e13 := e2.trans e3
        have e03 : ExB l H H3 := e1.trans (ExB.of e13)
        have d3 := d1.ex e13
        have hL3 := hid_ex e13 hL1
        have hy3 : H3 D1 = some (.lst ((n0 :: n1 :: rest).map V.int)) := e13 _ _ hy1
        have hxt3 : H3 t = some (.lst xs) := e13 _ _ hxt1
        have hxa3 : DpAll K H3 xs (rs.map rD) := (hxa1.up w_sub).up e13
        obtain ⟨p1', _, _⟩ := hok
        have hp1 : p = 1 := by omega
        refine ⟨_, rfl, D1, rfl, ⟨_, SqL.of hy3⟩, fun Dl hDl => lc_it (walk_list (xs := (n0 :: n1 :: rest).map V.int)) (Cv H3 (Fp rs.length) Dl) (cv_0 hDl) (fun i H4 _ pv => SqL.of (pv.2.1 _ _ hy3)) (fun i x H4 H5 hi pv y => ?_) (fun H4 pv => ?_)⟩
        · obtain ⟨rfl, hu⟩ := y
          rw [List.getElem?_map] at hu
          obtain ⟨e, he, rfl⟩ := Option.map_eq_some_iff.mp hu
          obtain ⟨e0, e9⟩ := hnb e (List.mem_of_getElem? he)
          have e34 := pv.2.1
          rw [List.length_map, hns] at hi
          refine ⟨rfl, Evl.et_test (Evl.ev_op (x := .int e) (y := .int (rs.length : Int)) (Evl.ev_var rfl) (Evl.ev_is (ev_lenS (a := t) (xs := xs) (Evl.ev_var (v := .ref t) rfl) (.inl (SqL.of (e34 _ _ hxt3)))) (by rw [lxs])) (Evl.rv_I0 (g := fun a b => .bl (decide (a < b))))) _ (Ex.refl _) _ fun H6 e6 => ?_⟩
          by_cases hlt : e < (rs.length : Int)
          · rw [if_pos (by simp [hlt])]
            obtain ⟨u, pvv, hu1, hs1, hpv⟩ := row_at (hxa3.up (e34.trans e6)) (k := e.toNat) (by omega)
            have hr1 : (rat rs e.toNat).1.length = p := hp _ (List.mem_of_getElem? (rat_get (by omega)))
            refine Evl.eu_tup (Evl.ea_cons (ev_ent (e := (rat rs e.toNat).1.getD 0 0) (Evl.ev_op (Evl.ev_op (Evl.ev_var (v := .ref t) rfl) (Evl.ev_var (v := .int e) rfl) (Evl.rv_ixL (v := .ref u) (SqL.of ((e34.trans e6) _ _ hxt3)) (by have := atI_nat (j := e.toNat) hu1; rw [show ((e.toNat : Nat) : Int) = e by omega] at this; exact this))) (Evl.ev_c (v := .int 0)) (Evl.rv_ixT hs1 rfl)) hpv (Evl.ev_c (v := .int 0)) (by decide) ?_) (Evl.ea_cons (Evl.ev_var (v := .int e) rfl) Evl.ea_nil)) (by simp) H6 (Ex.refl _) _ fun r H7 hr e7 hr7 => cv_yes fp_mono pv (by omega) (e6.trans e7) ⟨r, _, e.toNat, rfl, by rw [show ((e.toNat : Nat) : Int) = e by omega]; exact hr7, by omega⟩
            show (rat rs e.toNat).1[0]? = _
            rw [List.getD_eq_getElem?_getD, List.getElem?_eq_getElem (by omega)]
            rfl
          · rw [if_neg (by simp [hlt])]
            exact cv_no fp_mono pv e6
        · obtain ⟨pn, eP, ys, hyl, hys, hF⟩ := pv
          rw [List.length_map, hns] at hyl
          refine ⟨Dl, ys, rfl, SqL.of hys, fun x hx => ?_, fun zs q hperm hq => ?_⟩
          · obtain ⟨u, e, k, h1, h2, _⟩ := hF x hx
            exact ⟨u, e, _, h1, h2⟩
          have hF5 : ∀ x ∈ zs, Fp rs.length x (upd H4 q (.lst zs)) := fun x hx => fp_mono _ _ _ (hF x (hperm.mem_iff.mp hx)) (.of (Ex.new hq))
          have hzl : zs.length ≤ 6 := by rw [hperm.length_eq]; exact hyl
          have e35 : Ex H3 (upd H4 q (.lst zs)) := eP.trans (Ex.new hq)
          have hq5 : (upd H4 q (.lst zs)) q = some (.lst zs) := upd_same
          generalize upd H4 q (.lst zs) = H5 at hF5 e35 hq5 ⊢
          refine ⟨_, rfl, q, rfl, ⟨_, SqL.of hq5⟩, fun D2 hD2 => lc_it (walk_list (xs := zs)) (Cv H5 (Fn rs.length) D2) (cv_0 hD2) (fun i H6 _ pv => SqL.of (pv.2.1 _ _ hq5)) (fun i x H6 H7 hi pv y => ?_) (fun H6 pv => ?_)⟩
          · obtain ⟨rfl, hu⟩ := y
            obtain ⟨u, e, k, rfl, h2, h3⟩ := hF5 x (List.mem_of_getElem? hu)
            have h26 := pv.2.1 _ _ h2
            refine ⟨u, [.int e, .int (k : Int)], rfl, SqT.of h26, rfl, .int e, [.int (k : Int)], rfl, .int (k : Int), [], rfl, rfl, rfl, ?_⟩
            exact yes_lc (A := fun H3 => tVar 8 _ H3 fun y H4 => ∃ acc, H4 D2 = some (.lst acc) ∧ acc.length < sizeLine ∧ Cv H5 (Fn rs.length) D2 (i + 1) (upd H4 D2 (.lst (acc ++ [y])))) (B := fun H3 => Cv H5 (Fn rs.length) D2 (i + 1) H3) ⟨_, rfl, cv_yes fn_mono pv (by omega) (Ex.refl _) ⟨k, rfl, h3⟩⟩
          · obtain ⟨pn2, eP2, ms, hml, hms, hFm⟩ := pv
            have e36 := e35.trans eP2
            have d6 := d3.ex e36
            have D2l : D2 ≠ l := fun z => by
              have := d6
              obtain ⟨_, _, _, h1, _⟩ := d3.ex e35
              rw [← z, pn2] at h1
              cases h1
            obtain ⟨os, rfl, hob⟩ := fn_list hFm
            have hol : os.length ≤ 6 := by rw [List.length_map] at hml; omega
            refine draw_run (n := m + 6) (many := 2) rfl d6 (by omega) Evl.ev_c (by omega) (by omega) fun r H7 r0 r1 d7 e7 => ⟨rfl, _, rfl, ?_⟩
            have hms7 : H7 D2 = some (.lst (os.map V.int)) := e7 _ _ D2l hms
            have hxt7 : H7 t = some (.lst xs) := e7 _ _ tl (e36 _ _ hxt3)
            have hxa7 : DpAll K H7 xs (rs.map rD) := by
              have : DpAll K (W [l] H7) xs (rs.map rD) := by
                have h1 : DpAll K (W [l] H) xs (rs.map rD) := hxa.up w_cons
                exact h1.up (((e03.trans (ExB.of e36)).trans e7).w hlL)
              exact this.up w_sub
            have e07 : ExB l H H7 := (e03.trans (ExB.of e36)).trans e7
            have hL7 : Hid [l] H7 := e07.hid d7.ne hL
            -- the end: a slice
            have fin : ∀ (D3 : Addr) (os : List Int) (H8 : Hp), Ex H7 H8 → H8 D3 = some (.lst (os.map V.int)) → os.length ≤ 6 → D3 ≠ l → tRet (tTup (tCons (tC (.str "turns")) (tCons (tSl (rSlL K) (tVar 6) tNoPart (tPart (tCallD spDraw (tCons (tVar 0) (tCons (tOp (rI0 fun i j => .int (i + j)) (tCB (Evl.rLenS K) (tCons (tVar 6) tNil)) (tC (.int 1))) tNil))))) tNil))) { nx := fun _ H' => Q .non H', rt := Q } [some (.ref l), some (.ref tw), some (.ref t), some (.ref D1), none, some (.ref q), some (.ref D3), none, none, none] H8 := fun D3 os H8 e8 hD3 hos hne => by
              have d8 := d7.ex e8
              refine ⟨_, rfl, ?_⟩
              refine draw_run (n := m + 6 + 1) (many := (os.length : Int) + 1) rfl d8 (by omega) (Evl.ev_op (x := .int (os.length : Int)) (y := .int 1) (Evl.ev_is (ev_lenS (a := D3) (xs := os.map V.int) (Evl.ev_var (v := .ref D3) rfl) (.inl (SqL.of hD3))) (by rw [List.length_map])) Evl.ev_c (Evl.rv_I0 (g := fun i j => .int (i + j)))) (by omega) (by omega) fun s H9 s0 s1 d9 e9 => ?_
              refine ⟨s, rfl, D3, _, rfl, SqL.of (e9 _ _ hne hD3), fun z hz => ?_⟩
              obtain ⟨ps, hps, hsub⟩ := cut_map os none (some s)
              rw [hps]
              refine ⟨by rw [sizeLine_eq]; show 2 ≤ 16777216; decide, fun y hy => ?_⟩
              have lps : ps.length ≤ 900 := Nat.le_trans hsub.length_le (by omega)
              have eA : Ex H9 (upd (upd H9 z (.lst (ps.map V.int))) y (.tup [.str "turns", .ref z])) := (Ex.new hz).trans (Ex.new hy)
              have e0A := ((e07.trans (ExB.of e8)).trans e9).trans (ExB.of eA)
              have hL9 := ((e07.trans (ExB.of e8)).trans e9).hid d9.ne hL
              have nz : z ∉ [l] := hid_not hL9 hz
              have ny : y ∉ [l] := hid_not (hid_ex (Ex.new hz) hL9) hy
              have zy : z ≠ y := fun h => by
                rw [← h, upd_same] at hy
                cases hy
              exact kk (.ref y) (tuD ps) _ e0A ((d9.ex eA).up (by omega)) (.tup (SqT.of (w_of ny upd_same)) (.cons (.str _) (.cons (.lst (SqL.of (w_of nz (by rw [upd_ne zy]; exact upd_same))) (dpa_ints ps)) .nil))) ⟨ps, rfl, lps⟩
            refine ite2 (fun hb => ?_) (fun hb => fin D2 os H7 (Ex.refl _) hms7 hol D2l)
            refine ⟨_, rfl, D2, _, rfl, .inl ⟨SqL.of hms7, fun D3 hD3 => lc_it (walk_enum (xs := os.map V.int)) (Cv H7 (Fn rs.length) D3) (cv_0 hD3) (fun i H8 _ pv => SqL.of (pv.2.1 _ _ hms7)) (fun i x H8 H9 hi pv y => ?_) (fun H8 pv => ?_)⟩⟩
            · obtain ⟨T2, u, z, rfl, hT, rfl, hu, hz2⟩ := y
              cases hu
              have hz2' : (os.map V.int)[i]? = some z := hz2
              rw [List.getElem?_map] at hz2'
              obtain ⟨e, he, rfl⟩ := Option.map_eq_some_iff.mp hz2'
              obtain ⟨eb0, eb1⟩ := hob e (List.mem_of_getElem? he)
              rw [List.length_map] at hi
              have e78 := pv.2.1
              have e79 : Ex H8 (upd H8 T2 (.tup [.int (i : Int), .int e])) := Ex.new hT
              refine ⟨T2, [.int (i : Int), .int e], rfl, SqT.of upd_same, rfl, .int (i : Int), [.int e], rfl, .int e, [], rfl, rfl, rfl, ?_⟩
              have labE : ∀ {te : TE} {σ : L2.St} {H9 : Hp} {k : Nat}, Ex H7 H9 → k < rs.length → Evl.Ev te σ H9 (.int (k : Int)) → σ[2]? = some (some (.ref t)) → Evl.Ev (tOp (rIxT K) (tOp (rIxL K) (tVar 2) te) (tC (.int 1))) σ H9 (.bl (rat rs k).2) := fun {te σ H9 k} e9 hk h h2 => by
                obtain ⟨u, pvv, hu1, hs1, _⟩ := row_at (hxa7.up e9) hk
                exact Evl.ev_op (Evl.ev_op (Evl.ev_var h2) h (Evl.rv_ixL (v := .ref u) (SqL.of (e9 _ _ hxt7)) (atI_nat (j := k) hu1))) Evl.ev_c (Evl.rv_ixT hs1 rfl)
              have ee : e = ((e.toNat : Nat) : Int) := by omega
              by_cases hi0 : i = 0
              · subst hi0
                refine Evl.et_is (b := true) (Evl.et_or (a := true) (b := true) (Evl.et_is (Evl.et_test (Evl.ev_op (x := .int ((0 : Nat) : Int)) (Evl.ev_var rfl) Evl.ev_c (Evl.rv_eq rfl))) (by decide)) fun z => nomatch z) rfl _ (Ex.refl _) _ fun H10 e10 => ?_
                rw [if_pos rfl]
                exact ⟨_, rfl, cv_yes fn_mono pv (by omega) (e79.trans e10) ⟨e.toNat, by rw [← ee], by omega⟩⟩
              · obtain ⟨e', he'⟩ : ∃ e', os[i - 1]? = some e' := ⟨_, List.getElem?_eq_getElem (by omega)⟩
                obtain ⟨eb0', eb1'⟩ := hob e' (List.mem_of_getElem? he')
                have ee' : e' = ((e'.toNat : Nat) : Int) := by omega
                have prv : Evl.Ev (tOp (rIxL K) (tVar 6) (tOp (rI0 fun i j => .int (i - j)) (tVar 7) (tC (.int 1)))) [some (.ref l), some (.ref tw), some (.ref t), some (.ref D1), none, some (.ref q), some (.ref D2), some (.int (i : Int)), some (.int e), none] (upd H8 T2 (.tup [.int (i : Int), .int e])) (.int ((e'.toNat : Nat) : Int)) := by
                  rw [← ee']
                  refine Evl.ev_op (Evl.ev_var (v := .ref D2) rfl) (Evl.ev_op (x := .int (i : Int)) (y := .int 1) (Evl.ev_var rfl) Evl.ev_c (Evl.rv_I0 (g := fun i j => .int (i - j)))) (Evl.rv_ixL (SqL.of ((e78.trans e79) _ _ hms7)) ?_)
                  have := atI_nat (xs := os.map V.int) (j := i - 1) (v := .int e') (by rw [List.getElem?_map, he']; rfl)
                  rw [show (((i - 1 : Nat) : Nat) : Int) = (i : Int) - 1 by omega] at this
                  exact this
                refine Evl.et_is (b := (rat rs e.toNat).2 != (rat rs e'.toNat).2) (Evl.et_or (a := false) (b := (rat rs e.toNat).2 != (rat rs e'.toNat).2) (Evl.et_is (Evl.et_test (Evl.ev_op (x := .int (i : Int)) (Evl.ev_var rfl) Evl.ev_c (Evl.rv_eq rfl))) (decide_eq_false fun z => by injection z with z; omega)) fun _ => Evl.et_is (Evl.et_test (ev_neB (labE (e78.trans e79) (by omega) (Evl.ev_var (v := .int ((e.toNat : Nat) : Int)) (by rw [← ee]; rfl)) rfl) (labE (e78.trans e79) (by omega) prv rfl))) ?_) rfl _ (Ex.refl _) _ fun H10 e10 => ?_
                · cases (rat rs e.toNat).2 <;> cases (rat rs e'.toNat).2 <;> rfl
                · refine ite2 (fun _ => ⟨_, rfl, cv_yes fn_mono pv (by omega) (e79.trans e10) ⟨e.toNat, by rw [← ee], by omega⟩⟩) (fun _ => cv_no fn_mono pv (e79.trans e10))
            · obtain ⟨pn3, eP3, ms3, hml3, hms3, hFm3⟩ := pv
              obtain ⟨os3, rfl, hob3⟩ := fn_list hFm3
              have D3l : D3 ≠ l := fun z => by
                obtain ⟨_, _, _, h1, _⟩ := d7
                rw [← z, pn3] at h1
                cases h1
              exact fin D3 os3 H8 eP3 hms3 (by rw [List.length_map, List.length_map] at hml3; omega) D3l
end
end U
set_option Elab.async false
set_option linter.all false
set_option maxRecDepth 100000
set_option maxHeartbeats 4000000
/-! trees about a right pair -/
namespace U
open PySem PySem.Spec PyProof.Rows L2
open Evl (Ex)
open C8 (Met Mak pe_mt pe_mt0 pe_mk)
abbrev s_trees_right : Stmt := top 82
abbrev sc_trees_right_N : List Str := ["_law_spec", "_law_rows_here", "_law_shown", "_law_kind", "_law_sample", "_law_bad", "_law_tree_here", "_law_found", "_law_at", "_law_row"]
theorem sc_trees_right : FnScope sc_trees_right_N ["_law_spec", "_law_rows_here", "_law_shown"] (defScope s_trees_right) := ⟨rfl, rfl, rfl, by decide +kernel, rfl, by decide +kernel, by decide +kernel⟩
def trD (n : Int) (a b : PyData) : PyData := .tuple [.str "split", .int n, a, b]
def onD (a : PyData) : PyData := .tuple [.str "one", a]
def otD (a : PyData) : PyData := .tuple [.str "other", a]
def thD (i j : Int) : PyData := trD j (onD (abD i j)) (otD (abD i j))
section
variable {pa pb : PyData → Vw → Vw → Bool} {t : Nat} {n i j : Int} {a b : PyData} {kept left ones others m : Vw} {p pi pj : List Int}
theorem treeK_split : treeK pa pb (t + 1) (trD n a b) kept left ones others = ((vget left n).isSome && (treeK pa pb t a kept (vdrop left n) (vput ones n ((vget left n).getD [])) others && treeK pa pb t b kept (vdrop left n) ones (vput others n ((vget left n).getD [])))) := by
  have h : treeK pa pb (t + 1) (trD n a b) kept left ones others = if isF "one" 2 (trD n a b) then pa (el (trD n a b) 1) kept ones
    else if isF "other" 2 (trD n a b) then pb (el (trD n a b) 1) kept others
    else (isF "split" 4 (trD n a b) && isNum left (el (trD n a b) 1)) &&
      (treeK pa pb t (el (trD n a b) 2) kept (vdrop left (valI (el (trD n a b) 1))) (vput ones (valI (el (trD n a b) 1)) (ptOf left (el (trD n a b) 1))) others &&
        treeK pa pb t (el (trD n a b) 3) kept (vdrop left (valI (el (trD n a b) 1))) ones (vput others (valI (el (trD n a b) 1)) (ptOf left (el (trD n a b) 1)))) := rfl
  rw [h, if_neg (show ¬ isF "one" 2 (trD n a b) = true from fun z => by cases z), if_neg (show ¬ isF "other" 2 (trD n a b) = true from fun z => by cases z)]
  rfl
theorem treeK_one : treeK pa pb (t + 1) (onD a) kept left ones others = pa a kept ones := by
  unfold treeK
  rw [if_pos (show isF "one" 2 (onD a) = true from rfl)]
  rfl
theorem treeK_other : treeK pa pb (t + 1) (otD a) kept left ones others = pb a kept others := by
  unfold treeK
  rw [if_neg (show ¬ isF "one" 2 (otD a) = true from fun z => by cases z), if_pos (show isF "other" 2 (otD a) = true from rfl)]
  rfl
theorem abv : isAbove m left (abD i j) = ((vget m i).isSome && ((vget left j).isSome && ptLe ((vget m i).getD []) ((vget left j).getD []))) := rfl
theorem vget_app {q : Int × List Int} : vget (m ++ [q]) i = (vget m i).or (if q.1 = i then some q.2 else none) := by
  unfold vget
  rw [List.find?_append]
  cases m.find? (fun q => decide (q.1 = i)) with
  | some y => rfl
  | none =>
    by_cases h : q.1 = i <;> simp [h]
theorem vget_map : ∀ {m : Vw}, (vget m i).isSome = true → vget (m.map fun q => if q.1 = i then (q.1, p) else q) i = some p
  | [], h => by cases h
  | q :: m, h => by
    rw [List.map_cons]
    by_cases hq : q.1 = i
    · rw [if_pos hq, vget_cons, if_pos hq]
    · have hc : vget (q :: m) i = vget m i := by
        obtain ⟨a, b⟩ := q
        rw [vget_cons, if_neg hq]
      rw [hc] at h
      obtain ⟨a, b⟩ := q
      rw [if_neg hq, vget_cons, if_neg hq]
      exact vget_map h
theorem vget_vput : vget (vput m i p) i = some p := by
  unfold vput
  split
  · rename_i h
    exact vget_map h
  · rename_i h
    rw [vget_app]
    cases hm : vget m i with
    | some y => rw [hm] at h; exact absurd rfl h
    | none => simp
theorem vget_vdrop : ∀ {m : Vw}, vget (vdrop m n) j = if j = n then none else vget m j
  | [] => by
    split <;> rfl
  | (a, b) :: m => by
    unfold vdrop
    rw [List.filter_cons]
    have ih : vget (m.filter fun q => decide (q.1 ≠ n)) j = if j = n then none else vget m j := vget_vdrop (m := m)
    by_cases ha : a = n
    · subst ha
      simp only [ne_eq, not_true_eq_false, decide_false, Bool.false_eq_true, if_false]
      refine ih.trans ?_
      by_cases hj : j = a
      · rw [if_pos hj, if_pos hj]
      · rw [if_neg hj, if_neg hj, vget_cons, if_neg (fun z => hj z.symm)]
    · simp only [ne_eq, ha, not_false_eq_true, decide_true, if_true]
      rw [vget_cons, vget_cons]
      by_cases hj : a = j
      · subst hj
        rw [if_pos rfl, if_pos rfl, if_neg ha]
      · rw [if_neg hj, if_neg hj]
        exact ih
theorem th_true {q : Int} {N : Nat} (hi : vget kept i = some pi) (hj : vget left j = some pj) (hle : ptLe pi pj = true) : treeK (plainK N (.rising q)) (plainK N (.rising q)) (t + 2) (thD i j) kept left ones others = true := by
  unfold thD
  rw [treeK_split, treeK_one, treeK_other]
  rw [show plainK N (.rising q) (abD i j) kept (vput ones j ((vget left j).getD [])) = isAbove kept (vput ones j ((vget left j).getD [])) (abD i j) from rfl, show plainK N (.rising q) (abD i j) kept (vput others j ((vget left j).getD [])) = isAbove kept (vput others j ((vget left j).getD [])) (abD i j) from rfl, abv, abv, vget_vput, vget_vput, hi, hj]
  simp [hle]
theorem tr_b {q : Int} {N : Nat} (hi : vget kept i = some pi) (hj : vget left j = some pj) (hle : ptLe pi pj = true) (hn : (vget left n).isSome = true) (ne : n ≠ j) : treeK (plainK N (.rising q)) (plainK N (.rising q)) (t + 3) (trD n (thD i j) (thD i j)) kept left ones others = true := by
  have hj2 : vget (vdrop left n) j = some pj := by rw [vget_vdrop, if_neg (Ne.symm ne)]; exact hj
  rw [treeK_split, th_true hi hj2 hle, th_true hi hj2 hle, hn]
  rfl
theorem tr_c {d e : PyData} : treeK pa pb (t + 2) (trD n (trD n d e) a) kept left ones others = false := by
  rw [treeK_split, treeK_split, vget_vdrop, if_pos rfl]
  simp
theorem tr_d {q : Int} {N : Nat} (ne : n ≠ j) : treeK (plainK N (.rising q)) pb (t + 2) (trD n (onD (abD i j)) a) kept left [] others = false := by
  rw [treeK_split, treeK_one]
  rw [show plainK N (.rising q) (abD i j) kept (vput [] n ((vget left n).getD [])) = isAbove kept (vput [] n ((vget left n).getD [])) (abD i j) from rfl, abv]
  have h0 : vget (vput [] n ((vget left n).getD [])) j = none := by
    show vget [(n, (vget left n).getD [])] j = none
    rw [vget_cons, if_neg ne]
    rfl
  rw [h0]
  simp
theorem fits_ab : fits 1 (abD i j) := ⟨by show 3 ≤ 40000; decide, fun e he => by
  have : e = .str "above" ∨ e = .int i ∨ e = .int j := by simpa using he
  rcases this with h | h | h <;> (subst h; trivial)⟩
theorem fits_two {z : Str} (h : fits t a) : fits (t + 1) (.tuple [.str z, a]) := ⟨by show 2 ≤ 40000; decide, fun e he => by
  have : e = .str z ∨ e = a := by simpa using he
  rcases this with h' | h'
  · subst h'
    cases t <;> trivial
  · subst h'
    exact h⟩
theorem fits_tr (ha : fits t a) (hb : fits t b) : fits (t + 1) (trD n a b) := ⟨by show 4 ≤ 40000; decide, fun e he => by
  have : e = .str "split" ∨ e = .int n ∨ e = a ∨ e = b := by simpa using he
  rcases this with h | h | h | h
  · subst h
    cases t <;> trivial
  · subst h
    cases t <;> trivial
  · subst h
    exact ha
  · subst h
    exact hb⟩
theorem fits_th : fits 3 (thD i j) := fits_tr (fits_two fits_ab) (fits_two fits_ab)
end
section
variable {P : Program} {w : World} {K : PySem.W.Frag} {mg : Str → Option Value} {base : Heap} {C : Addr} {c : KC} {σ : L2.St} {H H1 H2 H' : Hp}
/-- is_certificate with its defaults -/
def spCr (K : PySem.W.Frag) (C : Addr) (c : KC) : Sp := fun vs H Q E => spCt K C c 6 2 (vs ++ [.int 0, .non]) H Q E
theorem ev_cert {tk ts te : TE} {k : Kd} {y : Addr} {p : Nat} {rs : List Rw2} {d : PyData} (hk : EvK c [] tk σ H k) (hs : Evl.Ev ts σ H (.ref y)) (he : EvD K [] te σ H d) (hS : Smp K [] H y C ((p : Nat) : Int) (rs.map rD)) (ho : okC k) (hd : depK k ≤ 2) (hok : okK ((p : Nat) : Int) k) (p3 : p ≤ 3)
    (hz : rs.length ≤ 900) (hp : ∀ r ∈ rs, r.1.length = p) (hf : fits 6 d) : Evl.Ev (tCallD (spCr K C c) (tCons tk (tCons ts (tCons te tNil)))) σ H (.bl (plainK 6 k d (vwF true 0 rs) (vwF false 0 rs))) := fun H1 e Q q =>
  hk H1 e _ fun x H2 hx e2 hkx => hs H2 (e.trans e2) _ fun H3 e3 => he H3 ((e.trans e2).trans e3) _ fun v H4 e4 hv => by
    have eA := ((e.trans e2).trans e3).trans e4
    exact ⟨x, y, v, k, d, rs, p, rfl, (hkx.up (w_ex (e3.trans e4))).up w_sub, ho, hd, hok, p3, hS.up eA, hz, hp, (hv.up w_sub).q, hf, fun H5 e5 => q H5 (((e2.trans e3).trans e4).trans e5)⟩
theorem q_par3 {ta : TA} {D : Ends} {tz : TS} {i j l : Nat} {P : V → V → V → Hp → Prop} (h : ∀ Q : List V → Hp → Prop, (∀ u v w H1, P u v w H1 → Q [u, v, w] H1) → ta σ H Q) (k : ∀ u v w H1, P u v w H1 → tz D (((σ.set i (some u)).set j (some v)).set l (some w)) H1) : tSeq (tPar3 i j l ta) tz D σ H :=
  h _ fun u v w H1 p => ⟨u, v, w, rfl, k u v w H1 p⟩
theorem q_asgDt {L : List Addr} {te : TE} {d : PyData} {D : Ends} {tz : TS} {i : Nat} (h : EvD K L te σ H d) (k : ∀ v H1, Ex H H1 → Dp K (W L H1) v d → tz D (σ.set i (some v)) H1) : tSeq (tAsg te (gName i)) tz D σ H := h H (Ex.refl _) _ k
def spTR (K : PySem.W.Frag) : Sp := fun vs H Q _ => ∃ w t v, ∃ p : Nat, ∃ rs : List Rw2, ∃ xs i j, vs = [w, .ref t, v] ∧ Dp K H w (kdD (.rising p)) ∧ SqL K H t xs ∧ DpAll K H xs (rs.map rD) ∧ rs.length ≤ 100 ∧ (∀ r ∈ rs, r.1.length = p) ∧ 1 ≤ p ∧ p ≤ 3 ∧ Dp K H v (abD i j) ∧ isAbove (vwF true 0 rs) (vwF false 0 rs) (abD i j) = true ∧ ∀ H', Ex H H' → Q (.bl true) H'
end
section
variable {K : PySem.W.Frag} {L : List Addr} {σ : L2.St} {H : Hp} {t1 t2 te : TE} {d : PyData}
theorem dpa_bools {H : Hp} : ∀ bs : List Bool, DpAll K H (bs.map V.bl) (bs.map PyData.bool)
  | [] => .nil
  | b :: bs => .cons (.bl b) (dpa_bools bs)
end
section
variable {P : Program} {w : World} {K : PySem.W.Frag} {mg : Str → Option Value} {base : Heap} {C : Addr}
theorem same_ev {σ : L2.St} {H : Hp} {te tf : TE} {d : PyData} {n : Nat} (h1 : EvD K [] te σ H d) (h2 : EvD K [] tf σ H d) (hf : fits n d) : Evl.Ev (tCallD (spSame K n) (tCons te (tCons tf tNil))) σ H (.bl true) := fun H1 e Q q =>
  h1 H1 e _ fun v H2 e2 hv => h2 H2 (e.trans e2) _ fun w H3 e3 hw => ⟨v, w, d, rfl, (hv.up (w_ex e3)).up w_sub, hw.up w_sub, hf, fun H4 e4 => q H4 ((e2.trans e3).trans e4)⟩
end
section
variable {P : Program} {w : World} {K : PySem.W.Frag} {mg : Str → Option Value} {base : Heap} {C : Addr} {c : KC} {σ : L2.St} {H H1 H2 H' : Hp}
theorem rep_true : ∀ n : Nat, (List.replicate n [V.bl true]).flatten = (List.replicate n true).map V.bl
  | 0 => rfl
  | n + 1 => by
    rw [List.replicate_succ, List.flatten_cons, rep_true n]
    rfl
theorem ok_trees_right {f : Addr} {fd : FuncData} (F : Fun K "_law_trees_right" "_law_trees_right" s_trees_right f fd) (T : TxV mg) (O : KOp P w K mg base c) (N_Sample : Mak P w K mg base 5 "Sample" C (spInit K C) []) (l : Nat) (hl : 10 ≤ l) (D_built : DefAt P w K mg base "_law_built" 7 ["_law_spec"] (spBuiltP K c 1))
    (D_is_certificate : DefR P w K mg base "is_certificate" l (spCr K C c)) (D_same : DefAt P w K mg base "_law_same" 5 ["_law_found", "_law_due"] (spSame K 1)) : FnOk P w K mg base CX0 (l + 1) f fd ["_law_spec", "_law_rows_here", "_law_shown"] (spTR K) := by
  refine F.ok sc_trees_right (fun vs H Q E h => ?_) (fun cdv A outer s H vs Q E hr h => ?_)
  · obtain ⟨_, _, _, _, _, _, _, _, rfl, _⟩ := h
    rfl
  · obtain ⟨w, t, v, p, rs, xs, i, j, rfl, hw, hs, ha, hz, hp, p1, p3, hd, hab, kk⟩ := h
    refine ⟨_, (pss_cons (ps_par3 (i := 3) (j := 4) (l := 5) (by rfl) sc_trees_right.nd rfl rfl rfl (by decide) (by decide) (by decide) rfl rfl rfl (pa_cons (pe_callD D_built (by first | exact hr | exact hr.mono (by decide) | exact hr.mono (by omega)) (by rfl) (pa_cons (pv 0) pa_nil)) (pa_cons (pe_mk N_Sample hr (by omega) (by rfl) (pa_cons (pe_ix ix_tup (pv 0) pe_int (fun _ _ => rfl)) (pa_cons (pv 1) pa_nil))) (pa_cons (pe_ix ix_tup (pv 2) pe_int (fun _ _ => rfl)) pa_nil))) (by rfl))
    (pss_cons (ps_set (i := 6) sc_trees_right.nd rfl (by first | exact Or.inl rfl | exact Or.inr rfl) (pe_tup (pa_cons pe_str (pa_cons (pv 5) (pa_cons (pe_tup (pa_cons pe_str (pa_cons (pv 2) pa_nil))) (pa_cons (pe_tup (pa_cons pe_str (pa_cons (pv 2) pa_nil))) pa_nil))))))
    (pss_cons (ps_set (i := 7) sc_trees_right.nd rfl (by first | exact Or.inl rfl | exact Or.inr rfl) (pe_lst (pa_cons (pe_callR D_is_certificate (hr.mono (by omega)) (by rfl) (pa_cons (pe_k2 O.and O.sub hr (by omega) (pv 3) (pv 3)) (pa_cons (pv 4) (pa_cons (pv 6) pa_nil)))) pa_nil)))
    (pss_cons (ps_for PassesOwn.never rfl (pi_enumA (by rfl) T.m_enumerate (pa_cons (pv 1) pa_nil)) (pg_tup (by rfl) (pgs_cons (pg_name (i := 8) sc_trees_right.nd rfl (by first | exact Or.inl rfl | exact Or.inr rfl)) (pgs_cons (pg_name (i := 9) sc_trees_right.nd rfl (by first | exact Or.inl rfl | exact Or.inr rfl)) pgs_nil)))
      (pss_one (ps_if (PW.pt (pw_and (pt_not (pt_val (pe_ix ix_tup (pv 9) pe_int (fun _ _ => rfl)))) (pw_and1 (pt_cmpR op_ne (pv 8) (pv 5) (nomark _))))) (pss_cons (ps_expr (pe_bm PySem.F.plainAttrs_list PySem.F.slot_list_append PySem.F.type_list_append mt_append (pv 7) (pa_cons (pe_callR D_is_certificate (hr.mono (by omega)) (by rfl) (pa_cons (pe_k2 O.and O.sub hr (by omega) (pv 3) (pv 3)) (pa_cons (pv 4) (pa_cons (pe_tup (pa_cons pe_str (pa_cons (pv 8) (pa_cons (pv 6) (pa_cons (pv 6) pa_nil))))) pa_nil)))) pa_nil)))
        (pss_cons (ps_expr (pe_bm PySem.F.plainAttrs_list PySem.F.slot_list_append PySem.F.type_list_append mt_append (pv 7) (pa_cons (pe_not (pe_callR D_is_certificate (hr.mono (by omega)) (by rfl) (pa_cons (pe_k2 O.and O.sub hr (by omega) (pv 3) (pv 3)) (pa_cons (pv 4) (pa_cons (pe_tup (pa_cons pe_str (pa_cons (pv 8) (pa_cons (pe_tup (pa_cons pe_str (pa_cons (pv 8) (pa_cons (pv 6) (pa_cons (pv 6) pa_nil))))) (pa_cons (pv 6) pa_nil))))) pa_nil))))) pa_nil)))
        (pss_one (ps_expr (pe_bm PySem.F.plainAttrs_list PySem.F.slot_list_append PySem.F.type_list_append mt_append (pv 7) (pa_cons (pe_not (pe_callR D_is_certificate (hr.mono (by omega)) (by rfl) (pa_cons (pe_k2 O.and O.sub hr (by omega) (pv 3) (pv 3)) (pa_cons (pv 4) (pa_cons (pe_tup (pa_cons pe_str (pa_cons (pv 8) (pa_cons (pe_tup (pa_cons pe_str (pa_cons (pv 2) pa_nil))) (pa_cons (pv 6) pa_nil))))) pa_nil))))) pa_nil)))))) pss_nil)))
    (pss_one (ps_ret (pe_callD D_same (by first | exact hr | exact hr.mono (by decide) | exact hr.mono (by omega)) (by rfl) (pa_cons (pv 7) (pa_cons (pe_op op_rep (pe_lst (pa_cons pe_bl pa_nil)) (pe_callB call_len_seq (by rfl) T.m_len (by decide +kernel) (pa_cons (pv 7) pa_nil))) pa_nil))))))))), ?_⟩
    have hok : okK ((p : Nat) : Int) (.rising ((p : Nat) : Int)) := rfl
    have hokb : okK ((p : Nat) : Int) (.both (.rising ((p : Nat) : Int)) (.rising ((p : Nat) : Int))) := ⟨rfl, rfl⟩
    obtain ⟨tw, rfl, htw⟩ := dp_two hw
    obtain ⟨tv, u0, rfl, htv, hu0⟩ := dp_three hd
    cases hu0
    rw [abv] at hab
    obtain ⟨ha1, hab⟩ := Bool.and_eq_true_iff.mp hab
    obtain ⟨ha2, hle⟩ := Bool.and_eq_true_iff.mp hab
    obtain ⟨pi, hpi⟩ := Option.isSome_iff_exists.mp ha1
    obtain ⟨pj, hpj⟩ := Option.isSome_iff_exists.mp ha2
    rw [hpi, hpj] at hle
    have hle : ptLe pi pj = true := hle
    have hR : Rws ((p : Nat) : Int) (rs.map rD) := ⟨by rw [List.length_map]; omega, fun d hd => by
      obtain ⟨r, hr, rfl⟩ := List.mem_map.mp hd
      exact ⟨r.1, r.2, rfl, by rw [hp r hr], by rw [hp r hr]; omega⟩⟩
    refine q_par3 (P := fun u v w H3 => ∃ x y, u = .ref x ∧ v = .ref y ∧ w = .int j ∧ Ex H H3 ∧ Kin c H3 (.rising (p : Int)) x ∧ Smp K [] H3 y C ((p : Nat) : Int) (rs.map rD)) (fun Q' q' => ?_) (fun u1 u2 u3 H3 hP => ?_)
    · refine ev_built (K := K) (c := c) (L := []) (k := .rising (p : Int)) (n := 0) (p := (p : Int)) (Evl.ev_var (v := .ref tw) rfl) hid_nil (by rw [w_nil]; exact hw) hok (by omega) (by omega) (Nat.le_refl _) H (Ex.refl _) _ fun x H1 hx e1 hk1 => ?_
      refine mk_run (K := K) (L := []) (C := C) (p := (p : Int)) (ds := rs.map rD) (σ := start sc_trees_right_N [.ref tw, .ref t, .ref tv]) (Evl.ev_op (Evl.ev_var (v := .ref tw) rfl) (Evl.ev_c (v := .int 1)) (Evl.rv_ixT (Evl.ex_t e1 htw) rfl)) (.inl (evd_of (Evl.ev_var (v := .ref t) rfl) (by rw [w_nil]; exact .lst (Evl.ex_l e1 hs) (ha.up e1)))) hid_nil (by omega) (by omega) hR H1 (Ex.refl _) _ fun y H2 e2 hS => ?_
      exact Evl.ea_cons (σ := start sc_trees_right_N [.ref tw, .ref t, .ref tv]) (Evl.ev_op (Evl.ev_var (v := .ref tv) rfl) (Evl.ev_c (v := .int 2)) (Evl.rv_ixT (v := .int j) (Evl.ex_t (e1.trans e2) htv) rfl)) Evl.ea_nil H2 (Ex.refl _) _ fun H3 e3 => q' _ _ _ _ ⟨x, y, rfl, rfl, rfl, (e1.trans e2).trans e3, (hk1.up w_sub).up (e2.trans e3), hS.up e3⟩
    obtain ⟨x, y, rfl, rfl, rfl, e13, hk3, hS3⟩ := hP
    have dsh : ∀ {H' : Hp}, Ex H3 H' → Dp K (W [] H') (.ref tv) (abD i j) := fun e => by rw [w_nil]; exact hd.up (e13.trans e)
    have tE : EvD K [] (tTup (tCons (tC (.str "split")) (tCons (tVar 5) (tCons (tTup (tCons (tC (.str "one")) (tCons (tVar 2) tNil))) (tCons (tTup (tCons (tC (.str "other")) (tCons (tVar 2) tNil))) tNil))))) [some (.ref tw), some (.ref t), some (.ref tv), some (.ref x), some (.ref y), some (.int j), none, none, none, none] H3 (thD i j) :=
      evd_tup (ds := [.str "split", .int j, onD (abD i j), otD (abD i j)]) hid_nil (evds_cons (evd_of Evl.ev_c (.str _)) (evds_cons (evd_evI (Evl.ev_var rfl)) (evds_cons (evd_tup (ds := [.str "one", abD i j]) hid_nil (evds_cons (evd_of Evl.ev_c (.str _)) (evds_cons (evd_of (Evl.ev_var (v := .ref tv) rfl) (dsh (Ex.refl _))) evds_nil)) (by simp)) (evds_cons (evd_tup (ds := [.str "other", abD i j]) hid_nil (evds_cons (evd_of Evl.ev_c (.str _)) (evds_cons (evd_of (Evl.ev_var (v := .ref tv) rfl) (dsh (Ex.refl _))) evds_nil)) (by simp)) evds_nil)))) (by simp)
    show tSeq (tAsg _ (gName 6)) _ _ [some (.ref tw), some (.ref t), some (.ref tv), some (.ref x), some (.ref y), some (.int j), none, none, none, none] H3
    refine q_asgDt tE fun vt H4 e4 hvt => ?_
    show tSeq _ _ _ [some (.ref tw), some (.ref t), some (.ref tv), some (.ref x), some (.ref y), some (.int j), some vt, none, none, none] H4
    rw [w_nil] at hvt
    have hvt : Dp K H4 vt (thD i j) := hvt
    have e14 := e13.trans e4
    have hk4 : Kin c H4 (.rising (p : Int)) x := hk3.up e4
    have hS4 := hS3.up e4
    -- a certificate of the two together
    have crt : ∀ {σ : L2.St} {te : TE} {d : PyData} {H' : Hp}, Ex H4 H' → σ[3]? = some (some (.ref x)) → σ[4]? = some (some (.ref y)) → EvD K [] te σ H' d → fits 6 d → Evl.Ev (tCallD (spCr K C c) (tCons (tK2 c (spPr c .both) (tVar 3) (tVar 3)) (tCons (tVar 4) (tCons te tNil)))) σ H' (.bl (treeK (plainK 6 (.rising (p : Int))) (plainK 6 (.rising (p : Int))) 6 d (vwF true 0 rs) (vwF false 0 rs) [] [])) := fun {σ te d H'} e h3 h4 hd hf =>
      ev_cert (k := .both (.rising (p : Int)) (.rising (p : Int))) (evk_2 (Evl.ev_var h3) (Evl.ev_var h3) hid_nil (by rw [w_nil]; exact hk4.up e) (by rw [w_nil]; exact hk4.up e) rfl) (Evl.ev_var h4) hd (hS4.up e) ⟨trivial, trivial⟩ (by show 0 + 1 ≤ 2; omega) hokb p3 (by omega) hp hf
    have one : treeK (plainK 6 (.rising (p : Int))) (plainK 6 (.rising (p : Int))) 6 (thD i j) (vwF true 0 rs) (vwF false 0 rs) [] [] = true := th_true (t := 4) hpi hpj hle
    refine Evl.q_asgL (xs := [.bl true]) (Evl.el_lst (Evl.ea_cons (Evl.ev_is (crt (Ex.refl _) rfl rfl (evd_of (Evl.ev_var (v := vt) rfl) (by rw [w_nil]; exact hvt)) (fits_up (by omega) fits_th)) (by rw [one])) Evl.ea_nil) (by decide)) fun Df H5 hDf e5 hf5 => ?_
    show tSeq _ _ _ [some (.ref tw), some (.ref t), some (.ref tv), some (.ref x), some (.ref y), some (.int j), some vt, some (.ref Df), none, none] H5
    have lxs := lv_len ha
    let Pv : Nat → L2.St → Hp → Prop := fun i' σ' H' => Ex H4 H' ∧ (∃ n, n ≤ 1 + 3 * i' ∧ H' Df = some (.lst ((List.replicate n true).map V.bl))) ∧ ∃ o8 o9, σ' = [some (.ref tw), some (.ref t), some (.ref tv), some (.ref x), some (.ref y), some (.int j), some vt, some (.ref Df), o8, o9]
    have hs4 := Evl.ex_l e14 hs
    refine ⟨_, rfl, t, xs, rfl, .inl ⟨Evl.ex_l e5 hs4, for_it (walk_enum (xs := xs)) Pv ⟨e5, ⟨1, by omega, hf5⟩, _, _, rfl⟩ (fun i' σ' H' _ pv => Evl.ex_l pv.1 hs4) (fun i' z σ' H6 H7 hi pv yp => ?_) (fun σ' H6 pv => ?_)⟩⟩
    · obtain ⟨e46, ⟨n, hn, hfn⟩, o8, o9, rfl⟩ := pv
      obtain ⟨T2, u1, u2, rfl, hT, rfl, hu1, hu2⟩ := yp
      cases hu1
      have hu2' : xs[i']? = some u2 := hu2
      obtain ⟨u, pvv, hxu, hsu, hpu⟩ := row_at (ha.up (e14.trans e46)) (k := i') (by omega)
      rw [hxu] at hu2'
      cases hu2'
      have e67 : Ex H6 (upd H6 T2 (.tup [.int (i' : Int), .ref u])) := Ex.new hT
      refine ⟨T2, [.int (i' : Int), .ref u], rfl, SqT.of upd_same, rfl, .int (i' : Int), [.ref u], rfl, .ref u, [], rfl, rfl, ?_⟩
      have hf7 := e67 _ _ hfn
      have e47 := e46.trans e67
      generalize upd H6 T2 (.tup [.int (i' : Int), .ref u]) = H7 at e67 hf7 e47 ⊢
      have lab9 : Evl.Ev (tOp (rIxT K) (tVar 9) (tC (.int 1))) [some (.ref tw), some (.ref t), some (.ref tv), some (.ref x), some (.ref y), some (.int j), some vt, some (.ref Df), some (.int (i' : Int)), some (.ref u)] H7 (.bl (rat rs i').2) := Evl.ev_op (Evl.ev_var (v := .ref u) rfl) Evl.ev_c (Evl.rv_ixT (Evl.ex_t e67 hsu) rfl)
      refine Evl.s_when (b := !(rat rs i').2 && !decide (V.int (i' : Int) = V.int j)) (Evl.et_and (Evl.et_not (Evl.et_B lab9)) fun _ => Evl.et_test (Evl.ev_op (Evl.ev_var (v := .int (i' : Int)) rfl) (Evl.ev_var (v := .int j) rfl) (Evl.rv_ne rfl))) (fun z H8 e8 => ?_) (fun _ H8 e8 => ⟨e47.trans e8, ⟨n, by omega, e8 _ _ hf7⟩, _, _, rfl⟩)
      obtain ⟨z1, z2⟩ := Bool.and_eq_true_iff.mp z
      have ne : (i' : Int) ≠ j := fun h => by
        rw [h] at z2
        simp at z2
      have hgi : (vget (vwF false 0 rs) (i' : Int)).isSome = true := by
        have : lab rs (i' : Int) false = true := by
          rw [lab_eq]
          have h1 : inR rs (i' : Int) = true := by
            unfold inR
            simp
            omega
          rw [h1, show (((i' : Nat) : Int)).toNat = i' by omega, notT z1]
          rfl
        exact this
      have e48 := e47.trans e8
      have hf8 := e8 _ _ hf7
      have vth : ∀ {H' : Hp}, Ex H4 H' → EvD K [] (tVar 6) [some (.ref tw), some (.ref t), some (.ref tv), some (.ref x), some (.ref y), some (.int j), some vt, some (.ref Df), some (.int (i' : Int)), some (.ref u)] H' (thD i j) := fun e => evd_of (Evl.ev_var (v := vt) rfl) (by rw [w_nil]; exact hvt.up e)
      have v8 : ∀ {H' : Hp}, EvD K [] (tVar 8) [some (.ref tw), some (.ref t), some (.ref tv), some (.ref x), some (.ref y), some (.int j), some vt, some (.ref Df), some (.int (i' : Int)), some (.ref u)] H' (.int (i' : Int)) := evd_evI (Evl.ev_var rfl)
      have trE : ∀ {H' : Hp} {ta tb : TE} {a b : PyData}, EvD K [] ta [some (.ref tw), some (.ref t), some (.ref tv), some (.ref x), some (.ref y), some (.int j), some vt, some (.ref Df), some (.int (i' : Int)), some (.ref u)] H' a → EvD K [] tb [some (.ref tw), some (.ref t), some (.ref tv), some (.ref x), some (.ref y), some (.int j), some vt, some (.ref Df), some (.int (i' : Int)), some (.ref u)] H' b →
          EvD K [] (tTup (tCons (tC (.str "split")) (tCons (tVar 8) (tCons ta (tCons tb tNil))))) [some (.ref tw), some (.ref t), some (.ref tv), some (.ref x), some (.ref y), some (.int j), some vt, some (.ref Df), some (.int (i' : Int)), some (.ref u)] H' (trD (i' : Int) a b) := fun h1 h2 => evd_tup hid_nil (evds_cons (evd_of Evl.ev_c (.str _)) (evds_cons v8 (evds_cons h1 (evds_cons h2 evds_nil)))) (by simp)
      have dfx : ∀ {n' : Nat} {H' : Hp} {b : Bool}, (List.replicate n' true).map V.bl ++ [V.bl true] = (List.replicate (n' + 1) true).map V.bl := fun {n' H' b} => by rw [List.replicate_succ', List.map_append]; rfl
      have lrep : ∀ n' : Nat, ((List.replicate n' true).map V.bl).length = n' := fun n' => by simp
      -- first
      refine Evl.q_app hf8 (Evl.ev_var (v := .ref Df) rfl) (Evl.ev_is (crt e48 rfl rfl (trE (vth e48) (vth e48)) (fits_up (by omega) (fits_tr fits_th fits_th))) (by rw [show (6 : Nat) = 3 + 3 from rfl, tr_b hpi hpj hle hgi ne])) (by rw [lrep]; omega) fun H9 e9 => ?_
      have e49 : Ex H4 (upd H9 Df (.lst ((List.replicate n true).map V.bl ++ [V.bl true]))) := Evl.Ex.mut (e48.trans e9) hDf
      have hf9 : (upd H9 Df (.lst ((List.replicate n true).map V.bl ++ [V.bl true]))) Df = some (.lst ((List.replicate (n + 1) true).map V.bl)) := by rw [upd_same, dfx (H' := H) (b := true)]
      generalize upd H9 Df (.lst ((List.replicate n true).map V.bl ++ [V.bl true])) = H10 at e49 hf9 ⊢
      -- second
      refine Evl.q_app hf9 (Evl.ev_var (v := .ref Df) rfl) (Evl.ev_is (w := .bl true) (Evl.ev_notV (crt e49 rfl rfl (trE (trE (vth e49) (vth e49)) (vth e49)) (fits_up (by omega) (fits_tr (fits_tr fits_th fits_th) (fits_up (by omega) fits_th))))) (by rw [show (6 : Nat) = 4 + 2 from rfl, tr_c]; first | done | rfl)) (by rw [lrep]; omega) fun H11 e11 => ?_
      have e4b : Ex H4 (upd H11 Df (.lst ((List.replicate (n + 1) true).map V.bl ++ [V.bl true]))) := Evl.Ex.mut (e49.trans e11) hDf
      have hfb : (upd H11 Df (.lst ((List.replicate (n + 1) true).map V.bl ++ [V.bl true]))) Df = some (.lst ((List.replicate (n + 2) true).map V.bl)) := by rw [upd_same, dfx (H' := H) (b := true)]
      generalize upd H11 Df (.lst ((List.replicate (n + 1) true).map V.bl ++ [V.bl true])) = H12 at e4b hfb ⊢
      -- third
      refine Evl.s_app hfb (Evl.ev_var (v := .ref Df) rfl) (Evl.ev_is (w := .bl true) (Evl.ev_notV (crt e4b rfl rfl (trE (evd_tup (ds := [.str "one", abD i j]) hid_nil (evds_cons (evd_of Evl.ev_c (.str _)) (evds_cons (evd_of (Evl.ev_var (v := .ref tv) rfl) (by rw [w_nil]; exact hd.up (e14.trans e4b))) evds_nil)) (by simp)) (vth e4b)) (fits_up (by omega) (fits_tr (fits_up (show 2 ≤ 3 by omega) (fits_two fits_ab)) fits_th)))) (by
        have := tr_d (t := 4) (q := (p : Int)) (N := 6) (pb := plainK 6 (.rising (p : Int))) (a := thD i j) (kept := vwF true 0 rs) (left := vwF false 0 rs) (others := []) (i := i) ne
        rw [show (6 : Nat) = 4 + 2 from rfl]
        exact congrArg (fun b => V.bl (!b)) this)) (by rw [lrep]; omega) fun H13 e13' => ?_
      exact ⟨Evl.Ex.mut (e4b.trans e13') hDf, ⟨n + 3, by omega, by rw [upd_same, dfx (H' := H) (b := true)]⟩, _, _, rfl⟩
    · obtain ⟨e46, ⟨n, hn, hfn⟩, o8, o9, rfl⟩ := pv
      have lrep : ((List.replicate n true).map V.bl).length = n := by simp
      have rp : EvD K [] (tOp rRep (tLst (tCons (tC (.bl true)) tNil)) (tCB (Evl.rLenS K) (tCons (tVar 7) tNil))) [some (.ref tw), some (.ref t), some (.ref tv), some (.ref x), some (.ref y), some (.int j), some vt, some (.ref Df), o8, o9] H6 (.list ((List.replicate n true).map .bool)) := fun H7 e7 Q' q' => by
        refine Evl.el_lst (Evl.ea_cons (Evl.ev_c (v := .bl true)) Evl.ea_nil) (by decide) H7 e7 _ fun pl H8 hpl e8 hl8 => ?_
        have lenV : Evl.Ev (tCB (Evl.rLenS K) (tCons (tVar 7) tNil)) [some (.ref tw), some (.ref t), some (.ref tv), some (.ref x), some (.ref y), some (.int j), some vt, some (.ref Df), o8, o9] H8 (.int (n : Int)) := Evl.ev_is (ev_lenS (a := Df) (xs := (List.replicate n true).map V.bl) (Evl.ev_var (v := .ref Df) rfl) (.inl (SqL.of ((e7.trans e8) _ _ hfn)))) (by rw [lrep])
        refine lenV H8 (Ex.refl _) _ fun H9 e9 => ?_
        refine ⟨pl, (n : Int), [.bl true], rfl, rfl, e9 _ _ hl8, by omega, by omega, by rw [sizeLine_eq]; show 1 * ((n : Int)).toNat ≤ 16777216; omega, fun r hr => ?_⟩
        refine q' _ _ ((e8.trans e9).trans (Ex.new hr)) ?_
        rw [w_nil]
        refine .lst (SqL.of upd_same) ?_
        rw [show ((n : Nat) : Int).toNat = n by omega, rep_true]
        exact dpa_bools _
      refine Evl.s_ret (v := .bl true) (same_ev (n := 1) (d := .list ((List.replicate n true).map .bool)) (evd_of (Evl.ev_var (v := .ref Df) rfl) (by rw [w_nil]; exact .lst (SqL.of hfn) (dpa_bools _))) rp ⟨by rw [List.length_map, List.length_replicate]; omega, fun e he => ?_⟩) fun H7 e7 => kk H7 ((e14.trans e46).trans e7)
      obtain ⟨b, _, rfl⟩ := List.mem_map.mp he
      trivial
end
end U
set_option Elab.async false
set_option linter.all false
set_option maxRecDepth 100000
set_option maxHeartbeats 4000000
/-! the law's six turns -/
namespace U
open PySem PySem.Spec PyProof.Rows L2
open Evl (Ex)
open C8 (Met Mak pe_mt pe_mt0 pe_mk)
theorem fits_pr {q : Int × Int} : fits 1 (prD q) := ⟨by show 2 ≤ 40000; decide, fun e he => by
  have : e = .int q.1 ∨ e = .int q.2 := by simpa using he
  rcases this with h | h <;> (subst h; trivial)⟩
theorem fits_be {i : Int} {qs : List (Int × Int)} (h : qs.length ≤ 100) : fits 3 (beD i qs) := ⟨by show 3 ≤ 40000; decide, fun e he => by
  have : e = .str "between" ∨ e = .int i ∨ e = .list (qs.map prD) := by simpa using he
  rcases this with h' | h' | h'
  · subst h'
    trivial
  · subst h'
    trivial
  · subst h'
    refine ⟨by rw [List.length_map]; omega, fun d hd => ?_⟩
    obtain ⟨q, _, rfl⟩ := List.mem_map.mp hd
    exact fits_pr⟩
theorem fits_tu {ns : List Int} (h : ns.length ≤ 900) : fits 3 (tuD ns) := ⟨by show 2 ≤ 40000; decide, fun e he => by
  have : e = .str "turns" ∨ e = .list (ns.map .int) := by simpa using he
  rcases this with h' | h'
  · subst h'
    trivial
  · subst h'
    refine ⟨by rw [List.length_map]; omega, fun d hd => ?_⟩
    obtain ⟨q, _, rfl⟩ := List.mem_map.mp hd
    trivial⟩
theorem shp_fits {p : Nat} {k : Kd} {d : PyData} (h : Shp p k d) (hp : p ≤ 3) : fits 3 d := by
  cases k with
  | rising q =>
    obtain ⟨i, j, rfl⟩ := h
    exact fits_up (by omega) fits_ab
  | boxes q =>
    obtain ⟨i, qs, rfl, hl⟩ := h
    exact fits_be (by omega)
  | turns q =>
    obtain ⟨ns, rfl, hl⟩ := h
    exact fits_tu hl
  | _ => exact h.elim
def neD (a b : PyData) : PyData := .tuple [.str "neither", a, b]
theorem fits_ne {t : Nat} {a b : PyData} (ha : fits t a) (hb : fits t b) : fits (t + 1) (neD a b) := ⟨by show 3 ≤ 40000; decide, fun e he => by
  have : e = .str "neither" ∨ e = a ∨ e = b := by simpa using he
  rcases this with h | h | h
  · subst h
    cases t <;> trivial
  · subst h
    exact ha
  · subst h
    exact hb⟩
def bas (k : Kd) : Prop := kiOf k = .ri ∨ kiOf k = .bo ∨ kiOf k = .tu
theorem bas_plain {k : Kd} (h : bas k) (N : Nat) (d : PyData) (y n : Vw) : plainK N k d y n = plainK 0 k d y n := by
  cases k <;> first | rfl | (rcases h with h | h | h <;> cases h)
theorem bas_okC {k : Kd} (h : bas k) : okC k := by
  cases k <;> first | trivial | (rcases h with h | h | h <;> cases h)
theorem bas_dep {k : Kd} (h : bas k) : depK k = 0 := by
  cases k <;> first | rfl | (rcases h with h | h | h <;> cases h)
section
variable {P : Program} {w : World} {K : PySem.W.Frag} {mg : Str → Option Value} {base : Heap} {C : Addr} {c : KC} {σ : L2.St} {H H1 H2 H' : Hp}
theorem ev_certV {tk ts te : TE} {k : Kd} {x y : Addr} {p : Nat} {rs : List Rw2} {d : PyData} (hk : Evl.Ev tk σ H (.ref x)) (hx : Kin c H k x) (hs : Evl.Ev ts σ H (.ref y)) (he : EvD K [] te σ H d) (hS : Smp K [] H y C ((p : Nat) : Int) (rs.map rD)) (ho : okC k) (hd : depK k ≤ 2) (hok : okK ((p : Nat) : Int) k) (p3 : p ≤ 3)
    (hz : rs.length ≤ 900) (hp : ∀ r ∈ rs, r.1.length = p) (hf : fits 6 d) : Evl.Ev (tCallD (spCr K C c) (tCons tk (tCons ts (tCons te tNil)))) σ H (.bl (plainK 6 k d (vwF true 0 rs) (vwF false 0 rs))) := fun H1 e Q q =>
  hk H1 e _ fun H2 e2 => hs H2 (e.trans e2) _ fun H3 e3 => he H3 ((e.trans e2).trans e3) _ fun v H4 e4 hv => by
    have eA := ((e.trans e2).trans e3).trans e4
    exact ⟨x, y, v, k, d, rs, p, rfl, hx.up eA, ho, hd, hok, p3, hS.up eA, hz, hp, (hv.up w_sub).q, hf, fun H5 e5 => q H5 (((e2.trans e3).trans e4).trans e5)⟩
theorem ev_due {t5 t6 t11 : TE} {vs v : V} {t : Addr} {xs : List V} {k : Kd} {d : PyData} {rs : List Rw2} {p : Nat} (h5 : Evl.Ev t5 σ H vs) (hw : Dp K H vs (kdD k)) (h6 : Evl.Ev t6 σ H (.ref t)) (hx : SqL K H t xs) (ha : DpAll K H xs (rs.map rD)) (h11 : Evl.Ev t11 σ H v) (hv : Dp K H v d)
    (hok : okK ((p : Nat) : Int) k) (hsh : Shp p k d) (hp : ∀ r ∈ rs, r.1.length = p) (p3 : p ≤ 3) (hz : rs.length ≤ 1000) : Evl.Ev (tCallD (spSh K) (tCons t5 (tCons (tCallD (spVw K) (tCons t6 tNil)) (tCons t11 tNil)))) σ H (.bl (plainK 0 k d (vwF true 0 rs) (vwF false 0 rs))) := fun H1 e Q q =>
  h5 H1 e _ fun H2 e2 => h6 H2 (e.trans e2) _ fun H3 e3 => by
    have e03 := (e.trans e2).trans e3
    refine ⟨t, xs, rs, rfl, .inl (Evl.ex_l e03 hx), ha.up e03, hz, fun b H4 hb e4 hlv => h11 H4 (e03.trans e4) _ fun H5 e5 => ?_⟩
    have e05 := (e03.trans e4).trans e5
    exact ⟨vs, b, v, k, d, rs, p, rfl, hw.up e05, hlv.up e5, hv.up e05, hok, hsh, hp, p3, fun H6 e6 => q H6 ((((e2.trans e3).trans e4).trans e5).trans e6)⟩
theorem et_same {n : Nat} {te tf : TE} {b : Bool} (h1 : Evl.Ev te σ H (.bl b)) (h2 : Evl.Ev tf σ H (.bl b)) : Evl.EvT (tNot (tB (tCallD (spSame K (n + 1)) (tCons te (tCons tf tNil))))) σ H false :=
  Evl.et_is (Evl.et_not (Evl.et_B (ev_callD (z := .bl true) (Evl.ea_cons h1 (Evl.ea_cons h2 Evl.ea_nil)) fun H1 e1 Q q => ⟨_, _, .bool b, rfl, .bl _, .bl _, trivial, q⟩))) rfl
/-- what stands through a spec's turns, told of the heap ahead of the list of right ones -/
structure Std (K : PySem.W.Frag) (C : Addr) (c : KC) (l : Addr) (H : Hp) (vs : V) (k : Kd) (t x y : Addr) (rs : List Rw2) (p : Nat) : Prop where
  hL : Hid [l] H
  hw : Dp K (W [l] H) vs (kdD k)
  hg : Gr K [l] H t (rs.map rD)
  hk : Kin c (W [l] H) k x
  hS : Smp K [l] H y C ((p : Nat) : Int) (rs.map rD)
  hz : rs.length ≤ 100
  hp : ∀ r ∈ rs, r.1.length = p
  ok : okK ((p : Nat) : Int) k
  hb : bas k
  p1 : 1 ≤ p
  p3 : p ≤ 3
variable {l t x y : Addr} {vs : V} {k : Kd} {rs : List Rw2} {p m : Nat}
theorem smp_exB {ds : List PyData} {q : Int} (h : Smp K [l] H y C q ds) (e : ExB l H H') (hd : Dr m H l) : Smp K [l] H' y C q ds := by
  obtain ⟨dx, v, h1, h2⟩ := h
  have ne : y ≠ l := fun z => by
    obtain ⟨_, _, _, q1, _⟩ := hd
    rw [z, q1] at h1
    cases h1
  exact ⟨dx, v, e _ _ ne h1, h2.up (e.w (List.mem_cons_self ..))⟩
theorem Std.exB (S : Std K C c l H vs k t x y rs p) (e : ExB l H H') (hd : Dr m H l) (hd' : H' l ≠ none) : Std K C c l H' vs k t x y rs p :=
  ⟨e.hid hd' S.hL, S.hw.up (e.w (List.mem_cons_self ..)), S.hg.exB e (List.mem_cons_self ..), S.hk.up (e.w (List.mem_cons_self ..)), smp_exB S.hS e hd, S.hz, S.hp, S.ok, S.hb, S.p1, S.p3⟩
theorem Std.rows (S : Std K C c l H vs k t x y rs p) : ∃ xs, SqL K H t xs ∧ DpAll K H xs (rs.map rD) := by
  obtain ⟨_, xs, h1, h2⟩ := S.hg
  exact ⟨xs, SqL.of h1, h2.up w_sub⟩
theorem Std.kin (S : Std K C c l H vs k t x y rs p) : Kin c H k x := S.hk.up w_sub
theorem Std.smp (S : Std K C c l H vs k t x y rs p) : Smp K [] H y C ((p : Nat) : Int) (rs.map rD) := S.hS.low (fun _ h => nomatch h)
theorem Std.spec (S : Std K C c l H vs k t x y rs p) : Dp K H vs (kdD k) := S.hw.up w_sub
theorem six_run {D : Ends} {tz : TS} {v0 v1 v3 v4 o10 o11 o12 o13 o14 o15 : Option V} {R : Addr} (S : Std K C c l H vs k t x y rs p) (hd : Dr m H l) (hm : m < 500000)
    (q : ∀ H' o10 o11 o12 o13, ExB l H H' → Dr (m + 240) H' l → tz D [v0, v1, some (.ref l), v3, v4, some vs, some (.ref t), some (.ref x), some (.ref y), some (.ref R), o10, o11, o12, o13, o14, o15] H') :
    tSeq (tFor (iRng1 (tCons (tC (.int 6)) tNil)) (gName 10) (tSeq (tAsg (tCallD (spWr K) (tCons (tVar 2) (tCons (tVar 5) (tCons (tVar 6) tNil)))) (gName 11))
      (tSeq (tAsg (tCallD (spSh K) (tCons (tVar 5) (tCons (tCallD (spVw K) (tCons (tVar 6) tNil)) (tCons (tVar 11) tNil)))) (gName 12))
      (tSeq (tIfS (tNot (tB (tCallD (spSame K 1) (tCons (tCallD (spCr K C c) (tCons (tVar 7) (tCons (tVar 8) (tCons (tVar 11) tNil)))) (tCons (tVar 12) tNil))))) (tRet (tC (.bl false))) tNext)
      (tSeq (tAsg (tTup (tCons (tC (.str "neither")) (tCons (tVar 11) (tCons (tCallD (spWr K) (tCons (tVar 2) (tCons (tVar 5) (tCons (tVar 6) tNil)))) tNil)))) (gName 13))
      (tSeq (tAsg (tAndV (tVar 12) (tCallD (spSh K) (tCons (tVar 5) (tCons (tCallD (spVw K) (tCons (tVar 6) tNil)) (tCons (tOp (rIxT K) (tVar 13) (tC (.int 2))) tNil))))) (gName 12))
      (tIfS (tNot (tB (tCallD (spSame K 1) (tCons (tCallD (spCr K C c) (tCons (tK2 c (spPr c .any) (tVar 7) (tVar 7)) (tCons (tVar 8) (tCons (tVar 13) tNil)))) (tCons (tVar 12) tNil))))) (tRet (tC (.bl false))) tNext))))))) tz D
      [v0, v1, some (.ref l), v3, v4, some vs, some (.ref t), some (.ref x), some (.ref y), some (.ref R), o10, o11, o12, o13, o14, o15] H := by
  have hlL : l ∈ [l] := List.mem_cons_self ..
  refine Evl.q_forR1 (n := 6) (Evl.ea_cons Evl.ev_c Evl.ea_nil) (by decide) (fun i σ' H' => ExB l H H' ∧ Dr (m + 40 * i) H' l ∧ ∃ o10 o11 o12 o13, σ' = [v0, v1, some (.ref l), v3, v4, some vs, some (.ref t), some (.ref x), some (.ref y), some (.ref R), o10, o11, o12, o13, o14, o15]) (fun H1 e => ⟨ExB.of e, hd.ex e, _, _, _, _, rfl⟩) ?_ ?_
  · rintro i σ' H1 hi ⟨e1, d1, o10, o11, o12, o13, rfl⟩
    have S1 := S.exB e1 hd d1.ne
    refine ⟨_, rfl, _, rfl, _, rfl, l, vs, t, m + 40 * i, k, rs, p, rfl, d1, by omega, S1.hL, S1.hw, S1.hg, S1.hz, S1.ok, S1.hb, S1.p1, S1.p3, S1.hp, fun v d H2 e2 d2 hv hsh => ?_⟩
    have S2 := S1.exB e2 d1 d2.ne
    obtain ⟨xs, hxs, hxa⟩ := S2.rows
    have hv' := hv.up w_sub
    refine Evl.q_asg (v := .bl (plainK 0 k d (vwF true 0 rs) (vwF false 0 rs))) (ev_due (Evl.ev_var rfl) S2.spec (Evl.ev_var rfl) hxs hxa (Evl.ev_var (v := v) rfl) hv' S2.ok hsh S2.hp S2.p3 (by have := S2.hz; omega)) fun H3 e3 => ?_
    have c1 : ∀ H', Ex H2 H' → Evl.Ev (tCallD (spCr K C c) (tCons (tVar 7) (tCons (tVar 8) (tCons (tVar 11) tNil)))) [v0, v1, some (.ref l), v3, v4, some vs, some (.ref t), some (.ref x), some (.ref y), some (.ref R), some (.int (i : Int)), some v, some (.bl (plainK 0 k d (vwF true 0 rs) (vwF false 0 rs))), o13, o14, o15] H' (.bl (plainK 0 k d (vwF true 0 rs) (vwF false 0 rs))) := fun H' e' => by
      rw [← bas_plain S.hb 6]
      exact ev_certV (Evl.ev_var rfl) (S2.kin.up e') (Evl.ev_var rfl) (evd_of (Evl.ev_var (v := v) rfl) (by rw [w_nil]; exact hv'.up e')) (S2.smp.up e') (bas_okC S.hb) (by rw [bas_dep S.hb]; omega) S.ok S.p3 (by have := S.hz; omega) S.hp (fits_up (by omega) (shp_fits hsh S.p3))
    refine Evl.q_when (b := false) (et_same (n := 0) (c1 H3 e3) (Evl.ev_var rfl)) (fun z => nomatch z) (fun _ H4 e4 => ?_)
    have e24 := e3.trans e4
    have S4 := S2.exB (ExB.of e24) d2 (d2.ex e24).ne
    have d4 := d2.ex e24
    refine ⟨_, rfl, _, rfl, _, rfl, _, rfl, l, vs, t, m + 40 * i + 20, k, rs, p, rfl, d4, by omega, S4.hL, S4.hw, S4.hg, S4.hz, S4.ok, S4.hb, S4.p1, S4.p3, S4.hp, fun v2 dd H5 e5 d5 hv2 hsh2 => ?_⟩
    refine ⟨by rw [sizeLine_eq]; show 3 ≤ 16777216; decide, fun r hr => ?_⟩
    have e56 : Ex H5 (upd H5 r (.tup [.str "neither", v, v2])) := Ex.new hr
    have hr6 : (upd H5 r (.tup [.str "neither", v, v2])) r = some (.tup [.str "neither", v, v2]) := upd_same
    generalize upd H5 r (.tup [.str "neither", v, v2]) = H6 at e56 hr6 ⊢
    have S5 := S4.exB e5 d4 d5.ne
    have S6 := S5.exB (ExB.of e56) d5 (d5.ex e56).ne
    have d6 := d5.ex e56
    have hv6 : Dp K H6 v d := ((hv.up (((ExB.of e24).trans e5).trans (ExB.of e56)|>.w hlL)).up w_sub)
    have hv26 : Dp K H6 v2 dd := (hv2.up w_sub).up e56
    have hr6' : SqT K H6 r [.str "neither", v, v2] := SqT.of hr6
    have hrd : Dp K H6 (.ref r) (neD d dd) := .tup hr6' (.cons (.str _) (.cons hv6 (.cons hv26 .nil)))
    obtain ⟨xs6, hxs6, hxa6⟩ := S6.rows
    refine Evl.q_asg (v := .bl (plainK 0 k d (vwF true 0 rs) (vwF false 0 rs) && plainK 0 k dd (vwF true 0 rs) (vwF false 0 rs))) (Evl.ev_andV (Evl.ev_var rfl) fun _ => ev_due (Evl.ev_var rfl) S6.spec (Evl.ev_var rfl) hxs6 hxa6 (Evl.ev_op (Evl.ev_var (v := .ref r) rfl) (Evl.ev_c (v := .int 2)) (Evl.rv_ixT hr6' rfl)) hv26 S6.ok hsh2 S6.hp S6.p3 (by have := S6.hz; omega)) fun H7 e7 => ?_
    have S7 := S6.exB (ExB.of e7) d6 (d6.ex e7).ne
    have c2 : Evl.Ev (tCallD (spCr K C c) (tCons (tK2 c (spPr c .any) (tVar 7) (tVar 7)) (tCons (tVar 8) (tCons (tVar 13) tNil)))) [v0, v1, some (.ref l), v3, v4, some vs, some (.ref t), some (.ref x), some (.ref y), some (.ref R), some (.int (i : Int)), some v, some (.bl (plainK 0 k d (vwF true 0 rs) (vwF false 0 rs) && plainK 0 k dd (vwF true 0 rs) (vwF false 0 rs))), some (.ref r), o14, o15] H7 (.bl (plainK 0 k d (vwF true 0 rs) (vwF false 0 rs) && plainK 0 k dd (vwF true 0 rs) (vwF false 0 rs))) := by
      have z := ev_cert (K := K) (C := C) (c := c) (σ := [v0, v1, some (.ref l), v3, v4, some vs, some (.ref t), some (.ref x), some (.ref y), some (.ref R), some (.int (i : Int)), some v, some (.bl (plainK 0 k d (vwF true 0 rs) (vwF false 0 rs) && plainK 0 k dd (vwF true 0 rs) (vwF false 0 rs))), some (.ref r), o14, o15]) (H := H7) (k := .any k k) (d := neD d dd) (tk := tK2 c (spPr c .any) (tVar 7) (tVar 7)) (ts := tVar 8) (te := tVar 13) (rs := rs) (p := p) (y := y)
        (evk_2 (Evl.ev_var rfl) (Evl.ev_var rfl) hid_nil (by rw [w_nil]; exact S7.kin) (by rw [w_nil]; exact S7.kin) rfl) (Evl.ev_var rfl) (evd_of (Evl.ev_var (v := .ref r) rfl) (by rw [w_nil]; exact hrd.up e7)) S7.smp ⟨bas_okC S.hb, bas_okC S.hb⟩ (by show max (depK k) (depK k) + 1 ≤ 2; rw [bas_dep S.hb]; decide) ⟨S.ok, S.ok⟩ S.p3 (by have := S.hz; omega) S.hp (fits_up (show 4 ≤ 6 by omega) (fits_ne (shp_fits hsh S.p3) (shp_fits hsh2 S.p3)))
      rw [show plainK 6 (.any k k) (neD d dd) (vwF true 0 rs) (vwF false 0 rs) = (plainK 6 k d (vwF true 0 rs) (vwF false 0 rs) && plainK 6 k dd (vwF true 0 rs) (vwF false 0 rs)) from rfl, bas_plain S.hb 6, bas_plain S.hb 6] at z
      exact z
    refine Evl.s_when (b := false) (et_same (n := 0) c2 (Evl.ev_var rfl)) (fun z => nomatch z) (fun _ H8 e8 => ?_)
    exact ⟨(((((e1.trans e2).trans (ExB.of e24)).trans e5).trans (ExB.of e56)).trans (ExB.of (e7.trans e8))), ((d6.ex (e7.trans e8)).up (by omega)), _, _, _, _, rfl⟩
  · rintro σ' H1 ⟨e1, d1, o10, o11, o12, o13, rfl⟩
    exact q H1 _ _ _ _ e1 (d1.up (by show m + 40 * 6 ≤ m + 240; omega))
end
end U
set_option Elab.async false
set_option linter.all false
set_option maxRecDepth 100000
set_option maxHeartbeats 4000000
/-! the law's right ones -/
namespace U
open PySem PySem.Spec PyProof.Rows L2
open Evl (Ex)
open C8 (Met Mak pe_mt pe_mt0 pe_mk)
abbrev tListOf (K : PySem.W.Frag) (te : TE) : TE := tCB (fun xs H Q => ∃ p ys, xs = [.ref p] ∧ (SqL K H p ys ∨ SqT K H p ys) ∧ ∀ l, H l = none → Q (.ref l) (upd H l (.lst ys))) (tCons te tNil)
def abP (q : Int × Int) : PyData := abD q.1 q.2
def Fa (x : V) (H : Hp) : Prop := ∃ u, ∃ i j : Int, x = .ref u ∧ H u = some (.tup [.str "above", .int i, .int j])
def Fr (rs : List Rw2) (x : V) (H : Hp) : Prop := ∃ u, ∃ i j : Int, x = .ref u ∧ H u = some (.tup [.str "above", .int i, .int j]) ∧ isAbove (vwF true 0 rs) (vwF false 0 rs) (abD i j) = true
theorem fa_mono : ∀ x H H', Fa x H → Exl H H' → Fa x H' := fun _ _ _ h e => by
  obtain ⟨u, i, j, h1, h2⟩ := h
  exact ⟨u, i, j, h1, e _ _ (fun ys z => by cases z) h2⟩
theorem fr_mono {rs : List Rw2} : ∀ x H H', Fr rs x H → Exl H H' → Fr rs x H' := fun _ _ _ h e => by
  obtain ⟨u, i, j, h1, h2, h3⟩ := h
  exact ⟨u, i, j, h1, e _ _ (fun ys z => by cases z) h2, h3⟩
theorem fr_list {K : PySem.W.Frag} {H : Hp} {rs : List Rw2} : ∀ {xs : List V}, (∀ x ∈ xs, Fr rs x H) → ∃ qs : List (Int × Int), DpAll K H xs (qs.map abP) ∧ ∀ q ∈ qs, isAbove (vwF true 0 rs) (vwF false 0 rs) (abP q) = true
  | [], _ => ⟨[], .nil, fun _ h => nomatch h⟩
  | x :: xs, h => by
    obtain ⟨qs, h1, h2⟩ := fr_list (K := K) (xs := xs) fun y hy => h y (List.mem_cons_of_mem _ hy)
    obtain ⟨u, i, j, rfl, h3, h4⟩ := h x (List.mem_cons_self ..)
    exact ⟨(i, j) :: qs, .cons (.tup (SqT.of h3) (.cons (.str _) (.cons (.int _) (.cons (.int _) .nil)))) h1, fun q hq => by
      rcases List.mem_cons.mp hq with rfl | hq
      · exact h4
      · exact h2 q hq⟩
theorem ab_shaped (qs : List (Int × Int)) : SeqAt.shaped (.list (qs.map abP)) = true := by
  have q : ∀ d ∈ qs.map abP, d.canLay0 = true ∧ d.depth ≤ 2 := fun d hd => by
    obtain ⟨q, _, rfl⟩ := List.mem_map.mp hd
    obtain ⟨h1, h2⟩ := lay_ints [q.1, q.2]
    refine ⟨?_, ?_⟩
    · show (PyData.canLay0 (.str "above") && PyData.canLayAll0 ([q.1, q.2].map .int)) = true
      rw [h1]
      rw [show PyData.canLay0 (.str "above") = true by decide +kernel]
      rfl
    · show max (PyData.depth (.str "above")) (PyData.depthAll ([q.1, q.2].map .int)) + 1 ≤ 2
      rw [h2]
      decide
  obtain ⟨h1, h2⟩ := lay_all q
  have e1 : PyData.canLay0 (.list (qs.map abP)) = true := h1
  have e2 : PyData.depth (.list (qs.map abP)) ≤ 64 := by show PyData.depthAll (qs.map abP) + 1 ≤ 64; omega
  exact Bool.and_eq_true_iff.mpr ⟨e1, decide_eq_true e2⟩
section
variable {P : Program} {w : World} {K : PySem.W.Frag} {mg : Str → Option Value} {base : Heap} {C : Addr} {c : KC} {σ : L2.St} {H H0 H1 H2 H' : Hp} {te : TE}
theorem ev_int1 {b : Bool} (h : Evl.Ev te σ H (.bl b)) : Evl.Ev (tCB (fun xs H Q => (∃ i, xs = [.int i] ∧ Q (.int i) H) ∨ ∃ k, xs = [.bl k] ∧ Q (.int (if k then 1 else 0)) H) (tCons te tNil)) σ H (.int (if b then 1 else 0)) := fun H1 e Q q => h H1 e _ fun H2 e2 => .inr ⟨b, rfl, q H2 e2⟩
theorem eln_rng {ta : TA} {j n : Nat} {vs : List Nat} {f : Nat → List V} (h : Evl.EvA ta σ H [.int (n : Int)]) (hn : n ≤ 40000) (hw : ∀ x, wipe ((wipe σ vs).set j (some x)) vs = wipe σ vs)
    (he : ∀ (i : Nat) H1, Ex H H1 → i < n → Evl.EvU te ((wipe σ vs).set j (some (.int (i : Int)))) H1 (f i)) : EvN (tLc (iRng1 ta) (gName j) tYes te vs) σ H n f := fun H0 e0 Q q => h H0 e0 _ fun H1 e1 => by
  refine ⟨(n : Int), rfl, by omega, by omega, fun Dl hD => ?_⟩
  rw [Int.toNat_natCast]
  refine lc_range (lo := 0) (n := n) (Cn H1 f Dl) (cn_0 hD) (fun i H' hi p => ?_) (fun H2 p => ?_)
  · have z0 : (0 : Int) + (i : Int) = (i : Int) := Int.zero_add _
    rw [z0]
    exact ⟨hw _, yes_lc (A := fun H3 => te ((wipe σ vs).set j (some (.int (i : Int)))) H3 fun y H4 => ∃ acc, H4 Dl = some (.lst acc) ∧ acc.length < sizeLine ∧ Cn H1 f Dl (i + 1) (upd H4 Dl (.lst (acc ++ [y])))) (B := fun H3 => Cn H1 f Dl (i + 1) H3) (cn_turn p (by omega) _ (Ex.refl _) (he i _ (e0.trans e1) hi))⟩
  · obtain ⟨p1, p2, ps, p3, p4, p5⟩ := p
    exact q Dl H2 ps (Evl.fresh_back e1 p1) (e1.trans p2) p3 p4 p5
variable {l t x y : Addr} {vs : V} {k : Kd} {rs : List Rw2} {p m m0 : Nat}
theorem bas_spec (h : bas k) : ∃ z q, kdD k = .tuple [.str z, .int q] ∧ (decide (V.str z = V.str "rising") = decide (kiOf k = .ri)) := by
  cases k <;> first | (rcases h with h | h | h <;> cases h <;> done) | exact ⟨_, _, rfl, rfl⟩
theorem ri_of (h : kiOf k = .ri) (ok : okK ((p : Nat) : Int) k) : k = .rising (p : Int) := by
  cases k <;> first | cases h
  rw [show _ = (p : Int) from ok]
theorem right_run {D : Ends} {v0 v1 v3 v4 o10 o11 o12 o13 o14 o15 : Option V} {R : Addr} (S0 : Std K C c l H0 vs k t x y rs p) (hd0 : Dr m0 H0 l) (hR0 : H0 R = none) (e0 : ExB l H0 H) (hd : Dr m H l) (hm : m < 500000) (hR : H R = some (.lst []))
    (q : ∀ H' o9 o10 o11 o12 o13 o14 o15, ExB l H0 H' → Dr (m + 1) H' l → D.nx [v0, v1, some (.ref l), v3, v4, some vs, some (.ref t), some (.ref x), some (.ref y), o9, o10, o11, o12, o13, o14, o15] H') :
    tSeq (tFor (iRng1 (tCons (tOp (rI CMul fun i j => .int (i * j)) (tCB (Evl.rLenS K) (tCons (tVar 6) tNil)) (tCB (fun xs H Q => (∃ i, xs = [.int i] ∧ Q (.int i) H) ∨ ∃ k, xs = [.bl k] ∧ Q (.int (if k then 1 else 0)) H) (tCons (tOp rEq (tOp (rIxT K) (tVar 5) (tC (.int 0))) (tC (.str "rising"))) tNil))) tNil)) (gName 14)
        (tDrop (tBM K "list" rExtend (tVar 9) (tCons (tLc (iRng1 (tCons (tCB (Evl.rLenS K) (tCons (tVar 6) tNil)) tNil)) (gName 15) tYes (tTup (tCons (tC (.str "above")) (tCons (tVar 14) (tCons (tVar 15) tNil)))) [15]) tNil))))
      (tSeq (tAsg (tLc (iSeq K (tVar 9)) (gName 11) (tB (tCallD (spSh K) (tCons (tVar 5) (tCons (tCallD (spVw K) (tCons (tVar 6) tNil)) (tCons (tVar 11) tNil))))) (tVar 11) [11]) (gName 9))
      (tSeq (tIfS (tNot (tB (tCB (rAll K) (tCons (tLc (iSeq K (tVar 9)) (gName 11) tYes (tCallD (spCr K C c) (tCons (tVar 7) (tCons (tVar 8) (tCons (tListOf K (tVar 11)) tNil)))) [11]) tNil)))) (tRet (tC (.bl false))) tNext)
      (tIfS (tAnd (tTest (tOp (rNeD K) (tVar 9) (tLst tNil))) (tNot (tB (tCallD (spTR K) (tCons (tVar 5) (tCons (tVar 6) (tCons (tCallD (spPickV K) (tCons (tVar 2) (tCons (tVar 9) tNil))) tNil))))))) (tRet (tC (.bl false))) tNext))) D
      [v0, v1, some (.ref l), v3, v4, some vs, some (.ref t), some (.ref x), some (.ref y), some (.ref R), o10, o11, o12, o13, o14, o15] H := by
  have hlL : l ∈ [l] := List.mem_cons_self ..
  have Rl : R ≠ l := fun z => by
    obtain ⟨_, _, _, h1, _⟩ := hd0
    rw [← z, hR0] at h1
    cases h1
  have S := S0.exB e0 hd0 hd.ne
  obtain ⟨xs, hxs, hxa⟩ := S.rows
  have lxs := lv_len hxa
  obtain ⟨z, qz, ek, hz1⟩ := bas_spec S0.hb
  have hsp : ∀ {H' : Hp}, Std K C c l H' vs k t x y rs p → ∃ tw, vs = .ref tw ∧ SqT K H' tw [.str z, .int qz] := fun S' => by
    have := S'.spec
    rw [ek] at this
    exact dp_two this
  obtain ⟨tw, hvs, htw⟩ := hsp S
  have hN : Evl.Ev (tOp (rI CMul fun i j => .int (i * j)) (tCB (Evl.rLenS K) (tCons (tVar 6) tNil)) (tCB (fun xs H Q => (∃ i, xs = [.int i] ∧ Q (.int i) H) ∨ ∃ k, xs = [.bl k] ∧ Q (.int (if k then 1 else 0)) H) (tCons (tOp rEq (tOp (rIxT K) (tVar 5) (tC (.int 0))) (tC (.str "rising"))) tNil))) [v0, v1, some (.ref l), v3, v4, some vs, some (.ref t), some (.ref x), some (.ref y), some (.ref R), o10, o11, o12, o13, o14, o15] H (.int ((if kiOf k = .ri then rs.length else 0 : Nat) : Int)) := by
    subst hvs
    refine Evl.ev_is (Evl.ev_op (x := .int (rs.length : Int)) (y := .int (if decide (V.str z = V.str "rising") then 1 else 0)) (Evl.ev_is (ev_lenS (a := t) (xs := xs) (Evl.ev_var (v := .ref t) rfl) (.inl hxs)) (by rw [lxs])) (ev_int1 (Evl.ev_op (Evl.ev_op (Evl.ev_var (v := .ref tw) rfl) (Evl.ev_c (v := .int 0)) (Evl.rv_ixT htw rfl)) (Evl.ev_c (v := .str "rising")) (Evl.rv_eq rfl))) (Evl.rv_I (C := CMul) (g := fun i j => .int (i * j)) (.inl ⟨by omega, by have := S0.hz; omega⟩))) ?_
    rw [hz1]
    by_cases hk : kiOf k = .ri
    · rw [if_pos (by simp [hk]), if_pos hk]
      simp
    · rw [if_neg (by simp [hk]), if_neg hk]
      simp
  refine Evl.q_forR1 (n := ((if kiOf k = .ri then rs.length else 0 : Nat) : Int)) (Evl.ea_cons hN Evl.ea_nil) ⟨by omega, by have := S0.hz; split <;> omega⟩ (fun i σ' H' => ExB l H0 H' ∧ Dr m H' l ∧ (∃ us : List V, us.length ≤ 100 * i ∧ H' R = some (.lst us) ∧ ∀ x ∈ us, Fa x H') ∧ ∃ o14 o15, σ' = [v0, v1, some (.ref l), v3, v4, some vs, some (.ref t), some (.ref x), some (.ref y), some (.ref R), o10, o11, o12, o13, o14, o15])
    (fun H1 e => ⟨e0.trans (ExB.of e), hd.ex e, ⟨[], Nat.le_refl _, e _ _ hR, fun _ h => nomatch h⟩, _, _, rfl⟩) ?_ ?_
  · rintro i σ' H1 hi ⟨e1, d1, ⟨us, hul, hus, hF⟩, o14, o15, rfl⟩
    have S1 := S0.exB e1 hd0 d1.ne
    obtain ⟨xs1, hxs1, hxa1⟩ := S1.rows
    have lxs1 := lv_len hxa1
    have hi2 : i < 100 := by
      have := S0.hz
      split at hi <;> omega
    have en : EvN (tLc (iRng1 (tCons (tCB (Evl.rLenS K) (tCons (tVar 6) tNil)) tNil)) (gName 15) tYes (tTup (tCons (tC (.str "above")) (tCons (tVar 14) (tCons (tVar 15) tNil)))) [15]) [v0, v1, some (.ref l), v3, v4, some vs, some (.ref t), some (.ref x), some (.ref y), some (.ref R), o10, o11, o12, o13, some (.int (i : Int)), o15] H1 rs.length (fun j => [.str "above", .int (i : Int), .int (j : Int)]) :=
      eln_rng (Evl.ea_cons (Evl.ev_is (ev_lenS (a := t) (xs := xs1) (Evl.ev_var (v := .ref t) rfl) (.inl hxs1)) (by rw [lxs1])) Evl.ea_nil) (by have := S0.hz; omega) (fun _ => rfl) fun j H2 e2 hj => Evl.eu_tup (Evl.ea_cons Evl.ev_c (Evl.ea_cons (Evl.ev_var rfl) (Evl.ea_cons (Evl.ev_var rfl) Evl.ea_nil))) (by simp)
    refine ⟨_, rfl, Or.inl ⟨rfl, us, SqL.of hus⟩, en H1 (Ex.refl _) _ fun Dl H2 ps hDl e2 hps hl2 hu => ⟨R, Dl, us, ps.map V.ref, rfl, rfl, e2 _ _ hus, hl2, by rw [sizeLine_eq, List.length_map]; have := S0.hz; omega, ?_⟩⟩
    have hus2 := e2 _ _ hus
    have eL : Exl H2 (upd H2 R (.lst (us ++ ps.map V.ref))) := fun b o ho hb => by
      have nb : b ≠ R := fun z => by
        rw [z, hus2] at hb
        cases hb
        exact ho _ rfl
      rw [upd_ne nb]
      exact hb
    refine ⟨fun b o nb hb => ?_, (d1.ex e2).upd_ne Rl, ⟨us ++ ps.map V.ref, by rw [List.length_append, List.length_map]; have := S0.hz; omega, upd_same, fun x hx => ?_⟩, _, _, rfl⟩
    · have nR : b ≠ R := fun z => by rw [z, hR0] at hb; cases hb
      rw [upd_ne nR]
      exact e2 _ _ (e1 b o nb hb)
    · rcases List.mem_append.mp hx with hx | hx
      · exact fa_mono _ _ _ (fa_mono _ _ _ (hF x hx) (.of e2)) eL
      · obtain ⟨u, hu1, rfl⟩ := List.mem_map.mp hx
        obtain ⟨j, hj1, hj2⟩ := List.getElem_of_mem hu1
        exact fa_mono _ _ _ ⟨u, _, _, rfl, hu j u (by rw [List.getElem?_eq_getElem hj1, hj2])⟩ eL
  · rintro σ' H1 ⟨e1, d1, ⟨us, hul, hus, hF⟩, o14, o15, rfl⟩
    have S1 := S0.exB e1 hd0 d1.ne
    obtain ⟨xs1, hxs1, hxa1⟩ := S1.rows
    have hul2 : us.length ≤ 10000 := by
      have := S0.hz
      rw [Int.toNat_natCast] at hul
      split at hul <;> omega
    have hri : us ≠ [] → k = .rising (p : Int) := fun h => by
      refine ri_of ?_ S0.ok
      have : us.length ≠ 0 := fun z => h (List.eq_nil_of_length_eq_zero z)
      rw [Int.toNat_natCast] at hul
      by_cases hk : kiOf k = .ri
      · exact hk
      · rw [if_neg hk] at hul
        omega
    refine ⟨_, rfl, R, rfl, .inl ⟨⟨us, SqL.of hus⟩, fun D2 hD2 => lc_it (walk_list (xs := us)) (Cv H1 (Fr rs) D2) (cv_0 hD2) (fun i H2 _ pv => SqL.of (pv.2.1 _ _ hus)) (fun i z H2 H3 hi pv yp => ?_) (fun H2 pv => ?_)⟩⟩
    · obtain ⟨rfl, hu⟩ := yp
      have hz := List.mem_of_getElem? hu
      obtain ⟨u, i1, j1, rfl, hu1⟩ := hF _ hz
      have hk : k = .rising (p : Int) := hri (fun h => by rw [h] at hz; cases hz)
      have e12 := pv.2.1
      have hu2 := e12 _ _ hu1
      have S2 := S1.exB (ExB.of e12) d1 (d1.ex e12).ne
      have hdp := Dp.tup (SqT.of (K := K) hu2) (.cons (.str _) (.cons (.int i1) (.cons (.int j1) .nil)))
      refine ⟨rfl, Evl.et_B (ev_due (k := k) (d := abD i1 j1) (Evl.ev_var rfl) S2.spec (Evl.ev_var rfl) (Evl.ex_l e12 hxs1) (hxa1.up e12) (Evl.ev_var (v := .ref u) rfl) hdp S2.ok (by rw [hk]; exact ⟨i1, j1, rfl⟩) S2.hp S2.p3 (by have := S2.hz; omega)) _ (Ex.refl _) _ fun H6 e6 => ?_⟩
      refine ite2 (fun hb => ⟨_, rfl, cv_yes fr_mono pv (by omega) e6 ⟨u, i1, j1, rfl, e6 _ _ hu2, ?_⟩⟩) (fun _ => cv_no fr_mono pv e6)
      rw [hk] at hb
      exact hb
    · obtain ⟨pn, e12, ys, hyl, hys, hFr⟩ := pv
      have S2 := S1.exB (ExB.of e12) d1 (d1.ex e12).ne
      have d2 := d1.ex e12
      obtain ⟨qs, hqa, hqt⟩ := fr_list (K := K) hFr
      have lq : ys.length = qs.length := by rw [dpa_len hqa, List.length_map]
      have D2l : D2 ≠ l := fun z => by
        obtain ⟨_, _, _, h1, _⟩ := d1
        rw [← z, pn] at h1
        cases h1
      have hkq : qs ≠ [] → k = .rising (p : Int) := fun h => hri fun hn => by
        rw [hn] at hyl
        have : ys.length = 0 := Nat.le_zero.mp hyl
        exact h (List.eq_nil_of_length_eq_zero (by omega))
      show tSeq _ _ _ [v0, v1, some (.ref l), v3, v4, some vs, some (.ref t), some (.ref x), some (.ref y), some (.ref D2), o10, o11, o12, o13, o14, o15] H2
      refine Evl.q_when (b := false) (Evl.et_is (Evl.et_not (Evl.et_B (ev_all (bs := (qs.map abP).map fun _ => true) (el_seqB (f := fun _ => true) (Evl.ev_var (v := .ref D2) rfl) (.inl (SqL.of hys)) hqa (by rw [List.length_map]; omega) (fun _ => rfl) fun z d H3 hm e3 hz => ?_)))) (by rw [all_true fun _ => rfl]; rfl)) (fun z => nomatch z) (fun _ H3 e3 => ?_)
      · obtain ⟨qq, hqq, rfl⟩ := List.mem_map.mp hm
        have hk := hkq (fun h => by rw [h] at hqq; cases hqq)
        obtain ⟨u, u2, rfl, hsu, hu2⟩ := dp_three (K := K) hz
        cases hu2
        have hcert := ev_certV (K := K) (C := C) (c := c) (σ := (wipe [v0, v1, some (.ref l), v3, v4, some vs, some (.ref t), some (.ref x), some (.ref y), some (.ref D2), o10, o11, o12, o13, o14, o15] [11]).set 11 (some (.ref u))) (H := H3) (d := .list [.str "above", .int qq.1, .int qq.2]) (tk := tVar 7) (ts := tVar 8) (te := tListOf K (tVar 11)) (Evl.ev_var rfl) (S2.kin.up e3) (Evl.ev_var rfl) (fun H4 e4 Q' q' => ⟨_, rfl, u, _, rfl, .inr (Evl.ex_t e4 hsu), fun r hr => q' _ _ (Ex.new hr) (by
          rw [w_nil]
          exact .lst (SqL.of upd_same) (.cons (.str _) (.cons (.int _) (.cons (.int _) .nil))))⟩) (S2.smp.up e3) (bas_okC S0.hb) (by rw [bas_dep S0.hb]; omega) S0.ok S0.p3 (by have := S0.hz; omega) S0.hp (fits_up (show 1 ≤ 6 by omega) ⟨by show 3 ≤ 40000; decide, fun e he => by
            have : e = .str "above" ∨ e = .int qq.1 ∨ e = .int qq.2 := by simpa using he
            rcases this with h | h | h <;> (subst h; trivial)⟩)
        have hval : plainK 6 k (.list [.str "above", .int qq.1, .int qq.2]) (vwF true 0 rs) (vwF false 0 rs) = true := by
          rw [hk]
          exact hqt qq hqq
        rw [hval] at hcert
        exact hcert
      · have hys3 := e3 _ _ hys
        have hqa3 := hqa.up e3
        have d3 := d2.ex e3
        have e03 := (e1.trans (ExB.of e12)).trans (ExB.of e3)
        refine ⟨_, rfl, by rw [sizeLine_eq]; show 0 ≤ 16777216; decide, fun r hr => ?_⟩
        have e34 : Ex H3 (upd H3 r (.lst [])) := Ex.new hr
        have hr4 : (upd H3 r (.lst [])) r = some (.lst []) := upd_same
        generalize upd H3 r (.lst []) = H4 at e34 hr4 ⊢
        refine ⟨.list (qs.map abP), .list [], (.lst (SqL.of (e34 _ _ hys3)) (hqa3.up e34)), .lst (SqL.of hr4) .nil, ab_shaped qs, by decide, _, rfl, ?_⟩
        have d4 := d3.ex e34
        have e04 := e03.trans (ExB.of e34)
        refine ite2 (fun hb => ?_) (fun hb => ite2 (fun z => by cases z) fun _ => q _ _ _ _ _ _ _ _ e04 (d4.up (by omega)))
        have hne : qs ≠ [] := fun h => by
          rw [h] at hb
          revert hb
          decide
        have hk := hkq hne
        have hys4 := e34 _ _ hys3
        have nD2 : D2 ∉ [l] := fun h => D2l (List.mem_singleton.mp h)
        have lpos : 0 < ys.length := by
          rw [lq]
          exact Nat.pos_of_ne_zero fun h => hne (List.eq_nil_of_length_eq_zero h)
        have hyl' : ys.length ≤ 10000 := by omega
        refine ⟨_, rfl, _, rfl, _, rfl, _, rfl, l, D2, ys, m, [l], rfl, d4, by omega, hlL, SqL.of (w_of nD2 hys4), lpos, by omega, fun v o hv d5 => ?_⟩
        have e45 : ExB l H4 (upd H4 l o) := ExB.upd
        generalize upd H4 l o = H5 at d5 e45 ⊢
        have S5 := S0.exB (e04.trans e45) hd0 d5.ne
        obtain ⟨xs5, hxs5, hxa5⟩ := S5.rows
        obtain ⟨u, i1, j1, rfl, hu1, hab⟩ := hFr v hv
        have hu4 := e34 _ _ (e3 _ _ hu1)
        have nul : u ≠ l := fun z => by
          obtain ⟨_, _, _, h1, _⟩ := d4
          rw [z, h1] at hu4
          cases hu4
        have hu5 := e45 _ _ nul hu4
        have hw5 := S5.spec
        rw [hk] at hw5
        refine ⟨vs, t, .ref u, p, rs, xs5, i1, j1, rfl, hw5, hxs5, hxa5, S5.hz, S5.hp, S5.p1, S5.p3, .tup (SqT.of hu5) (.cons (.str _) (.cons (.int _) (.cons (.int _) .nil))), hab, fun H6 e6 => ?_⟩
        exact ⟨true, rfl, ite2 (fun z => by cases z) fun _ => q _ _ _ _ _ _ _ _ ((e04.trans e45).trans (ExB.of e6)) (d5.ex e6)⟩
end
end U
set_option Elab.async false
set_option linter.all false
set_option maxRecDepth 100000
set_option maxHeartbeats 4000000
/-! the law -/
namespace U
open PySem PySem.Spec PyProof.Rows L2
open Evl (Ex)
open C8 (Met Mak pe_mt pe_mt0 pe_mk)
abbrev s_law : Stmt := top 83
abbrev sc_law_N : List Str := ["_law_script", "_law_turn", "_law_draws", "_law_places", "_law_specs", "_law_spec", "_law_rows_here", "_law_kind", "_law_sample", "_law_right", "_law_k", "_law_shown", "_law_due", "_law_pair", "_law_i", "_law_j"]
theorem sc_law : FnScope sc_law_N ["_law_script"] (defScope s_law) := ⟨rfl, rfl, rfl, by decide +kernel, rfl, by decide +kernel, by decide +kernel⟩
section
variable {P : Program} {w : World} {K : PySem.W.Frag} {mg : Str → Option Value} {base : Heap} {C U : Addr} {L : List Addr} {σ : L2.St} {H H0 H' : Hp} {l x y t t2 : Addr} {p q : Int} {ds es : List PyData} {te tf ta tb : TE} {d : PyData} {n : Nat}
theorem exB_new (hl : H l = none) (e : Ex H H0) (b : ExB l H0 H') : Ex H H' := fun a o h => b a o (ne_of_none h hl) (e a o h)
end
section
variable {P : Program} {w : World} {K : PySem.W.Frag} {mg : Str → Option Value} {base : Heap} {C U : Addr} {L : List Addr} {σ : L2.St} {H H0 H' : Hp} {l x y t t2 : Addr} {p q : Int} {ds es : List PyData} {te tf ta tb : TE} {d : PyData} {n : Nat}
theorem draw_runJ {j : Nat} {tm : TE} {many : Int} {Q : VK} (h0 : σ[j]? = some (some (.ref l))) (hd : Dr n H l) (hn : n < 1000000) (hm : Evl.Ev tm σ H (.int many)) (m0 : 0 < many) (m1 : many < 1073741824)
    (k : ∀ r H', 0 ≤ r → r < many → Dr (n + 1) H' l → ExB l H H' → Q (.int r) H') : tCallD spDraw (tCons (tVar j) (tCons tm tNil)) σ H Q :=
  ⟨_, h0, hm H (Ex.refl H) _ fun H1 e1 => ⟨l, many, n, rfl, hd.ex e1, hn, m0, m1, fun r o r0 r1 hd' => k r _ r0 r1 hd' ((ExB.of e1).trans ExB.upd)⟩⟩
end
section
variable {P : Program} {w : World} {K : PySem.W.Frag} {mg : Str → Option Value} {base : Heap} {C : Addr} {c : KC} {σ : L2.St} {H H0 H1 H2 H' : Hp} {te : TE}
theorem q_asgP {D : Ends} {tz : TS} {i : Nat} {P : V → Hp → Prop} (h : ∀ Q : VK, (∀ v H1, P v H1 → Q v H1) → te σ H Q) (k : ∀ v H1, P v H1 → tz D (σ.set i (some v)) H1) : tSeq (tAsg te (gName i)) tz D σ H := h _ fun v H1 p => k v H1 p
theorem rows_rs {p : Nat} : ∀ {ds : List PyData}, (∀ d ∈ ds, Rw ((p : Nat) : Int) d) → ∃ rs : List Rw2, ds = rs.map rD ∧ ∀ r ∈ rs, r.1.length = p
  | [], _ => ⟨[], rfl, fun _ h => nomatch h⟩
  | d :: ds, h => by
    obtain ⟨rs, rfl, h1⟩ := rows_rs (ds := ds) fun e he => h e (List.mem_cons_of_mem _ he)
    obtain ⟨ns, b, rfl, h2, h3⟩ := h d (List.mem_cons_self ..)
    exact ⟨(ns, b) :: rs, rfl, fun r hr => by
      rcases List.mem_cons.mp hr with rfl | hr
      · exact Int.ofNat.inj h2
      · exact h1 r hr⟩
variable {l : Addr} {vs : V} {k : Kd} {p m : Nat}
theorem spec_run {D : Ends} {v0 v1 v4 o6 o7 o8 o9 o10 o11 o12 o13 o14 o15 : Option V} (hL : Hid [l] H) (hd : Dr m H l) (hm : m < 400000) (hw : Dp K (W [l] H) vs (kdD k)) (hb : bas k) (ok : okK ((p : Nat) : Int) k) (p1 : 1 ≤ p) (p3 : p ≤ 3)
    (q : ∀ H' o6 o7 o8 o9 o10 o11 o12 o13 o14 o15, ExB l H H' → Dr (m + 1000) H' l → D.nx [v0, v1, some (.ref l), some (.int (p : Int)), v4, some vs, o6, o7, o8, o9, o10, o11, o12, o13, o14, o15] H') :
    tSeq (tAsg (tCallD (spRows K) (tCons (tVar 2) (tCons (tVar 3) (tCons (tC (.int 6)) (tCons (tC (.int 2)) tNil))))) (gName 6))
    (tSeq (tAsg (tTup (tCons (tCallD (spBuiltP K c 1) (tCons (tVar 5) tNil)) (tCons (tMake C (spInit K C) [] E0 (tCons (tVar 3) (tCons (tVar 6) tNil))) (tCons (tLst tNil) tNil)))) (gTup K 3 (gCons (gName 7) (gCons (gName 8) (gCons (gName 9) gNil)))))
    (tSeq (tFor (iRng1 (tCons (tC (.int 6)) tNil)) (gName 10) (tSeq (tAsg (tCallD (spWr K) (tCons (tVar 2) (tCons (tVar 5) (tCons (tVar 6) tNil)))) (gName 11))
      (tSeq (tAsg (tCallD (spSh K) (tCons (tVar 5) (tCons (tCallD (spVw K) (tCons (tVar 6) tNil)) (tCons (tVar 11) tNil)))) (gName 12))
      (tSeq (tIfS (tNot (tB (tCallD (spSame K 1) (tCons (tCallD (spCr K C c) (tCons (tVar 7) (tCons (tVar 8) (tCons (tVar 11) tNil)))) (tCons (tVar 12) tNil))))) (tRet (tC (.bl false))) tNext)
      (tSeq (tAsg (tTup (tCons (tC (.str "neither")) (tCons (tVar 11) (tCons (tCallD (spWr K) (tCons (tVar 2) (tCons (tVar 5) (tCons (tVar 6) tNil)))) tNil)))) (gName 13))
      (tSeq (tAsg (tAndV (tVar 12) (tCallD (spSh K) (tCons (tVar 5) (tCons (tCallD (spVw K) (tCons (tVar 6) tNil)) (tCons (tOp (rIxT K) (tVar 13) (tC (.int 2))) tNil))))) (gName 12))
      (tIfS (tNot (tB (tCallD (spSame K 1) (tCons (tCallD (spCr K C c) (tCons (tK2 c (spPr c .any) (tVar 7) (tVar 7)) (tCons (tVar 8) (tCons (tVar 13) tNil)))) (tCons (tVar 12) tNil))))) (tRet (tC (.bl false))) tNext)))))))
    (tSeq (tFor (iRng1 (tCons (tOp (rI CMul fun i j => .int (i * j)) (tCB (Evl.rLenS K) (tCons (tVar 6) tNil)) (tCB (fun xs H Q => (∃ i, xs = [.int i] ∧ Q (.int i) H) ∨ ∃ k, xs = [.bl k] ∧ Q (.int (if k then 1 else 0)) H) (tCons (tOp rEq (tOp (rIxT K) (tVar 5) (tC (.int 0))) (tC (.str "rising"))) tNil))) tNil)) (gName 14)
        (tDrop (tBM K "list" rExtend (tVar 9) (tCons (tLc (iRng1 (tCons (tCB (Evl.rLenS K) (tCons (tVar 6) tNil)) tNil)) (gName 15) tYes (tTup (tCons (tC (.str "above")) (tCons (tVar 14) (tCons (tVar 15) tNil)))) [15]) tNil))))
      (tSeq (tAsg (tLc (iSeq K (tVar 9)) (gName 11) (tB (tCallD (spSh K) (tCons (tVar 5) (tCons (tCallD (spVw K) (tCons (tVar 6) tNil)) (tCons (tVar 11) tNil))))) (tVar 11) [11]) (gName 9))
      (tSeq (tIfS (tNot (tB (tCB (rAll K) (tCons (tLc (iSeq K (tVar 9)) (gName 11) tYes (tCallD (spCr K C c) (tCons (tVar 7) (tCons (tVar 8) (tCons (tListOf K (tVar 11)) tNil)))) [11]) tNil)))) (tRet (tC (.bl false))) tNext)
      (tIfS (tAnd (tTest (tOp (rNeD K) (tVar 9) (tLst tNil))) (tNot (tB (tCallD (spTR K) (tCons (tVar 5) (tCons (tVar 6) (tCons (tCallD (spPickV K) (tCons (tVar 2) (tCons (tVar 9) tNil))) tNil))))))) (tRet (tC (.bl false))) tNext)))))) D
      [v0, v1, some (.ref l), some (.int (p : Int)), v4, some vs, o6, o7, o8, o9, o10, o11, o12, o13, o14, o15] H := by
  have hlL : l ∈ [l] := List.mem_cons_self ..
  refine ⟨_, rfl, _, rfl, l, p, 6, 2, m, [l], rfl, hd, by omega, hlL, hL, by omega, by omega, by decide, by decide, by decide, by decide, fun t ds H1 e1 d1 hg hlen hrw => ?_⟩
  obtain ⟨rs, rfl, hp⟩ := rows_rs hrw
  rw [List.length_map] at hlen
  have hL1 := e1.hid d1.ne hL
  have hw1 := hw.up (e1.w hlL)
  have hR : Rws ((p : Nat) : Int) (rs.map rD) := ⟨by rw [List.length_map]; omega, hrw⟩
  have bK : EvK c [l] (tCallD (spBuiltP K c 1) (tCons (tVar 5) tNil)) [v0, v1, some (.ref l), some (.int (p : Int)), v4, some vs, some (.ref t), o7, o8, o9, o10, o11, o12, o13, o14, o15] H1 k := ev_built (K := K) (n := 0) (Evl.ev_var (v := vs) rfl) hL1 hw1 ok (by omega) (by omega) (by rw [bas_dep hb]; omega)
  refine bK H1 (Ex.refl _) _ fun x H2 hx e2 hk => ?_
  have mkS : EvS K [l] C ((p : Nat) : Int) (rs.map rD) (tMake C (spInit K C) [] E0 (tCons (tVar 3) (tCons (tVar 6) tNil))) [v0, v1, some (.ref l), some (.int (p : Int)), v4, some vs, some (.ref t), o7, o8, o9, o10, o11, o12, o13, o14, o15] H2 := mk_run (Evl.ev_var rfl) (.inl (evd_of (Evl.ev_var (v := .ref t) rfl) (hg.up e2).dp)) (hid_ex e2 hL1) (by omega) (by omega) hR
  refine mkS H2 (Ex.refl _) _ fun y H3 e3 hS => ?_
  refine ⟨by rw [sizeLine_eq]; show 0 ≤ 16777216; decide, fun R hRn => ⟨by rw [sizeLine_eq]; show 3 ≤ 16777216; decide, fun r hr => ?_⟩⟩
  have d3 := d1.ex (e2.trans e3)
  have S3 : Std K C c l H3 vs k t x y rs p := ⟨hid_ex (e2.trans e3) hL1, hw1.up (w_ex (e2.trans e3)), hg.up (e2.trans e3), hk.up (w_ex e3), hS, by omega, hp, ok, hb, p1, p3⟩
  have e4 : Ex H3 (upd H3 R (.lst [])) := Ex.new hRn
  have e5 : Ex (upd H3 R (.lst [])) (upd (upd H3 R (.lst [])) r (.tup [.ref x, .ref y, .ref R])) := Ex.new hr
  have hR5 : (upd (upd H3 R (.lst [])) r (.tup [.ref x, .ref y, .ref R])) R = some (.lst []) := e5 _ _ upd_same
  refine ⟨r, [.ref x, .ref y, .ref R], rfl, SqT.of upd_same, rfl, .ref x, [.ref y, .ref R], rfl, .ref y, [.ref R], rfl, .ref R, [], rfl, rfl, ?_⟩
  generalize upd (upd H3 R (.lst [])) r (.tup [.ref x, .ref y, .ref R]) = H5 at e5 hR5 ⊢
  have e35 := e4.trans e5
  have d5 := d3.ex e35
  have Rl : R ≠ l := fun z => by
    obtain ⟨_, _, _, h1, _⟩ := d3
    rw [← z, hRn] at h1
    cases h1
  have S5 := S3.exB (ExB.of e35) d3 d5.ne
  have e05 : ExB l H H5 := (e1.trans (ExB.of (e2.trans e3))).trans (ExB.of e35)
  refine six_run (K := K) (C := C) (c := c) (v0 := v0) (v1 := v1) (v3 := some (.int (p : Int))) (v4 := v4) (o10 := o10) (o11 := o11) (o12 := o12) (o13 := o13) (o14 := o14) (o15 := o15) (R := R) S5 d5 (by omega) fun H6 a10 a11 a12 a13 e6 d6 => ?_
  exact right_run (K := K) (C := C) (c := c) S3 d3 hRn ((ExB.of e35).trans e6) d6 (by omega) (e6 _ _ Rl hR5) fun H7 a9 b10 b11 b12 b13 b14 b15 e7 d7 => q H7 _ _ _ _ _ _ _ _ _ _ ((e1.trans (ExB.of (e2.trans e3))).trans e7) (d7.up (by omega))
def spLaw18 (K : PySem.W.Frag) : Sp := fun vs H Q _ => ∃ (sa : Addr) (ns : List Int), vs = [.ref sa] ∧ SqL K H sa (ns.map V.int) ∧ ns.length ≤ 63 ∧ ∀ H', Ex H H' → Q (.bl true) H'
theorem lst_run {ta : TA} {Q : VK} (h : ta σ H fun us H1 => us.length ≤ sizeLine ∧ ∀ p, H1 p = none → Q (.ref p) (upd H1 p (.lst us))) : tLst ta σ H Q := h
theorem cons_run {ta : TA} {Q : List V → Hp → Prop} (h : te σ H fun x H1 => ta σ H1 fun us H2 => Q (x :: us) H2) : tCons te ta σ H Q := h
/-- the specs of a turn -/
def SpP (l : Addr) (p : Nat) (H3 : Hp) (v : V) (H4 : Hp) : Prop := ∃ S1 u1 u2 u3, ∃ r2 : Int, v = .ref S1 ∧ ExB l H3 H4 ∧ Dr 2 H4 l ∧ H4 S1 = some (.lst [.ref u1, .ref u2, .ref u3]) ∧ H4 u1 = some (.tup [.str "rising", .int (p : Int)]) ∧ H4 u2 = some (.tup [.str "boxes", .int (p : Int)]) ∧ H4 u3 = some (.tup [.str "turns", .int r2]) ∧ 0 ≤ r2 ∧ r2 < 3
theorem specs_run {Q : VK} (h2 : σ[2]? = some (some (.ref l))) (h3 : σ[3]? = some (some (.int (p : Int)))) (hd : Dr 1 H l) (q : ∀ v H1, SpP l p H v H1 → Q v H1) :
    tLst (tCons (tTup (tCons (tC (.str "rising")) (tCons (tVar 3) tNil))) (tCons (tTup (tCons (tC (.str "boxes")) (tCons (tVar 3) tNil))) (tCons (tTup (tCons (tC (.str "turns")) (tCons (tCallD spDraw (tCons (tVar 2) (tCons (tC (.int 3)) tNil))) tNil))) tNil))) σ H Q := by
  have t1 : ∀ H', Evl.EvU (tTup (tCons (tC (.str "rising")) (tCons (tVar 3) tNil))) σ H' [.str "rising", .int (p : Int)] := fun H' => Evl.eu_tup (Evl.ea_cons Evl.ev_c (Evl.ea_cons (Evl.ev_var h3) Evl.ea_nil)) (by simp)
  have t2 : ∀ H', Evl.EvU (tTup (tCons (tC (.str "boxes")) (tCons (tVar 3) tNil))) σ H' [.str "boxes", .int (p : Int)] := fun H' => Evl.eu_tup (Evl.ea_cons Evl.ev_c (Evl.ea_cons (Evl.ev_var h3) Evl.ea_nil)) (by simp)
  refine lst_run (cons_run (t1 H H (Ex.refl _) _ fun u1 H1 hu1 e1 g1 => cons_run (t2 H1 H1 (Ex.refl _) _ fun u2 H2 hu2 e2 g2 => cons_run ?_)))
  have dA := hd.ex (e1.trans e2)
  have nl : ∀ {u : Addr} {xs : List V} {H' : Hp} {m : Nat}, H' u = some (.tup xs) → Dr m H' l → u ≠ l := fun h d z => by
    obtain ⟨_, _, _, h1, _⟩ := d
    rw [z, h1] at h
    cases h
  refine draw_runJ (j := 2) (n := 1) (many := 3) h2 dA (by decide) Evl.ev_c (by decide) (by decide) fun r H3 r0 r1 d3 e3 => ?_
  refine ⟨by rw [sizeLine_eq]; show 2 ≤ 16777216; decide, fun u3 hu3 => ⟨by rw [sizeLine_eq]; show 3 ≤ 16777216; decide, fun S1 hS1 => ?_⟩⟩
  have e4 : Ex H3 (upd H3 u3 (.tup [.str "turns", .int r])) := Ex.new hu3
  have e5 : Ex (upd H3 u3 (.tup [.str "turns", .int r])) (upd (upd H3 u3 (.tup [.str "turns", .int r])) S1 (.lst [.ref u1, .ref u2, .ref u3])) := Ex.new hS1
  have e45 := e4.trans e5
  have g1' := e2 _ _ g1
  exact q _ _ ⟨S1, u1, u2, u3, r, rfl, ((ExB.of (e1.trans e2)).trans e3).trans (ExB.of e45), d3.ex e45, upd_same, e45 _ _ (e3 _ _ (nl g1' dA) g1'), e45 _ _ (e3 _ _ (nl g2 dA) g2), e5 _ _ upd_same, r0, r1⟩
theorem law_body {f : Addr} {fd : FuncData} (F : Fun K "law" "law" s_law f fd) (T : TxV mg) (O : KOp P w K mg base c) (N_Sample : Mak P w K mg base 5 "Sample" C (spInit K C) []) (D_source : DefAt P w K mg base "_law_source" 1 ["_law_script", "_law_at"] (spSource K)) (D_draw : DefAt P w K mg base "_law_draw" 1 ["_law_draws", "_law_many"] spDraw)
    (D_pick : DefAt P w K mg base "_law_pick" 2 ["_law_draws", "_law_things"] (spPickV K)) (D_rows : DefAt P w K mg base "_law_rows" 3 ["_law_draws", "_law_places", "_law_most", "_law_wide"] (spRows K)) (D_built : DefAt P w K mg base "_law_built" 7 ["_law_spec"] (spBuiltP K c 1)) (D_written : DefAt P w K mg base "_law_written" 3 ["_law_draws", "_law_spec", "_law_rows_here"] (spWr K))
    (D_shows : DefAt P w K mg base "_law_shows" 4 ["_law_spec", "_law_view_here", "_law_thing"] (spSh K)) (D_view : DefAt P w K mg base "_law_view" 1 ["_law_rows_here"] (spVw K)) (D_same : DefAt P w K mg base "_law_same" 5 ["_law_found", "_law_due"] (spSame K 1)) (D_is_certificate : DefR P w K mg base "is_certificate" 40 (spCr K C c))
    (D_trees_right : DefAt P w K mg base "_law_trees_right" 41 ["_law_spec", "_law_rows_here", "_law_shown"] (spTR K)) : FnOk P w K mg base CX0 60 f fd ["_law_script"] (spLaw18 K) := by
  refine F.ok sc_law (fun vs H Q E h => ?_) (fun cdv A outer s H vs Q E hr h => ?_)
  · obtain ⟨_, _, rfl, _⟩ := h
    rfl
  · obtain ⟨sa, ns, rfl, hS, hl, k⟩ := h
    refine ⟨_, (pss_cons (ps_for PassesOwn.never rfl (pi_range1 (by rfl) T.m_range (pa_cons pe_int pa_nil)) (pg_name (i := 1) sc_law.nd rfl (by first | exact Or.inl rfl | exact Or.inr rfl))
      (pss_cons (ps_set (i := 2) sc_law.nd rfl (by first | exact Or.inl rfl | exact Or.inr rfl) (pe_callD D_source (by first | exact hr | exact hr.mono (by decide) | exact hr.mono (by omega)) (by rfl) (pa_cons (pv 0) (pa_cons (pv 1) pa_nil))))
      (pss_cons (ps_set (i := 3) sc_law.nd rfl (by first | exact Or.inl rfl | exact Or.inr rfl) (pe_op op_add pe_int (pe_callD D_draw (by first | exact hr | exact hr.mono (by decide) | exact hr.mono (by omega)) (by rfl) (pa_cons (pv 2) (pa_cons pe_int pa_nil)))))
      (pss_cons (ps_set (i := 4) sc_law.nd rfl (by first | exact Or.inl rfl | exact Or.inr rfl) (pe_lst (pa_cons (pe_tup (pa_cons pe_str (pa_cons (pv 3) pa_nil))) (pa_cons (pe_tup (pa_cons pe_str (pa_cons (pv 3) pa_nil))) (pa_cons (pe_tup (pa_cons pe_str (pa_cons (pe_callD D_draw (by first | exact hr | exact hr.mono (by decide) | exact hr.mono (by omega)) (by rfl) (pa_cons (pv 2) (pa_cons pe_int pa_nil))) pa_nil))) pa_nil)))))
      (pss_one (ps_for PassesOwn.never rfl (pi_list (pe_slice sl_list (pv 4) po_none (po_some (pe_op op_add pe_int (pe_callTy call_int1 (by rfl) T.m_int (by decide +kernel) (pa_cons (pe_cmpR op_eq (pv 3) pe_int (nomark _)) pa_nil)))))) (pg_name (i := 5) sc_law.nd rfl (by first | exact Or.inl rfl | exact Or.inr rfl))
        (pss_cons (ps_set (i := 6) sc_law.nd rfl (by first | exact Or.inl rfl | exact Or.inr rfl) (pe_callD D_rows (by first | exact hr | exact hr.mono (by decide) | exact hr.mono (by omega)) (by rfl) (pa_cons (pv 2) (pa_cons (pv 3) (pa_cons pe_int (pa_cons pe_int pa_nil))))))
        (pss_cons (ps_asg (pe_tup (pa_cons (pe_callD D_built (by first | exact hr | exact hr.mono (by decide) | exact hr.mono (by omega)) (by rfl) (pa_cons (pv 5) pa_nil)) (pa_cons (pe_mk N_Sample hr (by omega) (by rfl) (pa_cons (pv 3) (pa_cons (pv 6) pa_nil))) (pa_cons (pe_lst pa_nil) pa_nil)))) (pg_tup (by rfl) (pgs_cons (pg_name (i := 7) sc_law.nd rfl (by first | exact Or.inl rfl | exact Or.inr rfl)) (pgs_cons (pg_name (i := 8) sc_law.nd rfl (by first | exact Or.inl rfl | exact Or.inr rfl)) (pgs_cons (pg_name (i := 9) sc_law.nd rfl (by first | exact Or.inl rfl | exact Or.inr rfl)) pgs_nil)))))
        (pss_cons (ps_for PassesOwn.never rfl (pi_range1 (by rfl) T.m_range (pa_cons pe_int pa_nil)) (pg_name (i := 10) sc_law.nd rfl (by first | exact Or.inl rfl | exact Or.inr rfl))
          (pss_cons (ps_set (i := 11) sc_law.nd rfl (by first | exact Or.inl rfl | exact Or.inr rfl) (pe_callD D_written (by first | exact hr | exact hr.mono (by decide) | exact hr.mono (by omega)) (by rfl) (pa_cons (pv 2) (pa_cons (pv 5) (pa_cons (pv 6) pa_nil)))))
          (pss_cons (ps_set (i := 12) sc_law.nd rfl (by first | exact Or.inl rfl | exact Or.inr rfl) (pe_callD D_shows (by first | exact hr | exact hr.mono (by decide) | exact hr.mono (by omega)) (by rfl) (pa_cons (pv 5) (pa_cons (pe_callD D_view (by first | exact hr | exact hr.mono (by decide) | exact hr.mono (by omega)) (by rfl) (pa_cons (pv 6) pa_nil)) (pa_cons (pv 11) pa_nil)))))
          (pss_cons (ps_if (pt_not (pt_val (pe_callD D_same (by first | exact hr | exact hr.mono (by decide) | exact hr.mono (by omega)) (by rfl) (pa_cons (pe_callR D_is_certificate (hr.mono (by omega)) (by rfl) (pa_cons (pv 7) (pa_cons (pv 8) (pa_cons (pv 11) pa_nil)))) (pa_cons (pv 12) pa_nil))))) (pss_one (ps_ret pe_bl)) pss_nil)
          (pss_cons (ps_set (i := 13) sc_law.nd rfl (by first | exact Or.inl rfl | exact Or.inr rfl) (pe_tup (pa_cons pe_str (pa_cons (pv 11) (pa_cons (pe_callD D_written (by first | exact hr | exact hr.mono (by decide) | exact hr.mono (by omega)) (by rfl) (pa_cons (pv 2) (pa_cons (pv 5) (pa_cons (pv 6) pa_nil)))) pa_nil)))))
          (pss_cons (ps_set (i := 12) sc_law.nd rfl (by first | exact Or.inl rfl | exact Or.inr rfl) (pe_and (pv 12) (pe_one (pe_callD D_shows (by first | exact hr | exact hr.mono (by decide) | exact hr.mono (by omega)) (by rfl) (pa_cons (pv 5) (pa_cons (pe_callD D_view (by first | exact hr | exact hr.mono (by decide) | exact hr.mono (by omega)) (by rfl) (pa_cons (pv 6) pa_nil)) (pa_cons (pe_ix ix_tup (pv 13) pe_int (fun _ _ => rfl)) pa_nil)))))))
          (pss_one (ps_if (pt_not (pt_val (pe_callD D_same (by first | exact hr | exact hr.mono (by decide) | exact hr.mono (by omega)) (by rfl) (pa_cons (pe_callR D_is_certificate (hr.mono (by omega)) (by rfl) (pa_cons (pe_k2 O.add O.sub hr (by omega) (pv 7) (pv 7)) (pa_cons (pv 8) (pa_cons (pv 13) pa_nil)))) (pa_cons (pv 12) pa_nil))))) (pss_one (ps_ret pe_bl)) pss_nil))))))))
        (pss_cons (ps_for PassesOwn.never rfl (pi_range1 (by rfl) T.m_range (pa_cons (pe_op op_mul (pe_callB call_len_seq (by rfl) T.m_len (by decide +kernel) (pa_cons (pv 6) pa_nil)) (pe_callTy call_int1 (by rfl) T.m_int (by decide +kernel) (pa_cons (pe_cmpR op_eq (pe_ix ix_tup (pv 5) pe_int (fun _ _ => rfl)) pe_str (nomark _)) pa_nil))) pa_nil)) (pg_name (i := 14) sc_law.nd rfl (by first | exact Or.inl rfl | exact Or.inr rfl))
          (pss_one (ps_expr (pe_bm PySem.F.plainAttrs_list PySem.F.slot_list_extend PySem.F.type_list_extend mt_extend (pv 9) (pa_cons (pe_lc (own := [("_law_j", 15)]) (g := gName 15) (tt := tYes) (te := tTup (tCons (tC (.str "above")) (tCons (tVar 14) (tCons (tVar 15) tNil)))) (by rfl) sc_law.nd (pi_range1 (by rfl) T.m_range (pa_cons (pe_callB call_len_seq (by rfl) T.m_len (by decide +kernel) (pa_cons (pv 6) pa_nil)) pa_nil)) (blkOk_by (N := sc_law_N) (sc := defScope s_law) (by decide +kernel)) (fun _ _ _ _ _ => (pg_name (i := 15) sc_law.nd rfl (by first | exact Or.inl rfl | exact Or.inr rfl))) (fun _ _ _ _ _ => pts_nil) (fun _ _ _ _ _ => (pe_tup (pa_cons pe_str (pa_cons (pv 14) (pa_cons (pv 15) pa_nil)))))) pa_nil)))))
        (pss_cons (ps_setLc (i := 9) (own := [("_law_shown", 11)]) (g := gName 11) (tt := tB (tCallD (spSh K) (tCons (tVar 5) (tCons (tCallD (spVw K) (tCons (tVar 6) tNil)) (tCons (tVar 11) tNil))))) (te := tVar 11) (by rfl) sc_law.nd rfl rfl (sw_true rfl rfl rfl (by decide +kernel)) (pi_seq (pv 9)) (blkOk_by (N := sc_law_N) (sc := defScope s_law) (by decide +kernel)) (fun _ _ _ _ _ => (pg_name (i := 11) sc_law.nd rfl (by first | exact Or.inl rfl | exact Or.inr rfl))) (fun _ _ _ _ _ => pts_one (pt_val (pe_callD D_shows (by first | exact hr | exact hr.mono (by decide) | exact hr.mono (by omega)) (by rfl) (pa_cons (pv 5) (pa_cons (pe_callD D_view (by first | exact hr | exact hr.mono (by decide) | exact hr.mono (by omega)) (by rfl) (pa_cons (pv 6) pa_nil)) (pa_cons (pv 11) pa_nil)))))) (fun _ _ _ _ _ => (pv 11)))
        (pss_cons (ps_if (pt_not (pt_val (pe_callB (cr_all rfl) (by rfl) T.m_all (by decide +kernel) (pa_cons (pe_lc (own := [("_law_shown", 11)]) (g := gName 11) (tt := tYes) (te := tCallD (spCr K C c) (tCons (tVar 7) (tCons (tVar 8) (tCons (tListOf K (tVar 11)) tNil)))) (by rfl) sc_law.nd (pi_seq (pv 9)) (blkOk_by (N := sc_law_N) (sc := defScope s_law) (by decide +kernel)) (fun _ _ _ _ _ => (pg_name (i := 11) sc_law.nd rfl (by first | exact Or.inl rfl | exact Or.inr rfl))) (fun _ _ _ _ _ => pts_nil) (fun _ _ _ _ _ => (pe_callR D_is_certificate (hr.mono (by omega)) (by rfl) (pa_cons (pv 7) (pa_cons (pv 8) (pa_cons (pe_callTy call_list_of (by rfl) T.m_list (by decide +kernel) (pa_cons (pv 11) pa_nil)) pa_nil)))))) pa_nil)))) (pss_one (ps_ret pe_bl)) pss_nil)
        (pss_one (ps_if (PW.pt (pw_and (pt_cmpR (op_neD hr.units) (pv 9) (pe_lst pa_nil) (nomark _)) (pw_and1 (pt_not (pt_val (pe_callD D_trees_right (by first | exact hr | exact hr.mono (by decide) | exact hr.mono (by omega)) (by rfl) (pa_cons (pv 5) (pa_cons (pv 6) (pa_cons (pe_callD D_pick (by first | exact hr | exact hr.mono (by decide) | exact hr.mono (by omega)) (by rfl) (pa_cons (pv 2) (pa_cons (pv 9) pa_nil))) pa_nil))))))))) (pss_one (ps_ret pe_bl)) pss_nil))))))))))))))
    (pss_one (ps_ret pe_bl))), ?_⟩
    refine Evl.q_forR1 (n := 4) (Evl.ea_cons Evl.ev_c Evl.ea_nil) (by decide) (fun _ σ' H' => Ex H H' ∧ ∃ o1 o2 o3 o4 o5 o6 o7 o8 o9 o10 o11 o12 o13 o14 o15, σ' = [some (.ref sa), o1, o2, o3, o4, o5, o6, o7, o8, o9, o10, o11, o12, o13, o14, o15]) (fun H1 e => ⟨e, _, _, _, _, _, _, _, _, _, _, _, _, _, _, _, rfl⟩) ?_ ?_
    · rintro i σ' H1 hi ⟨e1, o1, o2, o3, o4, o5, o6, o7, o8, o9, o10, o11, o12, o13, o14, o15, rfl⟩
      refine ⟨_, rfl, _, rfl, sa, ns, i, rfl, Evl.ex_l e1 hS, hl, by omega, fun l o hl' hd => ?_⟩
      have back : ∀ {H3 : Hp}, ExB l (upd H1 l o) H3 → Ex H H3 := fun b => e1.trans (exB_new hl' (Ex.new hl') b)
      generalize upd H1 l o = H2 at hd back ⊢
      have hlL : l ∈ [l] := List.mem_cons_self ..
      refine draw_runJ (j := 2) (n := 0) (many := 3) (by rfl) hd (by decide) Evl.ev_c (by decide) (by decide) fun r H3 r0 r1 d3 e3 => ⟨_, _, rfl, rfl, ?_⟩
      obtain ⟨p, hp⟩ : ∃ p : Nat, 1 + r = (p : Int) := ⟨(1 + r).toNat, by omega⟩
      show tSeq _ _ _ [some (.ref sa), some (.int (i : Int)), some (.ref l), some (.int (1 + r)), o4, o5, o6, o7, o8, o9, o10, o11, o12, o13, o14, o15] H3
      rw [hp]
      refine q_asgP (P := SpP l p H3) (fun Q' q' => specs_run rfl rfl d3 q') fun v H4 hv => ?_
      obtain ⟨S1, u1, u2, u3, r2, rfl, e4, d4, hS1, hu1, hu2, hu3, r20, r21⟩ := hv
      show tFor _ _ _ _ [some (.ref sa), some (.int (i : Int)), some (.ref l), some (.int (p : Int)), some (.ref S1), o5, o6, o7, o8, o9, o10, o11, o12, o13, o14, o15] H4
      have nl : ∀ {u : Addr} {xs : List V}, H4 u = some (.tup xs) → u ∉ [l] := fun h m => by
        obtain ⟨_, _, _, h1, _⟩ := d4
        rw [List.mem_singleton.mp m, h1] at h
        cases h
      have hL4 : Hid [l] H4 := fun a m => by rw [List.mem_singleton.mp m]; exact d4.ne
      have sl : Evl.EvL (tSl (rSlL K) (tVar 4) tNoPart (tPart (tOp (rI0 fun i j => .int (i + j)) (tC (.int 2)) (tCB (fun xs H Q => (∃ i, xs = [.int i] ∧ Q (.int i) H) ∨ ∃ k, xs = [.bl k] ∧ Q (.int (if k then 1 else 0)) H) (tCons (tOp rEq (tVar 3) (tC (.int 1))) tNil))))) [some (.ref sa), some (.int (i : Int)), some (.ref l), some (.int (p : Int)), some (.ref S1), o5, o6, o7, o8, o9, o10, o11, o12, o13, o14, o15] H4 (if p = 1 then [.ref u1, .ref u2, .ref u3] else [.ref u1, .ref u2]) := by
        have z := Evl.el_sl (K := K) (te := tVar 4) (tl := tNoPart) (th := tPart (tOp (rI0 fun i j => .int (i + j)) (tC (.int 2)) (tCB (fun xs H Q => (∃ i, xs = [.int i] ∧ Q (.int i) H) ∨ ∃ k, xs = [.bl k] ∧ Q (.int (if k then 1 else 0)) H) (tCons (tOp rEq (tVar 3) (tC (.int 1))) tNil)))) (σ := [some (.ref sa), some (.int (i : Int)), some (.ref l), some (.int (p : Int)), some (.ref S1), o5, o6, o7, o8, o9, o10, o11, o12, o13, o14, o15]) (H := H4) (Evl.ev_var (v := .ref S1) rfl) Evl.eo_none (Evl.eo_some (Evl.ev_op (x := .int 2) (y := .int (if decide (V.int (p : Int) = V.int 1) then 1 else 0)) Evl.ev_c (ev_int1 (Evl.ev_op (Evl.ev_var (v := .int (p : Int)) rfl) (Evl.ev_c (v := .int 1)) (Evl.rv_eq rfl))) (Evl.rv_I0 (g := fun i j => .int (i + j))))) (SqL.of hS1)
        by_cases h1 : p = 1
        · subst h1
          exact z
        · rw [show decide (V.int (p : Int) = V.int 1) = false from decide_eq_false fun z => by injection z with z; omega] at z
          rw [if_neg h1]
          exact z
      have elem : ∀ (j : Nat) (z : V), (if p = 1 then [V.ref u1, .ref u2, .ref u3] else [.ref u1, .ref u2])[j]? = some z → ∃ kk, bas kk ∧ okK ((p : Nat) : Int) kk ∧ Dp K (W [l] H4) z (kdD kk) := fun j z hz => by
        have g1 : ∃ kk, bas kk ∧ okK ((p : Nat) : Int) kk ∧ Dp K (W [l] H4) (.ref u1) (kdD kk) := ⟨.rising (p : Int), .inl rfl, rfl, .tup (SqT.of (w_of (nl hu1) hu1)) (.cons (.str _) (.cons (.int _) .nil))⟩
        have g2 : ∃ kk, bas kk ∧ okK ((p : Nat) : Int) kk ∧ Dp K (W [l] H4) (.ref u2) (kdD kk) := ⟨.boxes (p : Int), .inr (.inl rfl), rfl, .tup (SqT.of (w_of (nl hu2) hu2)) (.cons (.str _) (.cons (.int _) .nil))⟩
        by_cases h1 : p = 1
        · rw [if_pos h1] at hz
          match j, hz with
          | 0, hz => cases hz; exact g1
          | 1, hz => cases hz; exact g2
          | 2, hz =>
            cases hz
            exact ⟨.turns r2, .inr (.inr rfl), ⟨by omega, r20, by omega⟩, .tup (SqT.of (w_of (nl hu3) hu3)) (.cons (.str _) (.cons (.int _) .nil))⟩
          | j + 3, hz => simp at hz
        · rw [if_neg h1] at hz
          match j, hz with
          | 0, hz => cases hz; exact g1
          | 1, hz => cases hz; exact g2
          | j + 2, hz => simp at hz
      have zl : (if p = 1 then [V.ref u1, .ref u2, .ref u3] else [.ref u1, .ref u2]).length ≤ 3 := by split <;> simp
      generalize (if p = 1 then [V.ref u1, .ref u2, .ref u3] else [.ref u1, .ref u2]) = zs at sl elem zl
      refine sl H4 (Ex.refl _) _ fun a H5 ha e5 hzs => ⟨a, rfl, ⟨_, SqL.of hzs⟩, ?_⟩
      have al : a ≠ l := fun z => by
        obtain ⟨_, _, _, h1, _⟩ := d4
        rw [z, h1] at ha
        cases ha
      refine for_it (walk_list (xs := zs)) (fun j σ' H' => ExB l H5 H' ∧ Dr (2 + 1000 * j) H' l ∧ ∃ o5 o6 o7 o8 o9 o10 o11 o12 o13 o14 o15, σ' = [some (.ref sa), some (.int (i : Int)), some (.ref l), some (.int (p : Int)), some (.ref S1), o5, o6, o7, o8, o9, o10, o11, o12, o13, o14, o15]) ⟨ExB.refl _ _, d4.ex e5, _, _, _, _, _, _, _, _, _, _, _, rfl⟩ (fun j σ' H' _ pv => SqL.of (pv.1 _ _ al hzs)) (fun j z σ' H6 H7 hj pv yp => ?_) (fun σ' H6 pv => ?_)
      · obtain ⟨e6, d6, o5, o6, o7, o8, o9, o10, o11, o12, o13, o14, o15, rfl⟩ := pv
        obtain ⟨rfl, hz⟩ := yp
        obtain ⟨kk, hb, hok, hdp⟩ := elem j z hz
        have e46 := (ExB.of e5).trans e6
        exact spec_run (K := K) (C := C) (c := c) (e46.hid d6.ne hL4) d6 (by omega) (hdp.up (e46.w hlL)) hb hok (by omega) (by omega) fun H8 a6 a7 a8 a9 a10 a11 a12 a13 a14 a15 e8 d8 => ⟨e6.trans e8, d8.up (by omega), _, _, _, _, _, _, _, _, _, _, _, rfl⟩
      · obtain ⟨e6, d6, o5, o6, o7, o8, o9, o10, o11, o12, o13, o14, o15, rfl⟩ := pv
        exact ⟨back (((e3.trans e4).trans (ExB.of e5)).trans e6), _, _, _, _, _, _, _, _, _, _, _, _, _, _, _, rfl⟩
    · rintro σ' H1 ⟨e1, o1, o2, o3, o4, o5, o6, o7, o8, o9, o10, o11, o12, o13, o14, o15, rfl⟩
      exact Evl.s_ret (v := .bl true) Evl.ev_c fun H2 e2 => k H2 (e1.trans e2)
end
end U
set_option Elab.async false
set_option linter.all false
set_option maxRecDepth 100000
set_option maxHeartbeats 2000000
/-! HF: the head by one kernel run (HandS.Head2), its facts any looks at a part of the heap (addresses by names), its defs by rows. -/
namespace U
open PySem PySem.Spec PyProof.Rows L2
/-- a look at a part of the heap -/
abbrev Fct : Type := PySem.W.Frag → Bool
abbrev AlF : Type := Bool × List He.FnW
def obsF (fl : List Fct) (fn : List He.DefD) (K : PySem.W.Frag) : AlF := ((fl.all fun f => f K) && fn.all fun d => d.ok K, fn.map fun d => He.fnW K d.at_)
def valF (fn : List He.DefD) : AlF := (true, fn.map He.DefD.val)
def SaysF (fl : List Fct) (fn : List He.DefD) (K : PySem.W.Frag) : Prop := obsF fl fn K = valF fn
def obsFG (as : List Addr) (fl : List Fct) (fn : List He.DefD) (g : Addr → Option Obj) : AlF := obsF fl fn (He.frG g as)
def hookF (as : List Addr) (fl : List Fct) (fn : List He.DefD) : PySem.W.Hook where
  α := AlF
  obs := fun s => obsFG as fl fn s.heap.get?
  val := fun _ => valF fn
  says := fun _ h => ∃ K : PySem.W.Frag, K.In h ∧ SaysF fl fn K
  of := fun _ _ e => ⟨_, He.frG_in, e⟩
  keeps := fun _ _ _ ⟨K, hK, c⟩ k => ⟨K, PySem.W.Frag.In.keeps hK k, c⟩
theorem obsFG_eq {as : List Addr} {fl : List Fct} {fn : List He.DefD} {g : Addr → Option Obj} {s : Shared} (h : ∀ a, g a = s.heap.get? a) : obsFG as fl fn g = (hookF as fl fn).obs s := by
  have e : g = s.heap.get? := funext h
  rw [e] <;> rfl
section
variable {fls : List (List Fct)} {fns : List (List He.DefD)} {K : PySem.W.Frag}
/-- the looks of one part -/
theorem SaysF.part (c : SaysF fls.flatten fns.flatten K) (j : Nat) {l : List Fct} (h : fls[j]? = some l) : (l.all fun f => f K) = true := by
  have c1 := (He.ba (show ((fls.flatten.all fun f => f K) && fns.flatten.all fun d => d.ok K) = true from congrArg (fun z : AlF => z.1) c)).1
  exact List.all_eq_true.mpr fun f hf => List.all_eq_true.mp c1 f (List.mem_flatten.mpr ⟨l, List.mem_of_getElem? h, hf⟩)
theorem pk {l : List Fct} (c : (l.all fun f => f K) = true) (i : Nat) {f : Fct} (h : l[i]? = some f) : f K = true := List.all_eq_true.mp c f (List.mem_of_getElem? h)
theorem fst_of_mem {α β : Type} {g1 g2 : α → β} : ∀ {l : List α}, l.map g1 = l.map g2 → ∀ d ∈ l, g1 d = g2 d
  | [], _, _, h => by cases h
  | a :: r, e, d, h => by
    have e2 : g1 a :: r.map g1 = g2 a :: r.map g2 := e
    injection e2 with e3 e4
    rcases List.mem_cons.mp h with rfl | h
    · exact e3
    · exact fst_of_mem e4 d h
theorem SaysF.dfs (c : SaysF fls.flatten fns.flatten K) (j : Nat) {l : List He.DefD} (h : fns[j]? = some l) (i : Nat) {d : He.DefD} (h2 : l[i]? = some d) : ∃ fd, FunD K d.name d.qual d.params d.body d.scope (d.dvs K) (d.kws K) (He.fAd K d.at_) fd := by
  have c2 := (He.ba (show ((fls.flatten.all fun f => f K) && fns.flatten.all fun d => d.ok K) = true from congrArg (fun z : AlF => z.1) c)).2
  have e : fns.flatten.map (fun d => He.fnW K d.at_) = fns.flatten.map He.DefD.val := congrArg (fun z : AlF => z.2) c
  have m : d ∈ fns.flatten := List.mem_flatten.mpr ⟨l, List.mem_of_getElem? h, List.mem_of_getElem? h2⟩
  exact He.DefD.funD (fst_of_mem e d m) (List.all_eq_true.mp c2 d m)
end
/-- a def without defaults -/
theorem fun_of {K : PySem.W.Frag} {x qual : Str} {st : Stmt} {kws : List (Str × V)} {f : Addr} {fd : FuncData} (F : FunD K x qual (defArgs st) (defBody st) (defScope st) [] kws f fd) : Fun K x qual st f fd := by
  obtain ⟨oc, od, dV, kV, doc, pm, an, cdv, ct, osl, e, lk, hc, hd, _⟩ := F.ex
  rcases hd with ⟨_, rfl⟩ | ⟨h, _⟩
  · exact ⟨⟨oc, od, kV, doc, pm, an, cdv, ct, osl, e, lk, hc⟩, F.kp⟩
  · exact absurd rfl h
/-- looks told apart -/
def eqV (a b : Option Value) : Bool := decide (a = b)
def eqB (a b : Option Bool) : Bool := decide (a = b)
theorem eqV_ok {a b : Option Value} (h : eqV a b = true) : a = b := of_decide_eq_true h
theorem eqB_ok {a b : Option Bool} (h : eqB a b = true) : a = b := of_decide_eq_true h
/-- a global int -/
def gInt (K : PySem.W.Frag) (x : Str) (i : Int) : Bool := match PySem.W.nsIn K mainGlobals x with
  | some (some (.int j _)) => decide (j = i)
  | _ => false
theorem gInt_ok {K : PySem.W.Frag} {x : Str} {i : Int} (c : gInt K x i = true) : ∃ t, PySem.W.nsIn K mainGlobals x = some (some (.int i t)) := by
  unfold gInt at c
  split at c
  · next j t e => exact ⟨t, by rw [e, of_decide_eq_true c]⟩
  · cases c
end U
set_option Elab.async false
set_option linter.all false
set_option maxRecDepth 100000
set_option maxHeartbeats 8000000
namespace U
open PySem PySem.Spec PyProof.Rows L2
open Evl (Ex)
open C8 (Met Mak)
theorem dn_and : PySem.dunder Operator.BitAnd.info.2 = "__and__" ∧ dunderR Operator.BitAnd.info.2 = "__rand__" := by decide +kernel
theorem dn_or : PySem.dunder Operator.BitOr.info.2 = "__or__" ∧ dunderR Operator.BitOr.info.2 = "__ror__" := by decide +kernel
theorem dn_add : PySem.dunder Operator.Add.info.2 = "__add__" ∧ dunderR Operator.Add.info.2 = "__radd__" := by decide +kernel
theorem kit_self {K : PySem.W.Frag} {C : Addr} : PySem.W.kitOne K (.ref C) (.ref C) = some true := by
  unfold PySem.W.kitOne
  rw [if_pos (by simp)]
theorem all_mk {l : PySem.W.OpenLaw} {w : World} {K : PySem.W.Frag} {h : Heap} {mg : Str → Option Value} {fa fF_is_integer fF_is_label fF_is_row fF_is_row_of fF_is_form fF_is_number_of fF_is_number_of_places fF_is_point fF_is_example fF_copied_example fF_check_number_of_places fF_check_lies fF_is_between fF_encloses fF_is_above fF_lies_below fF_is_turning fF_pairs fF_is_proof fF_without fF_is_plain fF_is_tree fF_is_leaf fF_check_places fL_source fL_draw fL_pick fL_same fL_point fL_rows fL_built fL_is_list fL_is_int fL_headed fL_is_pairs fL_labelled fL_shows fL_around fL_shows_turns fL_view fL_written fL_trees_right fL_law Cha fMha_init fMha_invert fMha_and fMha_or fMha_add Cbo fMbo_init fMbo_invert fMbo_and fMbo_or fMbo_add fMbo_proves Cri fMri_init fMri_invert fMri_and fMri_or fMri_add fMri_proves Cfl fMfl_init fMfl_invert fMfl_and fMfl_or fMfl_add Ctu fMtu_init fMtu_invert fMtu_and fMtu_or fMtu_add fMtu_proves Cco fMco_init fMco_invert fMco_and fMco_or fMco_add Cpa fMpa_init fMpa_invert fMpa_and fMpa_or fMpa_add CS fMS_examples fMS_len E0 fSI fIC : Addr}
    (X : K.In h) (G : h.Ns mainGlobals mg) (hfa : mg "law" = some (.ref fa))
    (aF_is_integer : PySem.W.nsIn K mainGlobals "is_integer" = some (some (.ref fF_is_integer)))
    (gF_is_integer : ∃ fd, FunD K "is_integer" "is_integer" (defArgs s_is_integer) (defBody s_is_integer) (defScope s_is_integer) [] [] fF_is_integer fd)
    (aF_is_label : PySem.W.nsIn K mainGlobals "is_label" = some (some (.ref fF_is_label)))
    (gF_is_label : ∃ fd, FunD K "is_label" "is_label" (defArgs s_is_label) (defBody s_is_label) (defScope s_is_label) [] [] fF_is_label fd)
    (aF_is_row : PySem.W.nsIn K mainGlobals "is_row" = some (some (.ref fF_is_row)))
    (gF_is_row : ∃ fd, FunD K "is_row" "is_row" (defArgs s_is_row) (defBody s_is_row) (defScope s_is_row) [] [] fF_is_row fd)
    (aF_is_row_of : PySem.W.nsIn K mainGlobals "is_row_of" = some (some (.ref fF_is_row_of)))
    (gF_is_row_of : ∃ fd, FunD K "is_row_of" "is_row_of" (defArgs s_is_row_of) (defBody s_is_row_of) (defScope s_is_row_of) [] [] fF_is_row_of fd)
    (aF_is_form : PySem.W.nsIn K mainGlobals "is_form" = some (some (.ref fF_is_form)))
    (gF_is_form : ∃ fd, FunD K "is_form" "is_form" (defArgs s_is_form) (defBody s_is_form) (defScope s_is_form) [] [] fF_is_form fd)
    (aF_is_number_of : PySem.W.nsIn K mainGlobals "is_number_of" = some (some (.ref fF_is_number_of)))
    (gF_is_number_of : ∃ fd, FunD K "is_number_of" "is_number_of" (defArgs s_is_number_of) (defBody s_is_number_of) (defScope s_is_number_of) [] [] fF_is_number_of fd)
    (aF_is_number_of_places : PySem.W.nsIn K mainGlobals "is_number_of_places" = some (some (.ref fF_is_number_of_places)))
    (gF_is_number_of_places : ∃ fd, FunD K "is_number_of_places" "is_number_of_places" (defArgs s_is_number_of_places) (defBody s_is_number_of_places) (defScope s_is_number_of_places) [] [] fF_is_number_of_places fd)
    (aF_is_point : PySem.W.nsIn K mainGlobals "is_point" = some (some (.ref fF_is_point)))
    (gF_is_point : ∃ fd, FunD K "is_point" "is_point" (defArgs s_is_point) (defBody s_is_point) (defScope s_is_point) [] [] fF_is_point fd)
    (aF_is_example : PySem.W.nsIn K mainGlobals "is_example" = some (some (.ref fF_is_example)))
    (gF_is_example : ∃ fd, FunD K "is_example" "is_example" (defArgs s_is_example) (defBody s_is_example) (defScope s_is_example) [] [] fF_is_example fd)
    (aF_copied_example : PySem.W.nsIn K mainGlobals "copied_example" = some (some (.ref fF_copied_example)))
    (gF_copied_example : ∃ fd, FunD K "copied_example" "copied_example" (defArgs s_copied_example) (defBody s_copied_example) (defScope s_copied_example) [] [] fF_copied_example fd)
    (aF_check_number_of_places : PySem.W.nsIn K mainGlobals "_check_number_of_places" = some (some (.ref fF_check_number_of_places)))
    (gF_check_number_of_places : ∃ fd, FunD K "_check_number_of_places" "_check_number_of_places" (defArgs s_check_number_of_places) (defBody s_check_number_of_places) (defScope s_check_number_of_places) [] [] fF_check_number_of_places fd)
    (aF_check_lies : PySem.W.nsIn K mainGlobals "check_lies" = some (some (.ref fF_check_lies)))
    (gF_check_lies : ∃ fd, FunD K "check_lies" "check_lies" (defArgs s_check_lies) (defBody s_check_lies) (defScope s_check_lies) [] [] fF_check_lies fd)
    (aF_is_between : PySem.W.nsIn K mainGlobals "is_between" = some (some (.ref fF_is_between)))
    (gF_is_between : ∃ fd, FunD K "is_between" "is_between" (defArgs s_is_between) (defBody s_is_between) (defScope s_is_between) [] [] fF_is_between fd)
    (aF_encloses : PySem.W.nsIn K mainGlobals "_encloses" = some (some (.ref fF_encloses)))
    (gF_encloses : ∃ fd, FunD K "_encloses" "_encloses" (defArgs s_encloses) (defBody s_encloses) (defScope s_encloses) [] [] fF_encloses fd)
    (aF_is_above : PySem.W.nsIn K mainGlobals "is_above" = some (some (.ref fF_is_above)))
    (gF_is_above : ∃ fd, FunD K "is_above" "is_above" (defArgs s_is_above) (defBody s_is_above) (defScope s_is_above) [] [] fF_is_above fd)
    (aF_lies_below : PySem.W.nsIn K mainGlobals "_lies_below" = some (some (.ref fF_lies_below)))
    (gF_lies_below : ∃ fd, FunD K "_lies_below" "_lies_below" (defArgs s_lies_below) (defBody s_lies_below) (defScope s_lies_below) [] [] fF_lies_below fd)
    (aF_is_turning : PySem.W.nsIn K mainGlobals "is_turning" = some (some (.ref fF_is_turning)))
    (gF_is_turning : ∃ fd, FunD K "is_turning" "is_turning" (defArgs s_is_turning) (defBody s_is_turning) (defScope s_is_turning) [] [] fF_is_turning fd)
    (aF_pairs : PySem.W.nsIn K mainGlobals "_pairs" = some (some (.ref fF_pairs)))
    (gF_pairs : ∃ fd, FunD K "_pairs" "_pairs" (defArgs s_pairs) (defBody s_pairs) (defScope s_pairs) [] [] fF_pairs fd)
    (aF_is_proof : PySem.W.nsIn K mainGlobals "_is_proof" = some (some (.ref fF_is_proof)))
    (gF_is_proof : ∃ fd, FunD K "_is_proof" "_is_proof" (defArgs s_is_proof) (defBody s_is_proof) (defScope s_is_proof) [] [] fF_is_proof fd)
    (aF_without : PySem.W.nsIn K mainGlobals "_without" = some (some (.ref fF_without)))
    (gF_without : ∃ fd, FunD K "_without" "_without" (defArgs s_without) (defBody s_without) (defScope s_without) [] [] fF_without fd)
    (aF_is_plain : PySem.W.nsIn K mainGlobals "_is_plain" = some (some (.ref fF_is_plain)))
    (gF_is_plain : ∃ fd, FunD K "_is_plain" "_is_plain" (defArgs s_is_plain) (defBody s_is_plain) (defScope s_is_plain) [] [] fF_is_plain fd)
    (aF_is_tree : PySem.W.nsIn K mainGlobals "_is_tree" = some (some (.ref fF_is_tree)))
    (gF_is_tree : ∃ fd, FunD K "_is_tree" "_is_tree" (defArgs s_is_tree) (defBody s_is_tree) (defScope s_is_tree) [] [] fF_is_tree fd)
    (aF_is_leaf : PySem.W.nsIn K mainGlobals "_is_leaf" = some (some (.ref fF_is_leaf)))
    (gF_is_leaf : ∃ fd, FunD K "_is_leaf" "_is_leaf" (defArgs s_is_leaf) (defBody s_is_leaf) (defScope s_is_leaf) [] [] fF_is_leaf fd)
    (aF_check_places : PySem.W.nsIn K mainGlobals "check_places" = some (some (.ref fF_check_places)))
    (gF_check_places : ∃ fd, FunD K "check_places" "check_places" (defArgs s_check_places) (defBody s_check_places) (defScope s_check_places) [] [] fF_check_places fd)
    (aL_source : PySem.W.nsIn K mainGlobals "_law_source" = some (some (.ref fL_source)))
    (gL_source : ∃ fd, FunD K "_law_source" "_law_source" (defArgs s_source) (defBody s_source) (defScope s_source) [] [] fL_source fd)
    (aL_draw : PySem.W.nsIn K mainGlobals "_law_draw" = some (some (.ref fL_draw)))
    (gL_draw : ∃ fd, FunD K "_law_draw" "_law_draw" (defArgs s_draw) (defBody s_draw) (defScope s_draw) [] [] fL_draw fd)
    (aL_pick : PySem.W.nsIn K mainGlobals "_law_pick" = some (some (.ref fL_pick)))
    (gL_pick : ∃ fd, FunD K "_law_pick" "_law_pick" (defArgs s_pick) (defBody s_pick) (defScope s_pick) [] [] fL_pick fd)
    (aL_same : PySem.W.nsIn K mainGlobals "_law_same" = some (some (.ref fL_same)))
    (gL_same : ∃ fd, FunD K "_law_same" "_law_same" (defArgs s_same) (defBody s_same) (defScope s_same) [] [] fL_same fd)
    (aL_point : PySem.W.nsIn K mainGlobals "_law_point" = some (some (.ref fL_point)))
    (gL_point : ∃ fd, FunD K "_law_point" "_law_point" (defArgs s_point) (defBody s_point) (defScope s_point) [] [] fL_point fd)
    (aL_rows : PySem.W.nsIn K mainGlobals "_law_rows" = some (some (.ref fL_rows)))
    (gL_rows : ∃ fd, FunD K "_law_rows" "_law_rows" (defArgs s_rows) (defBody s_rows) (defScope s_rows) [] [] fL_rows fd)
    (aL_built : PySem.W.nsIn K mainGlobals "_law_built" = some (some (.ref fL_built)))
    (gL_built : ∃ fd, FunD K "_law_built" "_law_built" (defArgs s_built) (defBody s_built) (defScope s_built) [] [] fL_built fd)
    (aL_is_list : PySem.W.nsIn K mainGlobals "_law_is_list" = some (some (.ref fL_is_list)))
    (gL_is_list : ∃ fd, FunD K "_law_is_list" "_law_is_list" (defArgs s_is_list) (defBody s_is_list) (defScope s_is_list) [] [] fL_is_list fd)
    (aL_is_int : PySem.W.nsIn K mainGlobals "_law_is_int" = some (some (.ref fL_is_int)))
    (gL_is_int : ∃ fd, FunD K "_law_is_int" "_law_is_int" (defArgs s_is_int) (defBody s_is_int) (defScope s_is_int) [] [] fL_is_int fd)
    (aL_headed : PySem.W.nsIn K mainGlobals "_law_headed" = some (some (.ref fL_headed)))
    (gL_headed : ∃ fd, FunD K "_law_headed" "_law_headed" (defArgs s_headed) (defBody s_headed) (defScope s_headed) [] [] fL_headed fd)
    (aL_is_pairs : PySem.W.nsIn K mainGlobals "_law_is_pairs" = some (some (.ref fL_is_pairs)))
    (gL_is_pairs : ∃ fd, FunD K "_law_is_pairs" "_law_is_pairs" (defArgs s_is_pairs) (defBody s_is_pairs) (defScope s_is_pairs) [] [] fL_is_pairs fd)
    (aL_labelled : PySem.W.nsIn K mainGlobals "_law_labelled" = some (some (.ref fL_labelled)))
    (gL_labelled : ∃ fd, FunD K "_law_labelled" "_law_labelled" (defArgs s_labelled) (defBody s_labelled) (defScope s_labelled) [] [] fL_labelled fd)
    (aL_shows : PySem.W.nsIn K mainGlobals "_law_shows" = some (some (.ref fL_shows)))
    (gL_shows : ∃ fd, FunD K "_law_shows" "_law_shows" (defArgs s_shows) (defBody s_shows) (defScope s_shows) [] [] fL_shows fd)
    (aL_around : PySem.W.nsIn K mainGlobals "_law_around" = some (some (.ref fL_around)))
    (gL_around : ∃ fd, FunD K "_law_around" "_law_around" (defArgs s_around) (defBody s_around) (defScope s_around) [] [] fL_around fd)
    (aL_shows_turns : PySem.W.nsIn K mainGlobals "_law_shows_turns" = some (some (.ref fL_shows_turns)))
    (gL_shows_turns : ∃ fd, FunD K "_law_shows_turns" "_law_shows_turns" (defArgs s_shows_turns) (defBody s_shows_turns) (defScope s_shows_turns) [] [] fL_shows_turns fd)
    (aL_view : PySem.W.nsIn K mainGlobals "_law_view" = some (some (.ref fL_view)))
    (gL_view : ∃ fd, FunD K "_law_view" "_law_view" (defArgs s_view) (defBody s_view) (defScope s_view) [] [] fL_view fd)
    (aL_written : PySem.W.nsIn K mainGlobals "_law_written" = some (some (.ref fL_written)))
    (gL_written : ∃ fd, FunD K "_law_written" "_law_written" (defArgs s_written) (defBody s_written) (defScope s_written) [] [] fL_written fd)
    (aL_trees_right : PySem.W.nsIn K mainGlobals "_law_trees_right" = some (some (.ref fL_trees_right)))
    (gL_trees_right : ∃ fd, FunD K "_law_trees_right" "_law_trees_right" (defArgs s_trees_right) (defBody s_trees_right) (defScope s_trees_right) [] [] fL_trees_right fd)
    (aL_law : PySem.W.nsIn K mainGlobals "law" = some (some (.ref fL_law)))
    (gL_law : ∃ fd, FunD K "law" "law" (defArgs s_law) (defBody s_law) (defScope s_law) [] [] fL_law fd)
    (aCha : PySem.W.nsIn K mainGlobals "Halves" = some (some (.ref Cha)))
    (pgha : PySem.W.plainGet K Cha Str.empty = true)
    (hdha : PySem.W.hasDictIn K Cha = true)
    (poha : PySem.W.plainOver K Cha = true)
    (saha : PySem.W.findIn K (.ref Cha) "__setattr__" = some (some (.builtin "object.__setattr__")))
    (mkha : PySem.W.makesIn K Cha = true)
    (kcha : PySem.W.keepIn K (.ref Cha) = true)
    (sfha : PySem.W.selfFirst K Cha = true)
    (nha_places : PySem.W.findIn K (.ref Cha) "places" = some none)
    (nha_most : PySem.W.findIn K (.ref Cha) "most" = some none)
    (nha_kind : PySem.W.findIn K (.ref Cha) "kind" = some none)
    (nha_word : PySem.W.findIn K (.ref Cha) "word" = some none)
    (nha_one : PySem.W.findIn K (.ref Cha) "one" = some none)
    (nha_other : PySem.W.findIn K (.ref Cha) "other" = some none)
    (rha_rand : PySem.W.findIn K (.ref Cha) "__rand__" = some none)
    (rha_ror : PySem.W.findIn K (.ref Cha) "__ror__" = some none)
    (rha_radd : PySem.W.findIn K (.ref Cha) "__radd__" = some none)
    (qhha : PySem.W.findIn K (.ref Cha) "__class__" = some (some (.builtin "object.__class__")))
    (qnha : PySem.W.findIn K (.ref Cha) "__ne__" = some (some (.builtin "object.__ne__")))
    (qmha : PySem.W.mroIn K Cha (.type "object") = some true)
    (qcha : PySem.W.isClsIn K Cha = true)
    (qtha : PySem.W.typeIn K (.ref Cha) = some (.type "type"))
    (qsha : PySem.W.subIn K (.ref Cha) (.ref Cha) = some true)
    (aMha_init : PySem.W.findIn K (.ref Cha) "__init__" = some (some (.ref fMha_init)))
    (iMha_init : PySem.W.isFn K (.ref fMha_init) = true)
    (gMha_init : ∃ fd, FunD K "__init__" "Halves.__init__" (defArgs s_Halves_init) (defBody s_Halves_init) (defScope s_Halves_init) [] [] fMha_init fd)
    (aMha_invert : PySem.W.findIn K (.ref Cha) "__invert__" = some (some (.ref fMha_invert)))
    (iMha_invert : PySem.W.isFn K (.ref fMha_invert) = true)
    (gMha_invert : ∃ fd, FunD K "__invert__" "Halves.__invert__" (defArgs s_Halves_invert) (defBody s_Halves_invert) (defScope s_Halves_invert) [] [] fMha_invert fd)
    (aMha_and : PySem.W.findIn K (.ref Cha) "__and__" = some (some (.ref fMha_and)))
    (iMha_and : PySem.W.isFn K (.ref fMha_and) = true)
    (gMha_and : ∃ fd, FunD K "__and__" "Halves.__and__" (defArgs s_Halves_and) (defBody s_Halves_and) (defScope s_Halves_and) [] [] fMha_and fd)
    (aMha_or : PySem.W.findIn K (.ref Cha) "__or__" = some (some (.ref fMha_or)))
    (iMha_or : PySem.W.isFn K (.ref fMha_or) = true)
    (gMha_or : ∃ fd, FunD K "__or__" "Halves.__or__" (defArgs s_Halves_or) (defBody s_Halves_or) (defScope s_Halves_or) [] [] fMha_or fd)
    (aMha_add : PySem.W.findIn K (.ref Cha) "__add__" = some (some (.ref fMha_add)))
    (iMha_add : PySem.W.isFn K (.ref fMha_add) = true)
    (gMha_add : ∃ fd, FunD K "__add__" "Halves.__add__" (defArgs s_Halves_add) (defBody s_Halves_add) (defScope s_Halves_add) [] [] fMha_add fd)
    (aCbo : PySem.W.nsIn K mainGlobals "Boxes" = some (some (.ref Cbo)))
    (pgbo : PySem.W.plainGet K Cbo Str.empty = true)
    (hdbo : PySem.W.hasDictIn K Cbo = true)
    (pobo : PySem.W.plainOver K Cbo = true)
    (sabo : PySem.W.findIn K (.ref Cbo) "__setattr__" = some (some (.builtin "object.__setattr__")))
    (mkbo : PySem.W.makesIn K Cbo = true)
    (kcbo : PySem.W.keepIn K (.ref Cbo) = true)
    (sfbo : PySem.W.selfFirst K Cbo = true)
    (nbo_places : PySem.W.findIn K (.ref Cbo) "places" = some none)
    (nbo_most : PySem.W.findIn K (.ref Cbo) "most" = some none)
    (nbo_kind : PySem.W.findIn K (.ref Cbo) "kind" = some none)
    (nbo_word : PySem.W.findIn K (.ref Cbo) "word" = some none)
    (nbo_one : PySem.W.findIn K (.ref Cbo) "one" = some none)
    (nbo_other : PySem.W.findIn K (.ref Cbo) "other" = some none)
    (rbo_rand : PySem.W.findIn K (.ref Cbo) "__rand__" = some none)
    (rbo_ror : PySem.W.findIn K (.ref Cbo) "__ror__" = some none)
    (rbo_radd : PySem.W.findIn K (.ref Cbo) "__radd__" = some none)
    (qhbo : PySem.W.findIn K (.ref Cbo) "__class__" = some (some (.builtin "object.__class__")))
    (qnbo : PySem.W.findIn K (.ref Cbo) "__ne__" = some (some (.builtin "object.__ne__")))
    (qmbo : PySem.W.mroIn K Cbo (.type "object") = some true)
    (qcbo : PySem.W.isClsIn K Cbo = true)
    (qtbo : PySem.W.typeIn K (.ref Cbo) = some (.type "type"))
    (qsbo : PySem.W.subIn K (.ref Cbo) (.ref Cbo) = some true)
    (aMbo_init : PySem.W.findIn K (.ref Cbo) "__init__" = some (some (.ref fMbo_init)))
    (iMbo_init : PySem.W.isFn K (.ref fMbo_init) = true)
    (gMbo_init : ∃ fd, FunD K "__init__" "Boxes.__init__" (defArgs s_Boxes_init) (defBody s_Boxes_init) (defScope s_Boxes_init) [] [] fMbo_init fd)
    (aMbo_invert : PySem.W.findIn K (.ref Cbo) "__invert__" = some (some (.ref fMbo_invert)))
    (iMbo_invert : PySem.W.isFn K (.ref fMbo_invert) = true)
    (gMbo_invert : ∃ fd, FunD K "__invert__" "Boxes.__invert__" (defArgs s_Boxes_invert) (defBody s_Boxes_invert) (defScope s_Boxes_invert) [] [] fMbo_invert fd)
    (aMbo_and : PySem.W.findIn K (.ref Cbo) "__and__" = some (some (.ref fMbo_and)))
    (iMbo_and : PySem.W.isFn K (.ref fMbo_and) = true)
    (gMbo_and : ∃ fd, FunD K "__and__" "Boxes.__and__" (defArgs s_Boxes_and) (defBody s_Boxes_and) (defScope s_Boxes_and) [] [] fMbo_and fd)
    (aMbo_or : PySem.W.findIn K (.ref Cbo) "__or__" = some (some (.ref fMbo_or)))
    (iMbo_or : PySem.W.isFn K (.ref fMbo_or) = true)
    (gMbo_or : ∃ fd, FunD K "__or__" "Boxes.__or__" (defArgs s_Boxes_or) (defBody s_Boxes_or) (defScope s_Boxes_or) [] [] fMbo_or fd)
    (aMbo_add : PySem.W.findIn K (.ref Cbo) "__add__" = some (some (.ref fMbo_add)))
    (iMbo_add : PySem.W.isFn K (.ref fMbo_add) = true)
    (gMbo_add : ∃ fd, FunD K "__add__" "Boxes.__add__" (defArgs s_Boxes_add) (defBody s_Boxes_add) (defScope s_Boxes_add) [] [] fMbo_add fd)
    (aMbo_proves : PySem.W.findIn K (.ref Cbo) "proves" = some (some (.ref fMbo_proves)))
    (iMbo_proves : PySem.W.isFn K (.ref fMbo_proves) = true)
    (gMbo_proves : ∃ fd, FunD K "proves" "Boxes.proves" (defArgs s_Boxes_proves) (defBody s_Boxes_proves) (defScope s_Boxes_proves) [] [] fMbo_proves fd)
    (aCri : PySem.W.nsIn K mainGlobals "Rising" = some (some (.ref Cri)))
    (pgri : PySem.W.plainGet K Cri Str.empty = true)
    (hdri : PySem.W.hasDictIn K Cri = true)
    (pori : PySem.W.plainOver K Cri = true)
    (sari : PySem.W.findIn K (.ref Cri) "__setattr__" = some (some (.builtin "object.__setattr__")))
    (mkri : PySem.W.makesIn K Cri = true)
    (kcri : PySem.W.keepIn K (.ref Cri) = true)
    (sfri : PySem.W.selfFirst K Cri = true)
    (nri_places : PySem.W.findIn K (.ref Cri) "places" = some none)
    (nri_most : PySem.W.findIn K (.ref Cri) "most" = some none)
    (nri_kind : PySem.W.findIn K (.ref Cri) "kind" = some none)
    (nri_word : PySem.W.findIn K (.ref Cri) "word" = some none)
    (nri_one : PySem.W.findIn K (.ref Cri) "one" = some none)
    (nri_other : PySem.W.findIn K (.ref Cri) "other" = some none)
    (rri_rand : PySem.W.findIn K (.ref Cri) "__rand__" = some none)
    (rri_ror : PySem.W.findIn K (.ref Cri) "__ror__" = some none)
    (rri_radd : PySem.W.findIn K (.ref Cri) "__radd__" = some none)
    (qhri : PySem.W.findIn K (.ref Cri) "__class__" = some (some (.builtin "object.__class__")))
    (qnri : PySem.W.findIn K (.ref Cri) "__ne__" = some (some (.builtin "object.__ne__")))
    (qmri : PySem.W.mroIn K Cri (.type "object") = some true)
    (qcri : PySem.W.isClsIn K Cri = true)
    (qtri : PySem.W.typeIn K (.ref Cri) = some (.type "type"))
    (qsri : PySem.W.subIn K (.ref Cri) (.ref Cri) = some true)
    (aMri_init : PySem.W.findIn K (.ref Cri) "__init__" = some (some (.ref fMri_init)))
    (iMri_init : PySem.W.isFn K (.ref fMri_init) = true)
    (gMri_init : ∃ fd, FunD K "__init__" "Rising.__init__" (defArgs s_Rising_init) (defBody s_Rising_init) (defScope s_Rising_init) [] [] fMri_init fd)
    (aMri_invert : PySem.W.findIn K (.ref Cri) "__invert__" = some (some (.ref fMri_invert)))
    (iMri_invert : PySem.W.isFn K (.ref fMri_invert) = true)
    (gMri_invert : ∃ fd, FunD K "__invert__" "Rising.__invert__" (defArgs s_Rising_invert) (defBody s_Rising_invert) (defScope s_Rising_invert) [] [] fMri_invert fd)
    (aMri_and : PySem.W.findIn K (.ref Cri) "__and__" = some (some (.ref fMri_and)))
    (iMri_and : PySem.W.isFn K (.ref fMri_and) = true)
    (gMri_and : ∃ fd, FunD K "__and__" "Rising.__and__" (defArgs s_Rising_and) (defBody s_Rising_and) (defScope s_Rising_and) [] [] fMri_and fd)
    (aMri_or : PySem.W.findIn K (.ref Cri) "__or__" = some (some (.ref fMri_or)))
    (iMri_or : PySem.W.isFn K (.ref fMri_or) = true)
    (gMri_or : ∃ fd, FunD K "__or__" "Rising.__or__" (defArgs s_Rising_or) (defBody s_Rising_or) (defScope s_Rising_or) [] [] fMri_or fd)
    (aMri_add : PySem.W.findIn K (.ref Cri) "__add__" = some (some (.ref fMri_add)))
    (iMri_add : PySem.W.isFn K (.ref fMri_add) = true)
    (gMri_add : ∃ fd, FunD K "__add__" "Rising.__add__" (defArgs s_Rising_add) (defBody s_Rising_add) (defScope s_Rising_add) [] [] fMri_add fd)
    (aMri_proves : PySem.W.findIn K (.ref Cri) "proves" = some (some (.ref fMri_proves)))
    (iMri_proves : PySem.W.isFn K (.ref fMri_proves) = true)
    (gMri_proves : ∃ fd, FunD K "proves" "Rising.proves" (defArgs s_Rising_proves) (defBody s_Rising_proves) (defScope s_Rising_proves) [] [] fMri_proves fd)
    (aCfl : PySem.W.nsIn K mainGlobals "Flats" = some (some (.ref Cfl)))
    (pgfl : PySem.W.plainGet K Cfl Str.empty = true)
    (hdfl : PySem.W.hasDictIn K Cfl = true)
    (pofl : PySem.W.plainOver K Cfl = true)
    (safl : PySem.W.findIn K (.ref Cfl) "__setattr__" = some (some (.builtin "object.__setattr__")))
    (mkfl : PySem.W.makesIn K Cfl = true)
    (kcfl : PySem.W.keepIn K (.ref Cfl) = true)
    (sffl : PySem.W.selfFirst K Cfl = true)
    (nfl_places : PySem.W.findIn K (.ref Cfl) "places" = some none)
    (nfl_most : PySem.W.findIn K (.ref Cfl) "most" = some none)
    (nfl_kind : PySem.W.findIn K (.ref Cfl) "kind" = some none)
    (nfl_word : PySem.W.findIn K (.ref Cfl) "word" = some none)
    (nfl_one : PySem.W.findIn K (.ref Cfl) "one" = some none)
    (nfl_other : PySem.W.findIn K (.ref Cfl) "other" = some none)
    (rfl_rand : PySem.W.findIn K (.ref Cfl) "__rand__" = some none)
    (rfl_ror : PySem.W.findIn K (.ref Cfl) "__ror__" = some none)
    (rfl_radd : PySem.W.findIn K (.ref Cfl) "__radd__" = some none)
    (qhfl : PySem.W.findIn K (.ref Cfl) "__class__" = some (some (.builtin "object.__class__")))
    (qnfl : PySem.W.findIn K (.ref Cfl) "__ne__" = some (some (.builtin "object.__ne__")))
    (qmfl : PySem.W.mroIn K Cfl (.type "object") = some true)
    (qcfl : PySem.W.isClsIn K Cfl = true)
    (qtfl : PySem.W.typeIn K (.ref Cfl) = some (.type "type"))
    (qsfl : PySem.W.subIn K (.ref Cfl) (.ref Cfl) = some true)
    (aMfl_init : PySem.W.findIn K (.ref Cfl) "__init__" = some (some (.ref fMfl_init)))
    (iMfl_init : PySem.W.isFn K (.ref fMfl_init) = true)
    (gMfl_init : ∃ fd, FunD K "__init__" "Flats.__init__" (defArgs s_Flats_init) (defBody s_Flats_init) (defScope s_Flats_init) [] [] fMfl_init fd)
    (aMfl_invert : PySem.W.findIn K (.ref Cfl) "__invert__" = some (some (.ref fMfl_invert)))
    (iMfl_invert : PySem.W.isFn K (.ref fMfl_invert) = true)
    (gMfl_invert : ∃ fd, FunD K "__invert__" "Flats.__invert__" (defArgs s_Flats_invert) (defBody s_Flats_invert) (defScope s_Flats_invert) [] [] fMfl_invert fd)
    (aMfl_and : PySem.W.findIn K (.ref Cfl) "__and__" = some (some (.ref fMfl_and)))
    (iMfl_and : PySem.W.isFn K (.ref fMfl_and) = true)
    (gMfl_and : ∃ fd, FunD K "__and__" "Flats.__and__" (defArgs s_Flats_and) (defBody s_Flats_and) (defScope s_Flats_and) [] [] fMfl_and fd)
    (aMfl_or : PySem.W.findIn K (.ref Cfl) "__or__" = some (some (.ref fMfl_or)))
    (iMfl_or : PySem.W.isFn K (.ref fMfl_or) = true)
    (gMfl_or : ∃ fd, FunD K "__or__" "Flats.__or__" (defArgs s_Flats_or) (defBody s_Flats_or) (defScope s_Flats_or) [] [] fMfl_or fd)
    (aMfl_add : PySem.W.findIn K (.ref Cfl) "__add__" = some (some (.ref fMfl_add)))
    (iMfl_add : PySem.W.isFn K (.ref fMfl_add) = true)
    (gMfl_add : ∃ fd, FunD K "__add__" "Flats.__add__" (defArgs s_Flats_add) (defBody s_Flats_add) (defScope s_Flats_add) [] [] fMfl_add fd)
    (aCtu : PySem.W.nsIn K mainGlobals "Turns" = some (some (.ref Ctu)))
    (pgtu : PySem.W.plainGet K Ctu Str.empty = true)
    (hdtu : PySem.W.hasDictIn K Ctu = true)
    (potu : PySem.W.plainOver K Ctu = true)
    (satu : PySem.W.findIn K (.ref Ctu) "__setattr__" = some (some (.builtin "object.__setattr__")))
    (mktu : PySem.W.makesIn K Ctu = true)
    (kctu : PySem.W.keepIn K (.ref Ctu) = true)
    (sftu : PySem.W.selfFirst K Ctu = true)
    (ntu_places : PySem.W.findIn K (.ref Ctu) "places" = some none)
    (ntu_most : PySem.W.findIn K (.ref Ctu) "most" = some none)
    (ntu_kind : PySem.W.findIn K (.ref Ctu) "kind" = some none)
    (ntu_word : PySem.W.findIn K (.ref Ctu) "word" = some none)
    (ntu_one : PySem.W.findIn K (.ref Ctu) "one" = some none)
    (ntu_other : PySem.W.findIn K (.ref Ctu) "other" = some none)
    (rtu_rand : PySem.W.findIn K (.ref Ctu) "__rand__" = some none)
    (rtu_ror : PySem.W.findIn K (.ref Ctu) "__ror__" = some none)
    (rtu_radd : PySem.W.findIn K (.ref Ctu) "__radd__" = some none)
    (qhtu : PySem.W.findIn K (.ref Ctu) "__class__" = some (some (.builtin "object.__class__")))
    (qntu : PySem.W.findIn K (.ref Ctu) "__ne__" = some (some (.builtin "object.__ne__")))
    (qmtu : PySem.W.mroIn K Ctu (.type "object") = some true)
    (qctu : PySem.W.isClsIn K Ctu = true)
    (qttu : PySem.W.typeIn K (.ref Ctu) = some (.type "type"))
    (qstu : PySem.W.subIn K (.ref Ctu) (.ref Ctu) = some true)
    (aMtu_init : PySem.W.findIn K (.ref Ctu) "__init__" = some (some (.ref fMtu_init)))
    (iMtu_init : PySem.W.isFn K (.ref fMtu_init) = true)
    (gMtu_init : ∃ fd, FunD K "__init__" "Turns.__init__" (defArgs s_Turns_init) (defBody s_Turns_init) (defScope s_Turns_init) [] [] fMtu_init fd)
    (aMtu_invert : PySem.W.findIn K (.ref Ctu) "__invert__" = some (some (.ref fMtu_invert)))
    (iMtu_invert : PySem.W.isFn K (.ref fMtu_invert) = true)
    (gMtu_invert : ∃ fd, FunD K "__invert__" "Turns.__invert__" (defArgs s_Turns_invert) (defBody s_Turns_invert) (defScope s_Turns_invert) [] [] fMtu_invert fd)
    (aMtu_and : PySem.W.findIn K (.ref Ctu) "__and__" = some (some (.ref fMtu_and)))
    (iMtu_and : PySem.W.isFn K (.ref fMtu_and) = true)
    (gMtu_and : ∃ fd, FunD K "__and__" "Turns.__and__" (defArgs s_Turns_and) (defBody s_Turns_and) (defScope s_Turns_and) [] [] fMtu_and fd)
    (aMtu_or : PySem.W.findIn K (.ref Ctu) "__or__" = some (some (.ref fMtu_or)))
    (iMtu_or : PySem.W.isFn K (.ref fMtu_or) = true)
    (gMtu_or : ∃ fd, FunD K "__or__" "Turns.__or__" (defArgs s_Turns_or) (defBody s_Turns_or) (defScope s_Turns_or) [] [] fMtu_or fd)
    (aMtu_add : PySem.W.findIn K (.ref Ctu) "__add__" = some (some (.ref fMtu_add)))
    (iMtu_add : PySem.W.isFn K (.ref fMtu_add) = true)
    (gMtu_add : ∃ fd, FunD K "__add__" "Turns.__add__" (defArgs s_Turns_add) (defBody s_Turns_add) (defScope s_Turns_add) [] [] fMtu_add fd)
    (aMtu_proves : PySem.W.findIn K (.ref Ctu) "proves" = some (some (.ref fMtu_proves)))
    (iMtu_proves : PySem.W.isFn K (.ref fMtu_proves) = true)
    (gMtu_proves : ∃ fd, FunD K "proves" "Turns.proves" (defArgs s_Turns_proves) (defBody s_Turns_proves) (defScope s_Turns_proves) [] [] fMtu_proves fd)
    (aCco : PySem.W.nsIn K mainGlobals "Contrary" = some (some (.ref Cco)))
    (pgco : PySem.W.plainGet K Cco Str.empty = true)
    (hdco : PySem.W.hasDictIn K Cco = true)
    (poco : PySem.W.plainOver K Cco = true)
    (saco : PySem.W.findIn K (.ref Cco) "__setattr__" = some (some (.builtin "object.__setattr__")))
    (mkco : PySem.W.makesIn K Cco = true)
    (kcco : PySem.W.keepIn K (.ref Cco) = true)
    (sfco : PySem.W.selfFirst K Cco = true)
    (nco_places : PySem.W.findIn K (.ref Cco) "places" = some none)
    (nco_most : PySem.W.findIn K (.ref Cco) "most" = some none)
    (nco_kind : PySem.W.findIn K (.ref Cco) "kind" = some none)
    (nco_word : PySem.W.findIn K (.ref Cco) "word" = some none)
    (nco_one : PySem.W.findIn K (.ref Cco) "one" = some none)
    (nco_other : PySem.W.findIn K (.ref Cco) "other" = some none)
    (rco_rand : PySem.W.findIn K (.ref Cco) "__rand__" = some none)
    (rco_ror : PySem.W.findIn K (.ref Cco) "__ror__" = some none)
    (rco_radd : PySem.W.findIn K (.ref Cco) "__radd__" = some none)
    (qhco : PySem.W.findIn K (.ref Cco) "__class__" = some (some (.builtin "object.__class__")))
    (qnco : PySem.W.findIn K (.ref Cco) "__ne__" = some (some (.builtin "object.__ne__")))
    (qmco : PySem.W.mroIn K Cco (.type "object") = some true)
    (qcco : PySem.W.isClsIn K Cco = true)
    (qtco : PySem.W.typeIn K (.ref Cco) = some (.type "type"))
    (qsco : PySem.W.subIn K (.ref Cco) (.ref Cco) = some true)
    (aMco_init : PySem.W.findIn K (.ref Cco) "__init__" = some (some (.ref fMco_init)))
    (iMco_init : PySem.W.isFn K (.ref fMco_init) = true)
    (gMco_init : ∃ fd, FunD K "__init__" "Contrary.__init__" (defArgs s_Contrary_init) (defBody s_Contrary_init) (defScope s_Contrary_init) [] [] fMco_init fd)
    (aMco_invert : PySem.W.findIn K (.ref Cco) "__invert__" = some (some (.ref fMco_invert)))
    (iMco_invert : PySem.W.isFn K (.ref fMco_invert) = true)
    (gMco_invert : ∃ fd, FunD K "__invert__" "Contrary.__invert__" (defArgs s_Contrary_invert) (defBody s_Contrary_invert) (defScope s_Contrary_invert) [] [] fMco_invert fd)
    (aMco_and : PySem.W.findIn K (.ref Cco) "__and__" = some (some (.ref fMco_and)))
    (iMco_and : PySem.W.isFn K (.ref fMco_and) = true)
    (gMco_and : ∃ fd, FunD K "__and__" "Contrary.__and__" (defArgs s_Contrary_and) (defBody s_Contrary_and) (defScope s_Contrary_and) [] [] fMco_and fd)
    (aMco_or : PySem.W.findIn K (.ref Cco) "__or__" = some (some (.ref fMco_or)))
    (iMco_or : PySem.W.isFn K (.ref fMco_or) = true)
    (gMco_or : ∃ fd, FunD K "__or__" "Contrary.__or__" (defArgs s_Contrary_or) (defBody s_Contrary_or) (defScope s_Contrary_or) [] [] fMco_or fd)
    (aMco_add : PySem.W.findIn K (.ref Cco) "__add__" = some (some (.ref fMco_add)))
    (iMco_add : PySem.W.isFn K (.ref fMco_add) = true)
    (gMco_add : ∃ fd, FunD K "__add__" "Contrary.__add__" (defArgs s_Contrary_add) (defBody s_Contrary_add) (defScope s_Contrary_add) [] [] fMco_add fd)
    (aCpa : PySem.W.nsIn K mainGlobals "Pair" = some (some (.ref Cpa)))
    (pgpa : PySem.W.plainGet K Cpa Str.empty = true)
    (hdpa : PySem.W.hasDictIn K Cpa = true)
    (popa : PySem.W.plainOver K Cpa = true)
    (sapa : PySem.W.findIn K (.ref Cpa) "__setattr__" = some (some (.builtin "object.__setattr__")))
    (mkpa : PySem.W.makesIn K Cpa = true)
    (kcpa : PySem.W.keepIn K (.ref Cpa) = true)
    (sfpa : PySem.W.selfFirst K Cpa = true)
    (npa_places : PySem.W.findIn K (.ref Cpa) "places" = some none)
    (npa_most : PySem.W.findIn K (.ref Cpa) "most" = some none)
    (npa_kind : PySem.W.findIn K (.ref Cpa) "kind" = some none)
    (npa_word : PySem.W.findIn K (.ref Cpa) "word" = some none)
    (npa_one : PySem.W.findIn K (.ref Cpa) "one" = some none)
    (npa_other : PySem.W.findIn K (.ref Cpa) "other" = some none)
    (rpa_rand : PySem.W.findIn K (.ref Cpa) "__rand__" = some none)
    (rpa_ror : PySem.W.findIn K (.ref Cpa) "__ror__" = some none)
    (rpa_radd : PySem.W.findIn K (.ref Cpa) "__radd__" = some none)
    (qhpa : PySem.W.findIn K (.ref Cpa) "__class__" = some (some (.builtin "object.__class__")))
    (qnpa : PySem.W.findIn K (.ref Cpa) "__ne__" = some (some (.builtin "object.__ne__")))
    (qmpa : PySem.W.mroIn K Cpa (.type "object") = some true)
    (qcpa : PySem.W.isClsIn K Cpa = true)
    (qtpa : PySem.W.typeIn K (.ref Cpa) = some (.type "type"))
    (qspa : PySem.W.subIn K (.ref Cpa) (.ref Cpa) = some true)
    (aMpa_init : PySem.W.findIn K (.ref Cpa) "__init__" = some (some (.ref fMpa_init)))
    (iMpa_init : PySem.W.isFn K (.ref fMpa_init) = true)
    (gMpa_init : ∃ fd, FunD K "__init__" "Pair.__init__" (defArgs s_Pair_init) (defBody s_Pair_init) (defScope s_Pair_init) [] [] fMpa_init fd)
    (aMpa_invert : PySem.W.findIn K (.ref Cpa) "__invert__" = some (some (.ref fMpa_invert)))
    (iMpa_invert : PySem.W.isFn K (.ref fMpa_invert) = true)
    (gMpa_invert : ∃ fd, FunD K "__invert__" "Pair.__invert__" (defArgs s_Pair_invert) (defBody s_Pair_invert) (defScope s_Pair_invert) [] [] fMpa_invert fd)
    (aMpa_and : PySem.W.findIn K (.ref Cpa) "__and__" = some (some (.ref fMpa_and)))
    (iMpa_and : PySem.W.isFn K (.ref fMpa_and) = true)
    (gMpa_and : ∃ fd, FunD K "__and__" "Pair.__and__" (defArgs s_Pair_and) (defBody s_Pair_and) (defScope s_Pair_and) [] [] fMpa_and fd)
    (aMpa_or : PySem.W.findIn K (.ref Cpa) "__or__" = some (some (.ref fMpa_or)))
    (iMpa_or : PySem.W.isFn K (.ref fMpa_or) = true)
    (gMpa_or : ∃ fd, FunD K "__or__" "Pair.__or__" (defArgs s_Pair_or) (defBody s_Pair_or) (defScope s_Pair_or) [] [] fMpa_or fd)
    (aMpa_add : PySem.W.findIn K (.ref Cpa) "__add__" = some (some (.ref fMpa_add)))
    (iMpa_add : PySem.W.isFn K (.ref fMpa_add) = true)
    (gMpa_add : ∃ fd, FunD K "__add__" "Pair.__add__" (defArgs s_Pair_add) (defBody s_Pair_add) (defScope s_Pair_add) [] [] fMpa_add fd)
    (uha_bo : PySem.W.subIn K (.ref Cha) (.ref Cbo) = some false)
    (uha_ri : PySem.W.subIn K (.ref Cha) (.ref Cri) = some false)
    (uha_fl : PySem.W.subIn K (.ref Cha) (.ref Cfl) = some false)
    (uha_tu : PySem.W.subIn K (.ref Cha) (.ref Ctu) = some false)
    (uha_co : PySem.W.subIn K (.ref Cha) (.ref Cco) = some false)
    (uha_pa : PySem.W.subIn K (.ref Cha) (.ref Cpa) = some false)
    (ubo_ha : PySem.W.subIn K (.ref Cbo) (.ref Cha) = some false)
    (ubo_ri : PySem.W.subIn K (.ref Cbo) (.ref Cri) = some false)
    (ubo_fl : PySem.W.subIn K (.ref Cbo) (.ref Cfl) = some false)
    (ubo_tu : PySem.W.subIn K (.ref Cbo) (.ref Ctu) = some false)
    (ubo_co : PySem.W.subIn K (.ref Cbo) (.ref Cco) = some false)
    (ubo_pa : PySem.W.subIn K (.ref Cbo) (.ref Cpa) = some false)
    (uri_ha : PySem.W.subIn K (.ref Cri) (.ref Cha) = some false)
    (uri_bo : PySem.W.subIn K (.ref Cri) (.ref Cbo) = some false)
    (uri_fl : PySem.W.subIn K (.ref Cri) (.ref Cfl) = some false)
    (uri_tu : PySem.W.subIn K (.ref Cri) (.ref Ctu) = some false)
    (uri_co : PySem.W.subIn K (.ref Cri) (.ref Cco) = some false)
    (uri_pa : PySem.W.subIn K (.ref Cri) (.ref Cpa) = some false)
    (ufl_ha : PySem.W.subIn K (.ref Cfl) (.ref Cha) = some false)
    (ufl_bo : PySem.W.subIn K (.ref Cfl) (.ref Cbo) = some false)
    (ufl_ri : PySem.W.subIn K (.ref Cfl) (.ref Cri) = some false)
    (ufl_tu : PySem.W.subIn K (.ref Cfl) (.ref Ctu) = some false)
    (ufl_co : PySem.W.subIn K (.ref Cfl) (.ref Cco) = some false)
    (ufl_pa : PySem.W.subIn K (.ref Cfl) (.ref Cpa) = some false)
    (utu_ha : PySem.W.subIn K (.ref Ctu) (.ref Cha) = some false)
    (utu_bo : PySem.W.subIn K (.ref Ctu) (.ref Cbo) = some false)
    (utu_ri : PySem.W.subIn K (.ref Ctu) (.ref Cri) = some false)
    (utu_fl : PySem.W.subIn K (.ref Ctu) (.ref Cfl) = some false)
    (utu_co : PySem.W.subIn K (.ref Ctu) (.ref Cco) = some false)
    (utu_pa : PySem.W.subIn K (.ref Ctu) (.ref Cpa) = some false)
    (uco_ha : PySem.W.subIn K (.ref Cco) (.ref Cha) = some false)
    (uco_bo : PySem.W.subIn K (.ref Cco) (.ref Cbo) = some false)
    (uco_ri : PySem.W.subIn K (.ref Cco) (.ref Cri) = some false)
    (uco_fl : PySem.W.subIn K (.ref Cco) (.ref Cfl) = some false)
    (uco_tu : PySem.W.subIn K (.ref Cco) (.ref Ctu) = some false)
    (uco_pa : PySem.W.subIn K (.ref Cco) (.ref Cpa) = some false)
    (upa_ha : PySem.W.subIn K (.ref Cpa) (.ref Cha) = some false)
    (upa_bo : PySem.W.subIn K (.ref Cpa) (.ref Cbo) = some false)
    (upa_ri : PySem.W.subIn K (.ref Cpa) (.ref Cri) = some false)
    (upa_fl : PySem.W.subIn K (.ref Cpa) (.ref Cfl) = some false)
    (upa_tu : PySem.W.subIn K (.ref Cpa) (.ref Ctu) = some false)
    (upa_co : PySem.W.subIn K (.ref Cpa) (.ref Cco) = some false)
    (hn : PySem.W.specialIn K (.builtin "object.__class__") "__get__" = some (some (.builtin "getset_descriptor.__get__")))
    (ht : PySem.W.takesIn K (.builtin "object.__class__") = some true)
    (aCS : PySem.W.nsIn K mainGlobals "Sample" = some (some (.ref CS)))
    (pgS : PySem.W.plainGet K CS Str.empty = true)
    (hdS : PySem.W.hasDictIn K CS = true)
    (poS : PySem.W.plainOver K CS = true)
    (saS : PySem.W.findIn K (.ref CS) "__setattr__" = some (some (.builtin "object.__setattr__")))
    (mkS : PySem.W.makesIn K CS = true)
    (kcS : PySem.W.keepIn K (.ref CS) = true)
    (nP : PySem.W.findIn K (.ref CS) "places" = some none)
    (nQ : PySem.W.findIn K (.ref CS) "_pairs" = some none)
    (haS : PySem.W.findIn K (.ref CS) "__class__" = some (some (.builtin "object.__class__")))
    (hmS : PySem.W.mroIn K CS (.type "object") = some true)
    (aMS_examples : PySem.W.findIn K (.ref CS) "examples" = some (some (.ref fMS_examples)))
    (iMS_examples : PySem.W.isFn K (.ref fMS_examples) = true)
    (gMS_examples : ∃ fd, FunD K "examples" "Sample.examples" (defArgs s_Sample_examples) (defBody s_Sample_examples) (defScope s_Sample_examples) [] [] fMS_examples fd)
    (aMS_len : PySem.W.findIn K (.ref CS) "__len__" = some (some (.ref fMS_len)))
    (iMS_len : PySem.W.isFn K (.ref fMS_len) = true)
    (gMS_len : ∃ fd, FunD K "__len__" "Sample.__len__" (defArgs s_Sample_len) (defBody s_Sample_len) (defScope s_Sample_len) [] [] fMS_len fd)
    (aSI : PySem.W.findIn K (.ref CS) "__init__" = some (some (.ref fSI)))
    (iSI : PySem.W.isFn K (.ref fSI) = true)
    (gSI : ∃ fd, FunD K "__init__" "Sample.__init__" (defArgs s_Sample_init) (defBody s_Sample_init) (defScope s_Sample_init) [.ref E0] [] fSI fd)
    (aIC : PySem.W.nsIn K mainGlobals "is_certificate" = some (some (.ref fIC)))
    (gIC : ∃ fd, FunD K "is_certificate" "is_certificate" (defArgs s_is_certificate) (defBody s_is_certificate) (defScope s_is_certificate) [.int 0] [("given", .non)] fIC fd)
    (cLEAST_PLACES : ∃ t, PySem.W.nsIn K mainGlobals "LEAST_PLACES" = some (some (.int 1 t)))
    (cMOST_PLACES : ∃ t, PySem.W.nsIn K mainGlobals "MOST_PLACES" = some (some (.int 3 t)))
    (cGREATEST_MOST : ∃ t, PySem.W.nsIn K mainGlobals "GREATEST_MOST" = some (some (.int 6 t)))
    (z_len : PySem.W.nsIn K mainGlobals "len" = some none)
    (z_int : PySem.W.nsIn K mainGlobals "int" = some none)
    (z_isinstance : PySem.W.nsIn K mainGlobals "isinstance" = some none)
    (z_list : PySem.W.nsIn K mainGlobals "list" = some none)
    (z_tuple : PySem.W.nsIn K mainGlobals "tuple" = some none)
    (z_bool : PySem.W.nsIn K mainGlobals "bool" = some none)
    (z_all : PySem.W.nsIn K mainGlobals "all" = some none)
    (z_zip : PySem.W.nsIn K mainGlobals "zip" = some none)
    (z_range : PySem.W.nsIn K mainGlobals "range" = some none)
    (z_enumerate : PySem.W.nsIn K mainGlobals "enumerate" = some none)
    (z_any : PySem.W.nsIn K mainGlobals "any" = some none)
    (z_dict : PySem.W.nsIn K mainGlobals "dict" = some none)
    (z_str : PySem.W.nsIn K mainGlobals "str" = some none)
    (z_sorted : PySem.W.nsIn K mainGlobals "sorted" = some none) :
    ∃ fd : FuncData, (∀ (s : Shared) (v : Value), BindsTo s fd ⟨[v], []⟩ [("_law_script", v)]) ∧ ∀ base : Heap, K.In base → base.Ns mainGlobals mg → FnOk l.prog w K mg base CX0 60 fa fd ["_law_script"] (spLaw18 K) := by
  have e := hfa.symm.trans (PySem.W.mg_of X G aL_law)
  cases e
  have M : ∀ {x : Str} {v : Value}, PySem.W.nsIn K mainGlobals x = some (some v) → mg x = some v := fun q => PySem.W.mg_of X G q
  have T : TxV mg := { m_len := PySem.W.mg_none_of X G z_len, m_int := PySem.W.mg_none_of X G z_int, m_isinstance := PySem.W.mg_none_of X G z_isinstance, m_list := PySem.W.mg_none_of X G z_list, m_tuple := PySem.W.mg_none_of X G z_tuple, m_bool := PySem.W.mg_none_of X G z_bool, m_all := PySem.W.mg_none_of X G z_all, m_zip := PySem.W.mg_none_of X G z_zip, m_range := PySem.W.mg_none_of X G z_range, m_enumerate := PySem.W.mg_none_of X G z_enumerate, m_any := PySem.W.mg_none_of X G z_any, m_dict := PySem.W.mg_none_of X G z_dict, m_str := PySem.W.mg_none_of X G z_str, m_sorted := PySem.W.mg_none_of X G z_sorted, c_LEAST_PLACES := cLEAST_PLACES.imp fun _ => M, c_MOST_PLACES := cMOST_PLACES.imp fun _ => M }
  have TF := T.toTxF
  have TB := TF.toTxB
  have TK : TxK mg := { toTxF := TF, c_GREATEST_MOST := cGREATEST_MOST.imp fun _ => M }
  obtain ⟨dF_is_integer, HF_is_integer⟩ := gF_is_integer
  have kF_is_integer := HF_is_integer.kp
  have GF_is_integer := fun_of (st := s_is_integer) HF_is_integer
  have bF_is_integer := GF_is_integer.binds (ps := ["thing"]) fun _ _ _ _ _ _ us hl => match us, hl with | [_], _ => rfl
  obtain ⟨dF_is_label, HF_is_label⟩ := gF_is_label
  have kF_is_label := HF_is_label.kp
  have GF_is_label := fun_of (st := s_is_label) HF_is_label
  have bF_is_label := GF_is_label.binds (ps := ["thing"]) fun _ _ _ _ _ _ us hl => match us, hl with | [_], _ => rfl
  obtain ⟨dF_is_row, HF_is_row⟩ := gF_is_row
  have kF_is_row := HF_is_row.kp
  have GF_is_row := fun_of (st := s_is_row) HF_is_row
  have bF_is_row := GF_is_row.binds (ps := ["thing"]) fun _ _ _ _ _ _ us hl => match us, hl with | [_], _ => rfl
  obtain ⟨dF_is_row_of, HF_is_row_of⟩ := gF_is_row_of
  have kF_is_row_of := HF_is_row_of.kp
  have GF_is_row_of := fun_of (st := s_is_row_of) HF_is_row_of
  have bF_is_row_of := GF_is_row_of.binds (ps := ["thing", "many"]) fun _ _ _ _ _ _ us hl => match us, hl with | [_, _], _ => rfl
  obtain ⟨dF_is_form, HF_is_form⟩ := gF_is_form
  have kF_is_form := HF_is_form.kp
  have GF_is_form := fun_of (st := s_is_form) HF_is_form
  have bF_is_form := GF_is_form.binds (ps := ["thing", "word", "many"]) fun _ _ _ _ _ _ us hl => match us, hl with | [_, _, _], _ => rfl
  obtain ⟨dF_is_number_of, HF_is_number_of⟩ := gF_is_number_of
  have kF_is_number_of := HF_is_number_of.kp
  have GF_is_number_of := fun_of (st := s_is_number_of) HF_is_number_of
  have bF_is_number_of := GF_is_number_of.binds (ps := ["thing", "table"]) fun _ _ _ _ _ _ us hl => match us, hl with | [_, _], _ => rfl
  obtain ⟨dF_is_number_of_places, HF_is_number_of_places⟩ := gF_is_number_of_places
  have kF_is_number_of_places := HF_is_number_of_places.kp
  have GF_is_number_of_places := fun_of (st := s_is_number_of_places) HF_is_number_of_places
  have bF_is_number_of_places := GF_is_number_of_places.binds (ps := ["thing"]) fun _ _ _ _ _ _ us hl => match us, hl with | [_], _ => rfl
  obtain ⟨dF_is_point, HF_is_point⟩ := gF_is_point
  have kF_is_point := HF_is_point.kp
  have GF_is_point := fun_of (st := s_is_point) HF_is_point
  have bF_is_point := GF_is_point.binds (ps := ["thing", "places"]) fun _ _ _ _ _ _ us hl => match us, hl with | [_, _], _ => rfl
  obtain ⟨dF_is_example, HF_is_example⟩ := gF_is_example
  have kF_is_example := HF_is_example.kp
  have GF_is_example := fun_of (st := s_is_example) HF_is_example
  have bF_is_example := GF_is_example.binds (ps := ["thing", "places"]) fun _ _ _ _ _ _ us hl => match us, hl with | [_, _], _ => rfl
  obtain ⟨dF_copied_example, HF_copied_example⟩ := gF_copied_example
  have kF_copied_example := HF_copied_example.kp
  have GF_copied_example := fun_of (st := s_copied_example) HF_copied_example
  have bF_copied_example := GF_copied_example.binds (ps := ["example"]) fun _ _ _ _ _ _ us hl => match us, hl with | [_], _ => rfl
  obtain ⟨dF_check_number_of_places, HF_check_number_of_places⟩ := gF_check_number_of_places
  have kF_check_number_of_places := HF_check_number_of_places.kp
  have GF_check_number_of_places := fun_of (st := s_check_number_of_places) HF_check_number_of_places
  have bF_check_number_of_places := GF_check_number_of_places.binds (ps := ["places"]) fun _ _ _ _ _ _ us hl => match us, hl with | [_], _ => rfl
  obtain ⟨dF_check_lies, HF_check_lies⟩ := gF_check_lies
  have kF_check_lies := HF_check_lies.kp
  have GF_check_lies := fun_of (st := s_check_lies) HF_check_lies
  have bF_check_lies := GF_check_lies.binds (ps := ["lies"]) fun _ _ _ _ _ _ us hl => match us, hl with | [_], _ => rfl
  obtain ⟨dF_is_between, HF_is_between⟩ := gF_is_between
  have kF_is_between := HF_is_between.kp
  have GF_is_between := fun_of (st := s_is_between) HF_is_between
  have bF_is_between := GF_is_between.binds (ps := ["thing", "places", "yeses", "noes"]) fun _ _ _ _ _ _ us hl => match us, hl with | [_, _, _, _], _ => rfl
  obtain ⟨dF_encloses, HF_encloses⟩ := gF_encloses
  have kF_encloses := HF_encloses.kp
  have GF_encloses := fun_of (st := s_encloses) HF_encloses
  have bF_encloses := GF_encloses.binds (ps := ["pair", "points", "place", "entry"]) fun _ _ _ _ _ _ us hl => match us, hl with | [_, _, _, _], _ => rfl
  obtain ⟨dF_is_above, HF_is_above⟩ := gF_is_above
  have kF_is_above := HF_is_above.kp
  have GF_is_above := fun_of (st := s_is_above) HF_is_above
  have bF_is_above := GF_is_above.binds (ps := ["thing", "yeses", "noes"]) fun _ _ _ _ _ _ us hl => match us, hl with | [_, _, _], _ => rfl
  obtain ⟨dF_lies_below, HF_lies_below⟩ := gF_lies_below
  have kF_lies_below := HF_lies_below.kp
  have GF_lies_below := fun_of (st := s_lies_below) HF_lies_below
  have bF_lies_below := GF_lies_below.binds (ps := ["one", "other"]) fun _ _ _ _ _ _ us hl => match us, hl with | [_, _], _ => rfl
  obtain ⟨dF_is_turning, HF_is_turning⟩ := gF_is_turning
  have kF_is_turning := HF_is_turning.kp
  have GF_is_turning := fun_of (st := s_is_turning) HF_is_turning
  have bF_is_turning := GF_is_turning.binds (ps := ["thing", "most", "yeses", "noes"]) fun _ _ _ _ _ _ us hl => match us, hl with | [_, _, _, _], _ => rfl
  obtain ⟨dF_pairs, HF_pairs⟩ := gF_pairs
  have kF_pairs := HF_pairs.kp
  have GF_pairs := fun_of (st := s_pairs) HF_pairs
  have bF_pairs := GF_pairs.binds (ps := ["sample", "given"]) fun _ _ _ _ _ _ us hl => match us, hl with | [_, _], _ => rfl
  obtain ⟨dF_is_proof, HF_is_proof⟩ := gF_is_proof
  have kF_is_proof := HF_is_proof.kp
  have GF_is_proof := fun_of (st := s_is_proof) HF_is_proof
  have bF_is_proof := GF_is_proof.binds (ps := ["kind", "thing", "yeses", "noes", "lies", "many"]) fun _ _ _ _ _ _ us hl => match us, hl with | [_, _, _, _, _, _], _ => rfl
  obtain ⟨dF_without, HF_without⟩ := gF_without
  have kF_without := HF_without.kp
  have GF_without := fun_of (st := s_without) HF_without
  have bF_without := GF_without.binds (ps := ["points", "number"]) fun _ _ _ _ _ _ us hl => match us, hl with | [_, _], _ => rfl
  obtain ⟨dF_is_plain, HF_is_plain⟩ := gF_is_plain
  have kF_is_plain := HF_is_plain.kp
  have GF_is_plain := fun_of (st := s_is_plain) HF_is_plain
  have bF_is_plain := GF_is_plain.binds (ps := ["kind", "thing", "yeses", "noes"]) fun _ _ _ _ _ _ us hl => match us, hl with | [_, _, _, _], _ => rfl
  obtain ⟨dF_is_tree, HF_is_tree⟩ := gF_is_tree
  have kF_is_tree := HF_is_tree.kp
  have GF_is_tree := fun_of (st := s_is_tree) HF_is_tree
  have bF_is_tree := GF_is_tree.binds (ps := ["kind", "thing", "kept", "left", "ones", "others"]) fun _ _ _ _ _ _ us hl => match us, hl with | [_, _, _, _, _, _], _ => rfl
  obtain ⟨dF_is_leaf, HF_is_leaf⟩ := gF_is_leaf
  have kF_is_leaf := HF_is_leaf.kp
  have GF_is_leaf := fun_of (st := s_is_leaf) HF_is_leaf
  have bF_is_leaf := GF_is_leaf.binds (ps := ["word", "kind", "thing", "kept", "placed"]) fun _ _ _ _ _ _ us hl => match us, hl with | [_, _, _, _, _], _ => rfl
  obtain ⟨dF_check_places, HF_check_places⟩ := gF_check_places
  have kF_check_places := HF_check_places.kp
  have GF_check_places := fun_of (st := s_check_places) HF_check_places
  obtain ⟨dL_source, HL_source⟩ := gL_source
  have kL_source := HL_source.kp
  have GL_source := fun_of (st := s_source) HL_source
  have bL_source := GL_source.binds (ps := ["_law_script", "_law_at"]) fun _ _ _ _ _ _ us hl => match us, hl with | [_, _], _ => rfl
  obtain ⟨dL_draw, HL_draw⟩ := gL_draw
  have kL_draw := HL_draw.kp
  have GL_draw := fun_of (st := s_draw) HL_draw
  have bL_draw := GL_draw.binds (ps := ["_law_draws", "_law_many"]) fun _ _ _ _ _ _ us hl => match us, hl with | [_, _], _ => rfl
  obtain ⟨dL_pick, HL_pick⟩ := gL_pick
  have kL_pick := HL_pick.kp
  have GL_pick := fun_of (st := s_pick) HL_pick
  have bL_pick := GL_pick.binds (ps := ["_law_draws", "_law_things"]) fun _ _ _ _ _ _ us hl => match us, hl with | [_, _], _ => rfl
  obtain ⟨dL_same, HL_same⟩ := gL_same
  have kL_same := HL_same.kp
  have GL_same := fun_of (st := s_same) HL_same
  have bL_same := GL_same.binds (ps := ["_law_found", "_law_due"]) fun _ _ _ _ _ _ us hl => match us, hl with | [_, _], _ => rfl
  obtain ⟨dL_point, HL_point⟩ := gL_point
  have kL_point := HL_point.kp
  have GL_point := fun_of (st := s_point) HL_point
  have bL_point := GL_point.binds (ps := ["_law_draws", "_law_places", "_law_wide"]) fun _ _ _ _ _ _ us hl => match us, hl with | [_, _, _], _ => rfl
  obtain ⟨dL_rows, HL_rows⟩ := gL_rows
  have kL_rows := HL_rows.kp
  have GL_rows := fun_of (st := s_rows) HL_rows
  have bL_rows := GL_rows.binds (ps := ["_law_draws", "_law_places", "_law_most", "_law_wide"]) fun _ _ _ _ _ _ us hl => match us, hl with | [_, _, _, _], _ => rfl
  obtain ⟨dL_built, HL_built⟩ := gL_built
  have kL_built := HL_built.kp
  have GL_built := fun_of (st := s_built) HL_built
  have bL_built := GL_built.binds (ps := ["_law_spec"]) fun _ _ _ _ _ _ us hl => match us, hl with | [_], _ => rfl
  obtain ⟨dL_is_list, HL_is_list⟩ := gL_is_list
  have kL_is_list := HL_is_list.kp
  have GL_is_list := fun_of (st := s_is_list) HL_is_list
  have bL_is_list := GL_is_list.binds (ps := ["_law_thing"]) fun _ _ _ _ _ _ us hl => match us, hl with | [_], _ => rfl
  obtain ⟨dL_is_int, HL_is_int⟩ := gL_is_int
  have kL_is_int := HL_is_int.kp
  have GL_is_int := fun_of (st := s_is_int) HL_is_int
  have bL_is_int := GL_is_int.binds (ps := ["_law_thing"]) fun _ _ _ _ _ _ us hl => match us, hl with | [_], _ => rfl
  obtain ⟨dL_headed, HL_headed⟩ := gL_headed
  have kL_headed := HL_headed.kp
  have GL_headed := fun_of (st := s_headed) HL_headed
  have bL_headed := GL_headed.binds (ps := ["_law_thing", "_law_word", "_law_many"]) fun _ _ _ _ _ _ us hl => match us, hl with | [_, _, _], _ => rfl
  obtain ⟨dL_is_pairs, HL_is_pairs⟩ := gL_is_pairs
  have kL_is_pairs := HL_is_pairs.kp
  have GL_is_pairs := fun_of (st := s_is_pairs) HL_is_pairs
  have bL_is_pairs := GL_is_pairs.binds (ps := ["_law_thing"]) fun _ _ _ _ _ _ us hl => match us, hl with | [_], _ => rfl
  obtain ⟨dL_labelled, HL_labelled⟩ := gL_labelled
  have kL_labelled := HL_labelled.kp
  have GL_labelled := fun_of (st := s_labelled) HL_labelled
  have bL_labelled := GL_labelled.binds (ps := ["_law_view_here", "_law_number", "_law_label"]) fun _ _ _ _ _ _ us hl => match us, hl with | [_, _, _], _ => rfl
  obtain ⟨dL_shows, HL_shows⟩ := gL_shows
  have kL_shows := HL_shows.kp
  have GL_shows := fun_of (st := s_shows) HL_shows
  have bL_shows := GL_shows.binds (ps := ["_law_spec", "_law_view_here", "_law_thing"]) fun _ _ _ _ _ _ us hl => match us, hl with | [_, _, _], _ => rfl
  obtain ⟨dL_around, HL_around⟩ := gL_around
  have kL_around := HL_around.kp
  have GL_around := fun_of (st := s_around) HL_around
  have bL_around := GL_around.binds (ps := ["_law_view_here", "_law_at", "_law_pair", "_law_entry"]) fun _ _ _ _ _ _ us hl => match us, hl with | [_, _, _, _], _ => rfl
  obtain ⟨dL_shows_turns, HL_shows_turns⟩ := gL_shows_turns
  have kL_shows_turns := HL_shows_turns.kp
  have GL_shows_turns := fun_of (st := s_shows_turns) HL_shows_turns
  have bL_shows_turns := GL_shows_turns.binds (ps := ["_law_spec", "_law_view_here", "_law_numbers"]) fun _ _ _ _ _ _ us hl => match us, hl with | [_, _, _], _ => rfl
  obtain ⟨dL_view, HL_view⟩ := gL_view
  have kL_view := HL_view.kp
  have GL_view := fun_of (st := s_view) HL_view
  have bL_view := GL_view.binds (ps := ["_law_rows_here"]) fun _ _ _ _ _ _ us hl => match us, hl with | [_], _ => rfl
  obtain ⟨dL_written, HL_written⟩ := gL_written
  have kL_written := HL_written.kp
  have GL_written := fun_of (st := s_written) HL_written
  have bL_written := GL_written.binds (ps := ["_law_draws", "_law_spec", "_law_rows_here"]) fun _ _ _ _ _ _ us hl => match us, hl with | [_, _, _], _ => rfl
  obtain ⟨dL_trees_right, HL_trees_right⟩ := gL_trees_right
  have kL_trees_right := HL_trees_right.kp
  have GL_trees_right := fun_of (st := s_trees_right) HL_trees_right
  have bL_trees_right := GL_trees_right.binds (ps := ["_law_spec", "_law_rows_here", "_law_shown"]) fun _ _ _ _ _ _ us hl => match us, hl with | [_, _, _], _ => rfl
  obtain ⟨dL_law, HL_law⟩ := gL_law
  have kL_law := HL_law.kp
  have GL_law := fun_of (st := s_law) HL_law
  obtain ⟨dMha_init, HMha_init⟩ := gMha_init
  have kMha_init := HMha_init.kp
  have GMha_init := fun_of (st := s_Halves_init) HMha_init
  have bMha_init := GMha_init.binds (ps := ["self", "places"]) fun _ _ _ _ _ _ us hl => match us, hl with | [_, _], _ => rfl
  obtain ⟨dMha_invert, HMha_invert⟩ := gMha_invert
  have kMha_invert := HMha_invert.kp
  have GMha_invert := fun_of (st := s_Halves_invert) HMha_invert
  have bMha_invert := GMha_invert.binds (ps := ["self"]) fun _ _ _ _ _ _ us hl => match us, hl with | [_], _ => rfl
  obtain ⟨dMha_and, HMha_and⟩ := gMha_and
  have kMha_and := HMha_and.kp
  have GMha_and := fun_of (st := s_Halves_and) HMha_and
  have bMha_and := GMha_and.binds (ps := ["self", "other"]) fun _ _ _ _ _ _ us hl => match us, hl with | [_, _], _ => rfl
  obtain ⟨dMha_or, HMha_or⟩ := gMha_or
  have kMha_or := HMha_or.kp
  have GMha_or := fun_of (st := s_Halves_or) HMha_or
  have bMha_or := GMha_or.binds (ps := ["self", "other"]) fun _ _ _ _ _ _ us hl => match us, hl with | [_, _], _ => rfl
  obtain ⟨dMha_add, HMha_add⟩ := gMha_add
  have kMha_add := HMha_add.kp
  have GMha_add := fun_of (st := s_Halves_add) HMha_add
  have bMha_add := GMha_add.binds (ps := ["self", "other"]) fun _ _ _ _ _ _ us hl => match us, hl with | [_, _], _ => rfl
  obtain ⟨dMbo_init, HMbo_init⟩ := gMbo_init
  have kMbo_init := HMbo_init.kp
  have GMbo_init := fun_of (st := s_Boxes_init) HMbo_init
  have bMbo_init := GMbo_init.binds (ps := ["self", "places"]) fun _ _ _ _ _ _ us hl => match us, hl with | [_, _], _ => rfl
  obtain ⟨dMbo_invert, HMbo_invert⟩ := gMbo_invert
  have kMbo_invert := HMbo_invert.kp
  have GMbo_invert := fun_of (st := s_Boxes_invert) HMbo_invert
  have bMbo_invert := GMbo_invert.binds (ps := ["self"]) fun _ _ _ _ _ _ us hl => match us, hl with | [_], _ => rfl
  obtain ⟨dMbo_and, HMbo_and⟩ := gMbo_and
  have kMbo_and := HMbo_and.kp
  have GMbo_and := fun_of (st := s_Boxes_and) HMbo_and
  have bMbo_and := GMbo_and.binds (ps := ["self", "other"]) fun _ _ _ _ _ _ us hl => match us, hl with | [_, _], _ => rfl
  obtain ⟨dMbo_or, HMbo_or⟩ := gMbo_or
  have kMbo_or := HMbo_or.kp
  have GMbo_or := fun_of (st := s_Boxes_or) HMbo_or
  have bMbo_or := GMbo_or.binds (ps := ["self", "other"]) fun _ _ _ _ _ _ us hl => match us, hl with | [_, _], _ => rfl
  obtain ⟨dMbo_add, HMbo_add⟩ := gMbo_add
  have kMbo_add := HMbo_add.kp
  have GMbo_add := fun_of (st := s_Boxes_add) HMbo_add
  have bMbo_add := GMbo_add.binds (ps := ["self", "other"]) fun _ _ _ _ _ _ us hl => match us, hl with | [_, _], _ => rfl
  obtain ⟨dMbo_proves, HMbo_proves⟩ := gMbo_proves
  have kMbo_proves := HMbo_proves.kp
  have GMbo_proves := fun_of (st := s_Boxes_proves) HMbo_proves
  have bMbo_proves := GMbo_proves.binds (ps := ["self", "thing", "yeses", "noes"]) fun _ _ _ _ _ _ us hl => match us, hl with | [_, _, _, _], _ => rfl
  obtain ⟨dMri_init, HMri_init⟩ := gMri_init
  have kMri_init := HMri_init.kp
  have GMri_init := fun_of (st := s_Rising_init) HMri_init
  have bMri_init := GMri_init.binds (ps := ["self", "places"]) fun _ _ _ _ _ _ us hl => match us, hl with | [_, _], _ => rfl
  obtain ⟨dMri_invert, HMri_invert⟩ := gMri_invert
  have kMri_invert := HMri_invert.kp
  have GMri_invert := fun_of (st := s_Rising_invert) HMri_invert
  have bMri_invert := GMri_invert.binds (ps := ["self"]) fun _ _ _ _ _ _ us hl => match us, hl with | [_], _ => rfl
  obtain ⟨dMri_and, HMri_and⟩ := gMri_and
  have kMri_and := HMri_and.kp
  have GMri_and := fun_of (st := s_Rising_and) HMri_and
  have bMri_and := GMri_and.binds (ps := ["self", "other"]) fun _ _ _ _ _ _ us hl => match us, hl with | [_, _], _ => rfl
  obtain ⟨dMri_or, HMri_or⟩ := gMri_or
  have kMri_or := HMri_or.kp
  have GMri_or := fun_of (st := s_Rising_or) HMri_or
  have bMri_or := GMri_or.binds (ps := ["self", "other"]) fun _ _ _ _ _ _ us hl => match us, hl with | [_, _], _ => rfl
  obtain ⟨dMri_add, HMri_add⟩ := gMri_add
  have kMri_add := HMri_add.kp
  have GMri_add := fun_of (st := s_Rising_add) HMri_add
  have bMri_add := GMri_add.binds (ps := ["self", "other"]) fun _ _ _ _ _ _ us hl => match us, hl with | [_, _], _ => rfl
  obtain ⟨dMri_proves, HMri_proves⟩ := gMri_proves
  have kMri_proves := HMri_proves.kp
  have GMri_proves := fun_of (st := s_Rising_proves) HMri_proves
  have bMri_proves := GMri_proves.binds (ps := ["self", "thing", "yeses", "noes"]) fun _ _ _ _ _ _ us hl => match us, hl with | [_, _, _, _], _ => rfl
  obtain ⟨dMfl_init, HMfl_init⟩ := gMfl_init
  have kMfl_init := HMfl_init.kp
  have GMfl_init := fun_of (st := s_Flats_init) HMfl_init
  have bMfl_init := GMfl_init.binds (ps := ["self", "places"]) fun _ _ _ _ _ _ us hl => match us, hl with | [_, _], _ => rfl
  obtain ⟨dMfl_invert, HMfl_invert⟩ := gMfl_invert
  have kMfl_invert := HMfl_invert.kp
  have GMfl_invert := fun_of (st := s_Flats_invert) HMfl_invert
  have bMfl_invert := GMfl_invert.binds (ps := ["self"]) fun _ _ _ _ _ _ us hl => match us, hl with | [_], _ => rfl
  obtain ⟨dMfl_and, HMfl_and⟩ := gMfl_and
  have kMfl_and := HMfl_and.kp
  have GMfl_and := fun_of (st := s_Flats_and) HMfl_and
  have bMfl_and := GMfl_and.binds (ps := ["self", "other"]) fun _ _ _ _ _ _ us hl => match us, hl with | [_, _], _ => rfl
  obtain ⟨dMfl_or, HMfl_or⟩ := gMfl_or
  have kMfl_or := HMfl_or.kp
  have GMfl_or := fun_of (st := s_Flats_or) HMfl_or
  have bMfl_or := GMfl_or.binds (ps := ["self", "other"]) fun _ _ _ _ _ _ us hl => match us, hl with | [_, _], _ => rfl
  obtain ⟨dMfl_add, HMfl_add⟩ := gMfl_add
  have kMfl_add := HMfl_add.kp
  have GMfl_add := fun_of (st := s_Flats_add) HMfl_add
  have bMfl_add := GMfl_add.binds (ps := ["self", "other"]) fun _ _ _ _ _ _ us hl => match us, hl with | [_, _], _ => rfl
  obtain ⟨dMtu_init, HMtu_init⟩ := gMtu_init
  have kMtu_init := HMtu_init.kp
  have GMtu_init := fun_of (st := s_Turns_init) HMtu_init
  have bMtu_init := GMtu_init.binds (ps := ["self", "most"]) fun _ _ _ _ _ _ us hl => match us, hl with | [_, _], _ => rfl
  obtain ⟨dMtu_invert, HMtu_invert⟩ := gMtu_invert
  have kMtu_invert := HMtu_invert.kp
  have GMtu_invert := fun_of (st := s_Turns_invert) HMtu_invert
  have bMtu_invert := GMtu_invert.binds (ps := ["self"]) fun _ _ _ _ _ _ us hl => match us, hl with | [_], _ => rfl
  obtain ⟨dMtu_and, HMtu_and⟩ := gMtu_and
  have kMtu_and := HMtu_and.kp
  have GMtu_and := fun_of (st := s_Turns_and) HMtu_and
  have bMtu_and := GMtu_and.binds (ps := ["self", "other"]) fun _ _ _ _ _ _ us hl => match us, hl with | [_, _], _ => rfl
  obtain ⟨dMtu_or, HMtu_or⟩ := gMtu_or
  have kMtu_or := HMtu_or.kp
  have GMtu_or := fun_of (st := s_Turns_or) HMtu_or
  have bMtu_or := GMtu_or.binds (ps := ["self", "other"]) fun _ _ _ _ _ _ us hl => match us, hl with | [_, _], _ => rfl
  obtain ⟨dMtu_add, HMtu_add⟩ := gMtu_add
  have kMtu_add := HMtu_add.kp
  have GMtu_add := fun_of (st := s_Turns_add) HMtu_add
  have bMtu_add := GMtu_add.binds (ps := ["self", "other"]) fun _ _ _ _ _ _ us hl => match us, hl with | [_, _], _ => rfl
  obtain ⟨dMtu_proves, HMtu_proves⟩ := gMtu_proves
  have kMtu_proves := HMtu_proves.kp
  have GMtu_proves := fun_of (st := s_Turns_proves) HMtu_proves
  have bMtu_proves := GMtu_proves.binds (ps := ["self", "thing", "yeses", "noes"]) fun _ _ _ _ _ _ us hl => match us, hl with | [_, _, _, _], _ => rfl
  obtain ⟨dMco_init, HMco_init⟩ := gMco_init
  have kMco_init := HMco_init.kp
  have GMco_init := fun_of (st := s_Contrary_init) HMco_init
  have bMco_init := GMco_init.binds (ps := ["self", "kind"]) fun _ _ _ _ _ _ us hl => match us, hl with | [_, _], _ => rfl
  obtain ⟨dMco_invert, HMco_invert⟩ := gMco_invert
  have kMco_invert := HMco_invert.kp
  have GMco_invert := fun_of (st := s_Contrary_invert) HMco_invert
  have bMco_invert := GMco_invert.binds (ps := ["self"]) fun _ _ _ _ _ _ us hl => match us, hl with | [_], _ => rfl
  obtain ⟨dMco_and, HMco_and⟩ := gMco_and
  have kMco_and := HMco_and.kp
  have GMco_and := fun_of (st := s_Contrary_and) HMco_and
  have bMco_and := GMco_and.binds (ps := ["self", "other"]) fun _ _ _ _ _ _ us hl => match us, hl with | [_, _], _ => rfl
  obtain ⟨dMco_or, HMco_or⟩ := gMco_or
  have kMco_or := HMco_or.kp
  have GMco_or := fun_of (st := s_Contrary_or) HMco_or
  have bMco_or := GMco_or.binds (ps := ["self", "other"]) fun _ _ _ _ _ _ us hl => match us, hl with | [_, _], _ => rfl
  obtain ⟨dMco_add, HMco_add⟩ := gMco_add
  have kMco_add := HMco_add.kp
  have GMco_add := fun_of (st := s_Contrary_add) HMco_add
  have bMco_add := GMco_add.binds (ps := ["self", "other"]) fun _ _ _ _ _ _ us hl => match us, hl with | [_, _], _ => rfl
  obtain ⟨dMpa_init, HMpa_init⟩ := gMpa_init
  have kMpa_init := HMpa_init.kp
  have GMpa_init := fun_of (st := s_Pair_init) HMpa_init
  have bMpa_init := GMpa_init.binds (ps := ["self", "word", "one", "other"]) fun _ _ _ _ _ _ us hl => match us, hl with | [_, _, _, _], _ => rfl
  obtain ⟨dMpa_invert, HMpa_invert⟩ := gMpa_invert
  have kMpa_invert := HMpa_invert.kp
  have GMpa_invert := fun_of (st := s_Pair_invert) HMpa_invert
  have bMpa_invert := GMpa_invert.binds (ps := ["self"]) fun _ _ _ _ _ _ us hl => match us, hl with | [_], _ => rfl
  obtain ⟨dMpa_and, HMpa_and⟩ := gMpa_and
  have kMpa_and := HMpa_and.kp
  have GMpa_and := fun_of (st := s_Pair_and) HMpa_and
  have bMpa_and := GMpa_and.binds (ps := ["self", "other"]) fun _ _ _ _ _ _ us hl => match us, hl with | [_, _], _ => rfl
  obtain ⟨dMpa_or, HMpa_or⟩ := gMpa_or
  have kMpa_or := HMpa_or.kp
  have GMpa_or := fun_of (st := s_Pair_or) HMpa_or
  have bMpa_or := GMpa_or.binds (ps := ["self", "other"]) fun _ _ _ _ _ _ us hl => match us, hl with | [_, _], _ => rfl
  obtain ⟨dMpa_add, HMpa_add⟩ := gMpa_add
  have kMpa_add := HMpa_add.kp
  have GMpa_add := fun_of (st := s_Pair_add) HMpa_add
  have bMpa_add := GMpa_add.binds (ps := ["self", "other"]) fun _ _ _ _ _ _ us hl => match us, hl with | [_, _], _ => rfl
  obtain ⟨dMS_examples, HMS_examples⟩ := gMS_examples
  have kMS_examples := HMS_examples.kp
  have GMS_examples := fun_of (st := s_Sample_examples) HMS_examples
  have bMS_examples := GMS_examples.binds (ps := ["self"]) fun _ _ _ _ _ _ us hl => match us, hl with | [_], _ => rfl
  obtain ⟨dMS_len, HMS_len⟩ := gMS_len
  have kMS_len := HMS_len.kp
  have GMS_len := fun_of (st := s_Sample_len) HMS_len
  have bMS_len := GMS_len.binds (ps := ["self"]) fun _ _ _ _ _ _ us hl => match us, hl with | [_], _ => rfl
  obtain ⟨dSI, HSI⟩ := gSI
  have kSI := HSI.kp
  have GSI := HSI
  obtain ⟨dIC, HIC⟩ := gIC
  have kIC := HIC.kp
  have GIC := HIC
  let c : KC := (fun i => match i with | .ha => Cha | .bo => Cbo | .ri => Cri | .fl => Cfl | .tu => Ctu | .co => Cco | .pa => Cpa)
  have S : KCl K c := ⟨fun i => by cases i <;> first | exact ⟨pgha, hdha, poha, saha⟩ | exact ⟨pgbo, hdbo, pobo, sabo⟩ | exact ⟨pgri, hdri, pori, sari⟩ | exact ⟨pgfl, hdfl, pofl, safl⟩ | exact ⟨pgtu, hdtu, potu, satu⟩ | exact ⟨pgco, hdco, poco, saco⟩ | exact ⟨pgpa, hdpa, popa, sapa⟩, fun i f hf => by
    simp only [List.mem_cons, List.not_mem_nil, or_false] at hf
    cases i <;> rcases hf with rfl | rfl | rfl | rfl | rfl | rfl <;> first | exact nha_places | exact nha_most | exact nha_kind | exact nha_word | exact nha_one | exact nha_other | exact nbo_places | exact nbo_most | exact nbo_kind | exact nbo_word | exact nbo_one | exact nbo_other | exact nri_places | exact nri_most | exact nri_kind | exact nri_word | exact nri_one | exact nri_other | exact nfl_places | exact nfl_most | exact nfl_kind | exact nfl_word | exact nfl_one | exact nfl_other | exact ntu_places | exact ntu_most | exact ntu_kind | exact ntu_word | exact ntu_one | exact ntu_other | exact nco_places | exact nco_most | exact nco_kind | exact nco_word | exact nco_one | exact nco_other | exact npa_places | exact npa_most | exact npa_kind | exact npa_word | exact npa_one | exact npa_other⟩
  have qcl : ∀ i, Cls K (c i) := S.cl
  have Aqh : ∀ i, PySem.W.findIn K (.ref (c i)) "__class__" = some (some (.builtin "object.__class__")) := fun i => by
    cases i
    · exact qhha
    · exact qhbo
    · exact qhri
    · exact qhfl
    · exact qhtu
    · exact qhco
    · exact qhpa
  have Aqm : ∀ i, PySem.W.mroIn K (c i) (.type "object") = some true := fun i => by
    cases i
    · exact qmha
    · exact qmbo
    · exact qmri
    · exact qmfl
    · exact qmtu
    · exact qmco
    · exact qmpa
  have Aqc : ∀ i, PySem.W.isClsIn K (c i) = true := fun i => by
    cases i
    · exact qcha
    · exact qcbo
    · exact qcri
    · exact qcfl
    · exact qctu
    · exact qcco
    · exact qcpa
  have Aqt : ∀ i, PySem.W.typeIn K (.ref (c i)) = some (.type "type") := fun i => by
    cases i
    · exact qtha
    · exact qtbo
    · exact qtri
    · exact qtfl
    · exact qttu
    · exact qtco
    · exact qtpa
  have Aqn : ∀ i, PySem.W.findIn K (.ref (c i)) "__ne__" = some (some (.builtin "object.__ne__")) := fun i => by
    cases i
    · exact qnha
    · exact qnbo
    · exact qnri
    · exact qnfl
    · exact qntu
    · exact qnco
    · exact qnpa
  have Aqs : ∀ i, PySem.W.subIn K (.ref (c i)) (.ref (c i)) = some true := fun i => by
    cases i
    · exact qsha
    · exact qsbo
    · exact qsri
    · exact qsfl
    · exact qstu
    · exact qsco
    · exact qspa
  have Aoth : ∀ i j, i ≠ j → PySem.W.subIn K (.ref (c j)) (.ref (c i)) = some false := fun i j hne => by
    cases i <;> cases j <;> first | exact absurd rfl hne | exact uha_bo | exact uha_ri | exact uha_fl | exact uha_tu | exact uha_co | exact uha_pa | exact ubo_ha | exact ubo_ri | exact ubo_fl | exact ubo_tu | exact ubo_co | exact ubo_pa | exact uri_ha | exact uri_bo | exact uri_fl | exact uri_tu | exact uri_co | exact uri_pa | exact ufl_ha | exact ufl_bo | exact ufl_ri | exact ufl_tu | exact ufl_co | exact ufl_pa | exact utu_ha | exact utu_bo | exact utu_ri | exact utu_fl | exact utu_co | exact utu_pa | exact uco_ha | exact uco_bo | exact uco_ri | exact uco_fl | exact uco_tu | exact uco_pa | exact upa_ha | exact upa_bo | exact upa_ri | exact upa_fl | exact upa_tu | exact upa_co
  have NE : KEq K mg c := ⟨qcl, Aqh, hn, ht, Aqm, Aqc, Aqt, Aqn, Aqs, Aoth, M aCha, M aCbo, M aCri, M aCfl, M aCtu, M aCco, M aCpa⟩
  have cS : Cls K CS := ⟨pgS, hdS, poS, saS⟩
  have SC : SmpC K CS := ⟨cS, nP, nQ, kit_self, haS, hn, ht, hmS⟩
  obtain ⟨dsv, hdv, bInit⟩ := GSI.binds1 (ps := ["self", "places", "examples"]) 3 1 (by simp) rfl (fun T kV doc pm an cdv ct us its h1 h2 => match us, its, h1, h2 with | [_, _, _], [_], _, _ => ⟨_, rfl, rfl⟩)
  cases hdv
  obtain ⟨dsc, hdc, bCert⟩ := GIC.binds (ps := ["kind", "sample", "thing", "lies", "given"]) 3 0 (by simp) rfl (fun T D doc pm an cdv ct us its ks h1 h2 h3 => match us, its, ks, h1, h2, h3 with | [_, _, _], [_], [_], _, _, _ => ⟨_, rfl, _, _, _, _, _, _, rfl, rfl, rfl⟩) (by simp)
  refine ⟨dL_law, fun s v => FunD.bindsA (ps := ["_law_script"]) HL_law (fun _ _ _ _ _ _ us hl => match us, hl with | [_], _ => rfl) s [v] rfl, fun base _ _ => ?_⟩
  have D_int : DefAt l.prog w K mg base "is_integer" 1 ["thing"] (spB K isI) := ⟨_, _, ok_is_integer GF_is_integer TF, M aF_is_integer, kF_is_integer, bF_is_integer⟩
  have D_label : DefAt l.prog w K mg base "is_label" 1 ["thing"] (spB K isL) := ⟨_, _, ok_is_label GF_is_label TF, M aF_is_label, kF_is_label, bF_is_label⟩
  have D_row : DefAt l.prog w K mg base "is_row" 1 ["thing"] (spB K isR) := ⟨_, _, ok_is_row GF_is_row TF, M aF_is_row, kF_is_row, bF_is_row⟩
  have D_row_of : DefAt l.prog w K mg base "is_row_of" 2 ["thing", "many"] (spBp K isO) := ⟨_, _, ok_is_row_of GF_is_row_of TF D_row, M aF_is_row_of, kF_is_row_of, bF_is_row_of⟩
  have D_form : DefAt l.prog w K mg base "is_form" 3 ["thing", "word", "many"] (spF K) := ⟨_, _, ok_is_form GF_is_form TF D_row_of, M aF_is_form, kF_is_form, bF_is_form⟩
  have D_nof : DefAt l.prog w K mg base "is_number_of" 2 ["thing", "table"] (spNum K) := ⟨_, _, ok_is_number_of GF_is_number_of D_int, M aF_is_number_of, kF_is_number_of, bF_is_number_of⟩
  have D_num : DefAt l.prog w K mg base "is_number_of_places" 2 ["thing"] (spB K isN) := ⟨_, _, ok_is_number_of_places GF_is_number_of_places TF D_int, M aF_is_number_of_places, kF_is_number_of_places, bF_is_number_of_places⟩
  have D_chk : DefAt l.prog w K mg base "_check_number_of_places" 3 ["places"] (spCheckP) := ⟨_, _, ok_checkP GF_check_number_of_places TK D_num, M aF_check_number_of_places, kF_check_number_of_places, bF_check_number_of_places⟩
  have D_pt : DefAt l.prog w K mg base "is_point" 3 ["thing", "places"] (spBp K isP) := ⟨_, _, ok_is_point GF_is_point TF D_int D_row_of, M aF_is_point, kF_is_point, bF_is_point⟩
  have D_ex : DefAt l.prog w K mg base "is_example" 4 ["thing", "places"] (spBp K isX) := ⟨_, _, ok_is_example GF_is_example TF D_row_of D_pt D_label, M aF_is_example, kF_is_example, bF_is_example⟩
  have D_cp : DefAt l.prog w K mg base "copied_example" 1 ["example"] (spCopy K) := ⟨_, _, ok_copied_example GF_copied_example TF, M aF_copied_example, kF_copied_example, bF_copied_example⟩
  have D_lies : DefAt l.prog w K mg base "check_lies" 2 ["lies"] (spLi) := ⟨_, _, ok_check_lies GF_check_lies D_int, M aF_check_lies, kF_check_lies, bF_check_lies⟩
  have D_lb : DefAt l.prog w K mg base "_lies_below" 1 ["one", "other"] (spLe K) := ⟨_, _, ok_lies_below GF_lies_below TF, M aF_lies_below, kF_lies_below, bF_lies_below⟩
  have D_ab : DefAt l.prog w K mg base "is_above" 4 ["thing", "yeses", "noes"] (spAb K) := ⟨_, _, ok_is_above GF_is_above TF D_form D_nof D_lb, M aF_is_above, kF_is_above, bF_is_above⟩
  have D_en : DefAt l.prog w K mg base "_encloses" 3 ["pair", "points", "place", "entry"] (spEn K) := ⟨_, _, ok_encloses GF_encloses TF D_row_of D_nof, M aF_encloses, kF_encloses, bF_encloses⟩
  have D_bw : DefAt l.prog w K mg base "is_between" 4 ["thing", "places", "yeses", "noes"] (spBw K) := ⟨_, _, ok_is_between GF_is_between TF D_form D_row_of D_nof D_en, M aF_is_between, kF_is_between, bF_is_between⟩
  have D_tg : DefAt l.prog w K mg base "is_turning" 4 ["thing", "most", "yeses", "noes"] (spTg K) := ⟨_, _, ok_is_turning GF_is_turning TF D_form D_row D_nof, M aF_is_turning, kF_is_turning, bF_is_turning⟩
  have M_examples : Met l.prog w K mg base 1 CS "examples" (spExamples K CS) [] := ⟨_, _, _, _, cS, ⟨aMS_examples, iMS_examples, kMS_examples⟩, ok_Sexamples GMS_examples TF SC, bMS_examples, .nil⟩
  have N_Sample : Mak l.prog w K mg base 5 "Sample" CS (spInit K CS) [] := ⟨_, _, _, _, ⟨mkS, aSI, iSI, kcS⟩, ok_Sinit GSI TF SC D_num D_row D_ex D_cp, M aCS, bInit, .nil⟩
  have FL : FnOk l.prog w K mg base CX0 1 fMS_len _ ["self"] (spLen K CS) := ok_Slen GMS_len TF SC
  have eL : SpM K CS fMS_len "__len__" := ⟨aMS_len, iMS_len⟩
  have D_cpl : DefR l.prog w K mg base "check_places" 1 (spPl K CS c) := ⟨_, ok_check_places GF_check_places TF S SC, M aF_check_places, kF_check_places⟩
  have D_prs : DefAt l.prog w K mg base "_pairs" 2 ["sample", "given"] (spPs K CS) := ⟨_, _, ok_pairs GF_pairs SC M_examples, M aF_pairs, kF_pairs, bF_pairs⟩
  have D_wo : DefAt l.prog w K mg base "_without" 1 ["points", "number"] (spWo K) := ⟨_, _, ok_without GF_without, M aF_without, kF_without, bF_without⟩
  have MP : PvM l.prog w K mg base c := fun i hi => by
    rcases hi with rfl | rfl | rfl
    · exact ⟨_, _, _, _, S.cl .bo, ⟨aMbo_proves, iMbo_proves, kMbo_proves⟩, ok_Boxes_proves GMbo_proves S D_bw, bMbo_proves, .nil⟩
    · exact ⟨_, _, _, _, S.cl .ri, ⟨aMri_proves, iMri_proves, kMri_proves⟩, ok_Rising_proves GMri_proves D_ab, bMri_proves, .nil⟩
    · exact ⟨_, _, _, _, S.cl .tu, ⟨aMtu_proves, iMtu_proves, kMtu_proves⟩, ok_Turns_proves GMtu_proves S D_tg, bMtu_proves, .nil⟩
  have D_plain : ∀ n, DefAt l.prog w K mg base "_is_plain" (5 + 10 * n) ["kind", "thing", "yeses", "noes"] (spPnP K c 6 n) := fun n => by
    induction n with
    | zero => exact ⟨_, _, ⟨fun _ _ _ _ h => h.elim, fun _ _ _ _ _ _ _ _ _ _ _ _ _ h => h.elim⟩, M aF_is_plain, kF_is_plain, bF_is_plain⟩
    | succ n ih =>
      have LF : DefAt l.prog w K mg base "_is_leaf" (5 + 10 * n + 1) ["word", "kind", "thing", "kept", "placed"] (spLf K c 6 n) := ⟨_, _, ok_is_leaf GF_is_leaf 6 n (5 + 10 * n) ih, M aF_is_leaf, kF_is_leaf, bF_is_leaf⟩
      have TR : ∀ t, DefAt l.prog w K mg base "_is_tree" (5 + 10 * n + 1 + t) ["kind", "thing", "kept", "left", "ones", "others"] (spTrP K c 6 n t) := fun t => by
        induction t with
        | zero => exact ⟨_, _, ⟨fun _ _ _ _ h => h.elim, fun _ _ _ _ _ _ _ _ _ _ _ _ _ h => h.elim⟩, M aF_is_tree, kF_is_tree, bF_is_tree⟩
        | succ t it => exact ⟨_, _, tree_body GF_is_tree S 6 n (5 + 10 * n + 1) t (by omega) D_form D_nof D_wo LF it, M aF_is_tree, kF_is_tree, bF_is_tree⟩
      have TR7 : DefAt l.prog w K mg base "_is_tree" (14 + 10 * n) ["kind", "thing", "kept", "left", "ones", "others"] (spTr K c 6 n 6) := (TR 7).mono (by omega)
      have PL : DefAt l.prog w K mg base "_is_plain" (14 + 10 * n + 1) ["kind", "thing", "yeses", "noes"] (spPn K c 6 n) := ⟨_, _, plain_body GF_is_plain TF S NE 6 n (14 + 10 * n) (by omega) MP D_form (ih.mono (by omega)) TR7 (by decide), M aF_is_plain, kF_is_plain, bF_is_plain⟩
      exact PL.mono (by omega)
  have D_prf : DefAt l.prog w K mg base "_is_proof" 36 ["kind", "thing", "yeses", "noes", "lies", "many"] (spPf K c 6 2) := ⟨_, _, ok_is_proof GF_is_proof 6 2 35 (D_plain 3), M aF_is_proof, kF_is_proof, bF_is_proof⟩
  have D_cert : DefR l.prog w K mg base "is_certificate" 40 (spCr K CS c) := ⟨_, (FnR.mono ((FnOk.raw (ok_is_certificate GIC TF 6 2 36 (by decide) D_cpl D_lies D_prs D_prf FL eL bMS_len) bCert hdc).imp fun vs H Q E h => h) (by decide)), M aIC, kIC⟩
  have NC : Mak l.prog w K mg base 1 "Contrary" (c .co) (spIC c) [] := ⟨_, _, _, _, ⟨mkco, aMco_init, iMco_init, kcco⟩, ok_Contrary_init GMco_init S, M aCco, bMco_init, .nil⟩
  have NP : Mak l.prog w K mg base 1 "Pair" (c .pa) (spIP c) [] := ⟨_, _, _, _, ⟨mkpa, aMpa_init, iMpa_init, kcpa⟩, ok_Pair_init GMpa_init S, M aCpa, bMpa_init, .nil⟩
  have N : KMk l.prog w K mg base c := ⟨⟨_, _, _, _, ⟨mkha, aMha_init, iMha_init, kcha⟩, ok_Halves_init GMha_init TK S D_chk, M aCha, bMha_init, .nil⟩, ⟨_, _, _, _, ⟨mkbo, aMbo_init, iMbo_init, kcbo⟩, ok_Boxes_init GMbo_init TK S D_chk, M aCbo, bMbo_init, .nil⟩, ⟨_, _, _, _, ⟨mkri, aMri_init, iMri_init, kcri⟩, ok_Rising_init GMri_init TK S D_chk, M aCri, bMri_init, .nil⟩, ⟨_, _, _, _, ⟨mkfl, aMfl_init, iMfl_init, kcfl⟩, ok_Flats_init GMfl_init TK S D_chk, M aCfl, bMfl_init, .nil⟩, ⟨_, _, _, _, ⟨mktu, aMtu_init, iMtu_init, kctu⟩, ok_Turns_init GMtu_init TK S D_int, M aCtu, bMtu_init, .nil⟩⟩
  have inv : ∀ i, InvI l.prog w K mg base (c i) (spInv K c) := fun i => by
    cases i
    · exact ⟨_, _, ok_Halves_invert GMha_invert NC, aMha_invert, iMha_invert, bMha_invert⟩
    · exact ⟨_, _, ok_Boxes_invert GMbo_invert NC, aMbo_invert, iMbo_invert, bMbo_invert⟩
    · exact ⟨_, _, ok_Rising_invert GMri_invert NC, aMri_invert, iMri_invert, bMri_invert⟩
    · exact ⟨_, _, ok_Flats_invert GMfl_invert NC, aMfl_invert, iMfl_invert, bMfl_invert⟩
    · exact ⟨_, _, ok_Turns_invert GMtu_invert NC, aMtu_invert, iMtu_invert, bMtu_invert⟩
    · exact ⟨_, _, ok_Contrary_invert GMco_invert NC, aMco_invert, iMco_invert, bMco_invert⟩
    · exact ⟨_, _, ok_Pair_invert GMpa_invert NC, aMpa_invert, iMpa_invert, bMpa_invert⟩
  have op_and : ∀ i, OpI l.prog w K mg base (c i) .BitAnd (spPr c .both) := fun i => by
    cases i
    · exact ⟨_, _, ok_Halves_and GMha_and NP, ⟨sfha, by rw [dn_and.1]; exact aMha_and, iMha_and, by rw [dn_and.2]; exact rha_rand⟩, bMha_and⟩
    · exact ⟨_, _, ok_Boxes_and GMbo_and NP, ⟨sfbo, by rw [dn_and.1]; exact aMbo_and, iMbo_and, by rw [dn_and.2]; exact rbo_rand⟩, bMbo_and⟩
    · exact ⟨_, _, ok_Rising_and GMri_and NP, ⟨sfri, by rw [dn_and.1]; exact aMri_and, iMri_and, by rw [dn_and.2]; exact rri_rand⟩, bMri_and⟩
    · exact ⟨_, _, ok_Flats_and GMfl_and NP, ⟨sffl, by rw [dn_and.1]; exact aMfl_and, iMfl_and, by rw [dn_and.2]; exact rfl_rand⟩, bMfl_and⟩
    · exact ⟨_, _, ok_Turns_and GMtu_and NP, ⟨sftu, by rw [dn_and.1]; exact aMtu_and, iMtu_and, by rw [dn_and.2]; exact rtu_rand⟩, bMtu_and⟩
    · exact ⟨_, _, ok_Contrary_and GMco_and NP, ⟨sfco, by rw [dn_and.1]; exact aMco_and, iMco_and, by rw [dn_and.2]; exact rco_rand⟩, bMco_and⟩
    · exact ⟨_, _, ok_Pair_and GMpa_and NP, ⟨sfpa, by rw [dn_and.1]; exact aMpa_and, iMpa_and, by rw [dn_and.2]; exact rpa_rand⟩, bMpa_and⟩
  have op_or : ∀ i, OpI l.prog w K mg base (c i) .BitOr (spPr c .either) := fun i => by
    cases i
    · exact ⟨_, _, ok_Halves_or GMha_or NP, ⟨sfha, by rw [dn_or.1]; exact aMha_or, iMha_or, by rw [dn_or.2]; exact rha_ror⟩, bMha_or⟩
    · exact ⟨_, _, ok_Boxes_or GMbo_or NP, ⟨sfbo, by rw [dn_or.1]; exact aMbo_or, iMbo_or, by rw [dn_or.2]; exact rbo_ror⟩, bMbo_or⟩
    · exact ⟨_, _, ok_Rising_or GMri_or NP, ⟨sfri, by rw [dn_or.1]; exact aMri_or, iMri_or, by rw [dn_or.2]; exact rri_ror⟩, bMri_or⟩
    · exact ⟨_, _, ok_Flats_or GMfl_or NP, ⟨sffl, by rw [dn_or.1]; exact aMfl_or, iMfl_or, by rw [dn_or.2]; exact rfl_ror⟩, bMfl_or⟩
    · exact ⟨_, _, ok_Turns_or GMtu_or NP, ⟨sftu, by rw [dn_or.1]; exact aMtu_or, iMtu_or, by rw [dn_or.2]; exact rtu_ror⟩, bMtu_or⟩
    · exact ⟨_, _, ok_Contrary_or GMco_or NP, ⟨sfco, by rw [dn_or.1]; exact aMco_or, iMco_or, by rw [dn_or.2]; exact rco_ror⟩, bMco_or⟩
    · exact ⟨_, _, ok_Pair_or GMpa_or NP, ⟨sfpa, by rw [dn_or.1]; exact aMpa_or, iMpa_or, by rw [dn_or.2]; exact rpa_ror⟩, bMpa_or⟩
  have op_add : ∀ i, OpI l.prog w K mg base (c i) .Add (spPr c .any) := fun i => by
    cases i
    · exact ⟨_, _, ok_Halves_add GMha_add NP, ⟨sfha, by rw [dn_add.1]; exact aMha_add, iMha_add, by rw [dn_add.2]; exact rha_radd⟩, bMha_add⟩
    · exact ⟨_, _, ok_Boxes_add GMbo_add NP, ⟨sfbo, by rw [dn_add.1]; exact aMbo_add, iMbo_add, by rw [dn_add.2]; exact rbo_radd⟩, bMbo_add⟩
    · exact ⟨_, _, ok_Rising_add GMri_add NP, ⟨sfri, by rw [dn_add.1]; exact aMri_add, iMri_add, by rw [dn_add.2]; exact rri_radd⟩, bMri_add⟩
    · exact ⟨_, _, ok_Flats_add GMfl_add NP, ⟨sffl, by rw [dn_add.1]; exact aMfl_add, iMfl_add, by rw [dn_add.2]; exact rfl_radd⟩, bMfl_add⟩
    · exact ⟨_, _, ok_Turns_add GMtu_add NP, ⟨sftu, by rw [dn_add.1]; exact aMtu_add, iMtu_add, by rw [dn_add.2]; exact rtu_radd⟩, bMtu_add⟩
    · exact ⟨_, _, ok_Contrary_add GMco_add NP, ⟨sfco, by rw [dn_add.1]; exact aMco_add, iMco_add, by rw [dn_add.2]; exact rco_radd⟩, bMco_add⟩
    · exact ⟨_, _, ok_Pair_add GMpa_add NP, ⟨sfpa, by rw [dn_add.1]; exact aMpa_add, iMpa_add, by rw [dn_add.2]; exact rpa_radd⟩, bMpa_add⟩
  have sub : ∀ i j, c i = c j ∨ PySem.W.subIn K (.ref (c j)) (.ref (c i)) = some false := fun i j => by
    cases i <;> cases j <;> first | exact .inl rfl | exact .inr uha_bo | exact .inr uha_ri | exact .inr uha_fl | exact .inr uha_tu | exact .inr uha_co | exact .inr uha_pa | exact .inr ubo_ha | exact .inr ubo_ri | exact .inr ubo_fl | exact .inr ubo_tu | exact .inr ubo_co | exact .inr ubo_pa | exact .inr uri_ha | exact .inr uri_bo | exact .inr uri_fl | exact .inr uri_tu | exact .inr uri_co | exact .inr uri_pa | exact .inr ufl_ha | exact .inr ufl_bo | exact .inr ufl_ri | exact .inr ufl_tu | exact .inr ufl_co | exact .inr ufl_pa | exact .inr utu_ha | exact .inr utu_bo | exact .inr utu_ri | exact .inr utu_fl | exact .inr utu_co | exact .inr utu_pa | exact .inr uco_ha | exact .inr uco_bo | exact .inr uco_ri | exact .inr uco_fl | exact .inr uco_tu | exact .inr uco_pa | exact .inr upa_ha | exact .inr upa_bo | exact .inr upa_ri | exact .inr upa_fl | exact .inr upa_tu | exact .inr upa_co
  have O : KOp l.prog w K mg base c := ⟨inv, op_and, op_or, op_add, sub⟩
  have D_source : DefAt l.prog w K mg base "_law_source" 1 ["_law_script", "_law_at"] (spSource K) := ⟨_, _, ok_source GL_source TB, M aL_source, kL_source, bL_source⟩
  have D_draw : DefAt l.prog w K mg base "_law_draw" 1 ["_law_draws", "_law_many"] (spDraw) := ⟨_, _, ok_draw GL_draw TB, M aL_draw, kL_draw, bL_draw⟩
  have D_pick : DefAt l.prog w K mg base "_law_pick" 2 ["_law_draws", "_law_things"] (spPickV K) := ⟨_, _, ok_pickV GL_pick TB D_draw, M aL_pick, kL_pick, bL_pick⟩
  have D_same : ∀ n, DefAt l.prog w K mg base "_law_same" n ["_law_found", "_law_due"] (spPrev K n) := fun n => by
    induction n with
    | zero => exact ⟨_, _, ⟨fun _ _ _ _ h => h.elim, fun _ _ _ _ _ _ _ _ _ _ _ _ _ h => h.elim⟩, M aL_same, kL_same, bL_same⟩
    | succ n ih => exact ⟨_, _, same_body GL_same TB n ih, M aL_same, kL_same, bL_same⟩
  have D_point : DefAt l.prog w K mg base "_law_point" 2 ["_law_draws", "_law_places", "_law_wide"] (spPoint K) := ⟨_, _, ok_point GL_point TF D_draw, M aL_point, kL_point, bL_point⟩
  have D_rows : DefAt l.prog w K mg base "_law_rows" 3 ["_law_draws", "_law_places", "_law_most", "_law_wide"] (spRows K) := ⟨_, _, ok_rows GL_rows TF D_draw D_pick D_point, M aL_rows, kL_rows, bL_rows⟩
  have D_built : ∀ n, DefAt l.prog w K mg base "_law_built" (n + 6) ["_law_spec"] (spBuiltP K c n) := fun n => by
    induction n with
    | zero => exact ⟨_, _, ⟨fun _ _ _ _ h => h.elim, fun _ _ _ _ _ _ _ _ _ _ _ _ _ h => h.elim⟩, M aL_built, kL_built, bL_built⟩
    | succ n ih => exact ⟨_, _, built_body GL_built N O n ih, M aL_built, kL_built, bL_built⟩
  have D_isl : DefAt l.prog w K mg base "_law_is_list" 1 ["_law_thing"] (spB K isR) := ⟨_, _, ok_law_is_list GL_is_list TF, M aL_is_list, kL_is_list, bL_is_list⟩
  have D_isi : DefAt l.prog w K mg base "_law_is_int" 1 ["_law_thing"] (spB K isI) := ⟨_, _, ok_law_is_int GL_is_int TF, M aL_is_int, kL_is_int, bL_is_int⟩
  have D_hd : DefAt l.prog w K mg base "_law_headed" 2 ["_law_thing", "_law_word", "_law_many"] (spHd K) := ⟨_, _, ok_headed GL_headed T D_isl, M aL_headed, kL_headed, bL_headed⟩
  have D_isp : DefAt l.prog w K mg base "_law_is_pairs" 2 ["_law_thing"] (spPa K) := ⟨_, _, ok_is_pairs GL_is_pairs T D_isl D_isi, M aL_is_pairs, kL_is_pairs, bL_is_pairs⟩
  have D_lab : DefAt l.prog w K mg base "_law_labelled" 2 ["_law_view_here", "_law_number", "_law_label"] (spLb K) := ⟨_, _, ok_labelled GL_labelled D_isi, M aL_labelled, kL_labelled, bL_labelled⟩
  have D_ar : DefAt l.prog w K mg base "_law_around" 3 ["_law_view_here", "_law_at", "_law_pair", "_law_entry"] (spAr K) := ⟨_, _, ok_around GL_around D_lab, M aL_around, kL_around, bL_around⟩
  have D_st : DefAt l.prog w K mg base "_law_shows_turns" 3 ["_law_spec", "_law_view_here", "_law_numbers"] (spTs K) := ⟨_, _, ok_shows_turns GL_shows_turns T D_isl D_isi, M aL_shows_turns, kL_shows_turns, bL_shows_turns⟩
  have D_sh : DefAt l.prog w K mg base "_law_shows" 4 ["_law_spec", "_law_view_here", "_law_thing"] (spSh K) := ⟨_, _, ok_shows GL_shows T D_hd D_st D_lab D_isp D_ar, M aL_shows, kL_shows, bL_shows⟩
  have D_view : DefAt l.prog w K mg base "_law_view" 1 ["_law_rows_here"] (spVw K) := ⟨_, _, ok_view GL_view T, M aL_view, kL_view, bL_view⟩
  have D_wr : DefAt l.prog w K mg base "_law_written" 3 ["_law_draws", "_law_spec", "_law_rows_here"] (spWr K) := ⟨_, _, ok_written GL_written T D_draw D_pick, M aL_written, kL_written, bL_written⟩
  have D_sm : DefAt l.prog w K mg base "_law_same" 5 ["_law_found", "_law_due"] (spSame K 1) := (D_same 2).mono (by decide)
  have D_tr : DefAt l.prog w K mg base "_law_trees_right" 41 ["_law_spec", "_law_rows_here", "_law_shown"] (spTR K) := ⟨_, _, ok_trees_right GL_trees_right T O N_Sample 40 (by decide) (D_built 1) D_cert D_sm, M aL_trees_right, kL_trees_right, bL_trees_right⟩
  exact law_body GL_law T O N_Sample D_source D_draw D_pick D_rows (D_built 1) D_wr D_sh D_view D_sm D_cert D_tr
theorem spLaw18_use {K : PySem.W.Frag} (H : Hp) (a : Addr) (ns : List Int) (hl : ns.length ≤ 63) (_ : Only H) (hS : SqL K H a (ns.map V.int)) : spLaw18 K [.ref a] H (fun v _ => v = .bl true) fun _ _ _ => False := ⟨a, ns, rfl, hS, hl, fun _ _ => rfl⟩
def fl0 : List Fct := [fun K => He.eqO (PySem.W.nsIn K mainGlobals "is_integer") (some (some (.ref (He.ga K "is_integer")))),
  fun K => He.eqO (PySem.W.nsIn K mainGlobals "is_label") (some (some (.ref (He.ga K "is_label")))),
  fun K => He.eqO (PySem.W.nsIn K mainGlobals "is_row") (some (some (.ref (He.ga K "is_row")))),
  fun K => He.eqO (PySem.W.nsIn K mainGlobals "is_row_of") (some (some (.ref (He.ga K "is_row_of")))),
  fun K => He.eqO (PySem.W.nsIn K mainGlobals "is_form") (some (some (.ref (He.ga K "is_form")))),
  fun K => He.eqO (PySem.W.nsIn K mainGlobals "is_number_of") (some (some (.ref (He.ga K "is_number_of")))),
  fun K => He.eqO (PySem.W.nsIn K mainGlobals "is_number_of_places") (some (some (.ref (He.ga K "is_number_of_places")))),
  fun K => He.eqO (PySem.W.nsIn K mainGlobals "is_point") (some (some (.ref (He.ga K "is_point")))),
  fun K => He.eqO (PySem.W.nsIn K mainGlobals "is_example") (some (some (.ref (He.ga K "is_example")))),
  fun K => He.eqO (PySem.W.nsIn K mainGlobals "copied_example") (some (some (.ref (He.ga K "copied_example")))),
  fun K => He.eqO (PySem.W.nsIn K mainGlobals "_check_number_of_places") (some (some (.ref (He.ga K "_check_number_of_places")))),
  fun K => He.eqO (PySem.W.nsIn K mainGlobals "check_lies") (some (some (.ref (He.ga K "check_lies")))),
  fun K => He.eqO (PySem.W.nsIn K mainGlobals "is_between") (some (some (.ref (He.ga K "is_between")))),
  fun K => He.eqO (PySem.W.nsIn K mainGlobals "_encloses") (some (some (.ref (He.ga K "_encloses")))),
  fun K => He.eqO (PySem.W.nsIn K mainGlobals "is_above") (some (some (.ref (He.ga K "is_above")))),
  fun K => He.eqO (PySem.W.nsIn K mainGlobals "_lies_below") (some (some (.ref (He.ga K "_lies_below")))),
  fun K => He.eqO (PySem.W.nsIn K mainGlobals "is_turning") (some (some (.ref (He.ga K "is_turning")))),
  fun K => He.eqO (PySem.W.nsIn K mainGlobals "_pairs") (some (some (.ref (He.ga K "_pairs")))),
  fun K => He.eqO (PySem.W.nsIn K mainGlobals "_is_proof") (some (some (.ref (He.ga K "_is_proof")))),
  fun K => He.eqO (PySem.W.nsIn K mainGlobals "_without") (some (some (.ref (He.ga K "_without")))),
  fun K => He.eqO (PySem.W.nsIn K mainGlobals "_is_plain") (some (some (.ref (He.ga K "_is_plain")))),
  fun K => He.eqO (PySem.W.nsIn K mainGlobals "_is_tree") (some (some (.ref (He.ga K "_is_tree")))),
  fun K => He.eqO (PySem.W.nsIn K mainGlobals "_is_leaf") (some (some (.ref (He.ga K "_is_leaf")))),
  fun K => He.eqO (PySem.W.nsIn K mainGlobals "check_places") (some (some (.ref (He.ga K "check_places")))),
  fun K => He.eqO (PySem.W.nsIn K mainGlobals "_law_source") (some (some (.ref (He.ga K "_law_source")))),
  fun K => He.eqO (PySem.W.nsIn K mainGlobals "_law_draw") (some (some (.ref (He.ga K "_law_draw")))),
  fun K => He.eqO (PySem.W.nsIn K mainGlobals "_law_pick") (some (some (.ref (He.ga K "_law_pick")))),
  fun K => He.eqO (PySem.W.nsIn K mainGlobals "_law_same") (some (some (.ref (He.ga K "_law_same")))),
  fun K => He.eqO (PySem.W.nsIn K mainGlobals "_law_point") (some (some (.ref (He.ga K "_law_point")))),
  fun K => He.eqO (PySem.W.nsIn K mainGlobals "_law_rows") (some (some (.ref (He.ga K "_law_rows"))))]
def fl1 : List Fct := [fun K => He.eqO (PySem.W.nsIn K mainGlobals "_law_built") (some (some (.ref (He.ga K "_law_built")))),
  fun K => He.eqO (PySem.W.nsIn K mainGlobals "_law_is_list") (some (some (.ref (He.ga K "_law_is_list")))),
  fun K => He.eqO (PySem.W.nsIn K mainGlobals "_law_is_int") (some (some (.ref (He.ga K "_law_is_int")))),
  fun K => He.eqO (PySem.W.nsIn K mainGlobals "_law_headed") (some (some (.ref (He.ga K "_law_headed")))),
  fun K => He.eqO (PySem.W.nsIn K mainGlobals "_law_is_pairs") (some (some (.ref (He.ga K "_law_is_pairs")))),
  fun K => He.eqO (PySem.W.nsIn K mainGlobals "_law_labelled") (some (some (.ref (He.ga K "_law_labelled")))),
  fun K => He.eqO (PySem.W.nsIn K mainGlobals "_law_shows") (some (some (.ref (He.ga K "_law_shows")))),
  fun K => He.eqO (PySem.W.nsIn K mainGlobals "_law_around") (some (some (.ref (He.ga K "_law_around")))),
  fun K => He.eqO (PySem.W.nsIn K mainGlobals "_law_shows_turns") (some (some (.ref (He.ga K "_law_shows_turns")))),
  fun K => He.eqO (PySem.W.nsIn K mainGlobals "_law_view") (some (some (.ref (He.ga K "_law_view")))),
  fun K => He.eqO (PySem.W.nsIn K mainGlobals "_law_written") (some (some (.ref (He.ga K "_law_written")))),
  fun K => He.eqO (PySem.W.nsIn K mainGlobals "_law_trees_right") (some (some (.ref (He.ga K "_law_trees_right")))),
  fun K => He.eqO (PySem.W.nsIn K mainGlobals "law") (some (some (.ref (He.ga K "law")))),
  fun K => He.eqO (PySem.W.nsIn K mainGlobals "Halves") (some (some (.ref (He.ga K "Halves")))),
  fun K => PySem.W.plainGet K (He.ga K "Halves") Str.empty,
  fun K => PySem.W.hasDictIn K (He.ga K "Halves"),
  fun K => PySem.W.plainOver K (He.ga K "Halves"),
  fun K => He.eqO (PySem.W.findIn K (.ref (He.ga K "Halves")) "__setattr__") (some (some (.builtin "object.__setattr__"))),
  fun K => PySem.W.makesIn K (He.ga K "Halves"),
  fun K => PySem.W.keepIn K (.ref (He.ga K "Halves")),
  fun K => PySem.W.selfFirst K (He.ga K "Halves"),
  fun K => He.eqO (PySem.W.findIn K (.ref (He.ga K "Halves")) "places") (some none),
  fun K => He.eqO (PySem.W.findIn K (.ref (He.ga K "Halves")) "most") (some none),
  fun K => He.eqO (PySem.W.findIn K (.ref (He.ga K "Halves")) "kind") (some none),
  fun K => He.eqO (PySem.W.findIn K (.ref (He.ga K "Halves")) "word") (some none),
  fun K => He.eqO (PySem.W.findIn K (.ref (He.ga K "Halves")) "one") (some none),
  fun K => He.eqO (PySem.W.findIn K (.ref (He.ga K "Halves")) "other") (some none),
  fun K => He.eqO (PySem.W.findIn K (.ref (He.ga K "Halves")) "__rand__") (some none),
  fun K => He.eqO (PySem.W.findIn K (.ref (He.ga K "Halves")) "__ror__") (some none),
  fun K => He.eqO (PySem.W.findIn K (.ref (He.ga K "Halves")) "__radd__") (some none)]
def fl2 : List Fct := [fun K => He.eqO (PySem.W.findIn K (.ref (He.ga K "Halves")) "__class__") (some (some (.builtin "object.__class__"))),
  fun K => He.eqO (PySem.W.findIn K (.ref (He.ga K "Halves")) "__ne__") (some (some (.builtin "object.__ne__"))),
  fun K => eqB (PySem.W.mroIn K (He.ga K "Halves") (.type "object")) (some true),
  fun K => PySem.W.isClsIn K (He.ga K "Halves"),
  fun K => eqV (PySem.W.typeIn K (.ref (He.ga K "Halves"))) (some (.type "type")),
  fun K => eqB (PySem.W.subIn K (.ref (He.ga K "Halves")) (.ref (He.ga K "Halves"))) (some true),
  fun K => He.eqO (PySem.W.findIn K (.ref (He.ga K "Halves")) "__init__") (some (some (.ref (He.ma K (He.ga K "Halves") "__init__")))),
  fun K => PySem.W.isFn K (.ref (He.ma K (He.ga K "Halves") "__init__")),
  fun K => He.eqO (PySem.W.findIn K (.ref (He.ga K "Halves")) "__invert__") (some (some (.ref (He.ma K (He.ga K "Halves") "__invert__")))),
  fun K => PySem.W.isFn K (.ref (He.ma K (He.ga K "Halves") "__invert__")),
  fun K => He.eqO (PySem.W.findIn K (.ref (He.ga K "Halves")) "__and__") (some (some (.ref (He.ma K (He.ga K "Halves") "__and__")))),
  fun K => PySem.W.isFn K (.ref (He.ma K (He.ga K "Halves") "__and__")),
  fun K => He.eqO (PySem.W.findIn K (.ref (He.ga K "Halves")) "__or__") (some (some (.ref (He.ma K (He.ga K "Halves") "__or__")))),
  fun K => PySem.W.isFn K (.ref (He.ma K (He.ga K "Halves") "__or__")),
  fun K => He.eqO (PySem.W.findIn K (.ref (He.ga K "Halves")) "__add__") (some (some (.ref (He.ma K (He.ga K "Halves") "__add__")))),
  fun K => PySem.W.isFn K (.ref (He.ma K (He.ga K "Halves") "__add__")),
  fun K => He.eqO (PySem.W.nsIn K mainGlobals "Boxes") (some (some (.ref (He.ga K "Boxes")))),
  fun K => PySem.W.plainGet K (He.ga K "Boxes") Str.empty,
  fun K => PySem.W.hasDictIn K (He.ga K "Boxes"),
  fun K => PySem.W.plainOver K (He.ga K "Boxes"),
  fun K => He.eqO (PySem.W.findIn K (.ref (He.ga K "Boxes")) "__setattr__") (some (some (.builtin "object.__setattr__"))),
  fun K => PySem.W.makesIn K (He.ga K "Boxes"),
  fun K => PySem.W.keepIn K (.ref (He.ga K "Boxes")),
  fun K => PySem.W.selfFirst K (He.ga K "Boxes"),
  fun K => He.eqO (PySem.W.findIn K (.ref (He.ga K "Boxes")) "places") (some none),
  fun K => He.eqO (PySem.W.findIn K (.ref (He.ga K "Boxes")) "most") (some none),
  fun K => He.eqO (PySem.W.findIn K (.ref (He.ga K "Boxes")) "kind") (some none),
  fun K => He.eqO (PySem.W.findIn K (.ref (He.ga K "Boxes")) "word") (some none),
  fun K => He.eqO (PySem.W.findIn K (.ref (He.ga K "Boxes")) "one") (some none),
  fun K => He.eqO (PySem.W.findIn K (.ref (He.ga K "Boxes")) "other") (some none)]
def fl3 : List Fct := [fun K => He.eqO (PySem.W.findIn K (.ref (He.ga K "Boxes")) "__rand__") (some none),
  fun K => He.eqO (PySem.W.findIn K (.ref (He.ga K "Boxes")) "__ror__") (some none),
  fun K => He.eqO (PySem.W.findIn K (.ref (He.ga K "Boxes")) "__radd__") (some none),
  fun K => He.eqO (PySem.W.findIn K (.ref (He.ga K "Boxes")) "__class__") (some (some (.builtin "object.__class__"))),
  fun K => He.eqO (PySem.W.findIn K (.ref (He.ga K "Boxes")) "__ne__") (some (some (.builtin "object.__ne__"))),
  fun K => eqB (PySem.W.mroIn K (He.ga K "Boxes") (.type "object")) (some true),
  fun K => PySem.W.isClsIn K (He.ga K "Boxes"),
  fun K => eqV (PySem.W.typeIn K (.ref (He.ga K "Boxes"))) (some (.type "type")),
  fun K => eqB (PySem.W.subIn K (.ref (He.ga K "Boxes")) (.ref (He.ga K "Boxes"))) (some true),
  fun K => He.eqO (PySem.W.findIn K (.ref (He.ga K "Boxes")) "__init__") (some (some (.ref (He.ma K (He.ga K "Boxes") "__init__")))),
  fun K => PySem.W.isFn K (.ref (He.ma K (He.ga K "Boxes") "__init__")),
  fun K => He.eqO (PySem.W.findIn K (.ref (He.ga K "Boxes")) "__invert__") (some (some (.ref (He.ma K (He.ga K "Boxes") "__invert__")))),
  fun K => PySem.W.isFn K (.ref (He.ma K (He.ga K "Boxes") "__invert__")),
  fun K => He.eqO (PySem.W.findIn K (.ref (He.ga K "Boxes")) "__and__") (some (some (.ref (He.ma K (He.ga K "Boxes") "__and__")))),
  fun K => PySem.W.isFn K (.ref (He.ma K (He.ga K "Boxes") "__and__")),
  fun K => He.eqO (PySem.W.findIn K (.ref (He.ga K "Boxes")) "__or__") (some (some (.ref (He.ma K (He.ga K "Boxes") "__or__")))),
  fun K => PySem.W.isFn K (.ref (He.ma K (He.ga K "Boxes") "__or__")),
  fun K => He.eqO (PySem.W.findIn K (.ref (He.ga K "Boxes")) "__add__") (some (some (.ref (He.ma K (He.ga K "Boxes") "__add__")))),
  fun K => PySem.W.isFn K (.ref (He.ma K (He.ga K "Boxes") "__add__")),
  fun K => He.eqO (PySem.W.findIn K (.ref (He.ga K "Boxes")) "proves") (some (some (.ref (He.ma K (He.ga K "Boxes") "proves")))),
  fun K => PySem.W.isFn K (.ref (He.ma K (He.ga K "Boxes") "proves")),
  fun K => He.eqO (PySem.W.nsIn K mainGlobals "Rising") (some (some (.ref (He.ga K "Rising")))),
  fun K => PySem.W.plainGet K (He.ga K "Rising") Str.empty,
  fun K => PySem.W.hasDictIn K (He.ga K "Rising"),
  fun K => PySem.W.plainOver K (He.ga K "Rising"),
  fun K => He.eqO (PySem.W.findIn K (.ref (He.ga K "Rising")) "__setattr__") (some (some (.builtin "object.__setattr__"))),
  fun K => PySem.W.makesIn K (He.ga K "Rising"),
  fun K => PySem.W.keepIn K (.ref (He.ga K "Rising")),
  fun K => PySem.W.selfFirst K (He.ga K "Rising"),
  fun K => He.eqO (PySem.W.findIn K (.ref (He.ga K "Rising")) "places") (some none)]
def fl4 : List Fct := [fun K => He.eqO (PySem.W.findIn K (.ref (He.ga K "Rising")) "most") (some none),
  fun K => He.eqO (PySem.W.findIn K (.ref (He.ga K "Rising")) "kind") (some none),
  fun K => He.eqO (PySem.W.findIn K (.ref (He.ga K "Rising")) "word") (some none),
  fun K => He.eqO (PySem.W.findIn K (.ref (He.ga K "Rising")) "one") (some none),
  fun K => He.eqO (PySem.W.findIn K (.ref (He.ga K "Rising")) "other") (some none),
  fun K => He.eqO (PySem.W.findIn K (.ref (He.ga K "Rising")) "__rand__") (some none),
  fun K => He.eqO (PySem.W.findIn K (.ref (He.ga K "Rising")) "__ror__") (some none),
  fun K => He.eqO (PySem.W.findIn K (.ref (He.ga K "Rising")) "__radd__") (some none),
  fun K => He.eqO (PySem.W.findIn K (.ref (He.ga K "Rising")) "__class__") (some (some (.builtin "object.__class__"))),
  fun K => He.eqO (PySem.W.findIn K (.ref (He.ga K "Rising")) "__ne__") (some (some (.builtin "object.__ne__"))),
  fun K => eqB (PySem.W.mroIn K (He.ga K "Rising") (.type "object")) (some true),
  fun K => PySem.W.isClsIn K (He.ga K "Rising"),
  fun K => eqV (PySem.W.typeIn K (.ref (He.ga K "Rising"))) (some (.type "type")),
  fun K => eqB (PySem.W.subIn K (.ref (He.ga K "Rising")) (.ref (He.ga K "Rising"))) (some true),
  fun K => He.eqO (PySem.W.findIn K (.ref (He.ga K "Rising")) "__init__") (some (some (.ref (He.ma K (He.ga K "Rising") "__init__")))),
  fun K => PySem.W.isFn K (.ref (He.ma K (He.ga K "Rising") "__init__")),
  fun K => He.eqO (PySem.W.findIn K (.ref (He.ga K "Rising")) "__invert__") (some (some (.ref (He.ma K (He.ga K "Rising") "__invert__")))),
  fun K => PySem.W.isFn K (.ref (He.ma K (He.ga K "Rising") "__invert__")),
  fun K => He.eqO (PySem.W.findIn K (.ref (He.ga K "Rising")) "__and__") (some (some (.ref (He.ma K (He.ga K "Rising") "__and__")))),
  fun K => PySem.W.isFn K (.ref (He.ma K (He.ga K "Rising") "__and__")),
  fun K => He.eqO (PySem.W.findIn K (.ref (He.ga K "Rising")) "__or__") (some (some (.ref (He.ma K (He.ga K "Rising") "__or__")))),
  fun K => PySem.W.isFn K (.ref (He.ma K (He.ga K "Rising") "__or__")),
  fun K => He.eqO (PySem.W.findIn K (.ref (He.ga K "Rising")) "__add__") (some (some (.ref (He.ma K (He.ga K "Rising") "__add__")))),
  fun K => PySem.W.isFn K (.ref (He.ma K (He.ga K "Rising") "__add__")),
  fun K => He.eqO (PySem.W.findIn K (.ref (He.ga K "Rising")) "proves") (some (some (.ref (He.ma K (He.ga K "Rising") "proves")))),
  fun K => PySem.W.isFn K (.ref (He.ma K (He.ga K "Rising") "proves")),
  fun K => He.eqO (PySem.W.nsIn K mainGlobals "Flats") (some (some (.ref (He.ga K "Flats")))),
  fun K => PySem.W.plainGet K (He.ga K "Flats") Str.empty,
  fun K => PySem.W.hasDictIn K (He.ga K "Flats"),
  fun K => PySem.W.plainOver K (He.ga K "Flats")]
def fl5 : List Fct := [fun K => He.eqO (PySem.W.findIn K (.ref (He.ga K "Flats")) "__setattr__") (some (some (.builtin "object.__setattr__"))),
  fun K => PySem.W.makesIn K (He.ga K "Flats"),
  fun K => PySem.W.keepIn K (.ref (He.ga K "Flats")),
  fun K => PySem.W.selfFirst K (He.ga K "Flats"),
  fun K => He.eqO (PySem.W.findIn K (.ref (He.ga K "Flats")) "places") (some none),
  fun K => He.eqO (PySem.W.findIn K (.ref (He.ga K "Flats")) "most") (some none),
  fun K => He.eqO (PySem.W.findIn K (.ref (He.ga K "Flats")) "kind") (some none),
  fun K => He.eqO (PySem.W.findIn K (.ref (He.ga K "Flats")) "word") (some none),
  fun K => He.eqO (PySem.W.findIn K (.ref (He.ga K "Flats")) "one") (some none),
  fun K => He.eqO (PySem.W.findIn K (.ref (He.ga K "Flats")) "other") (some none),
  fun K => He.eqO (PySem.W.findIn K (.ref (He.ga K "Flats")) "__rand__") (some none),
  fun K => He.eqO (PySem.W.findIn K (.ref (He.ga K "Flats")) "__ror__") (some none),
  fun K => He.eqO (PySem.W.findIn K (.ref (He.ga K "Flats")) "__radd__") (some none),
  fun K => He.eqO (PySem.W.findIn K (.ref (He.ga K "Flats")) "__class__") (some (some (.builtin "object.__class__"))),
  fun K => He.eqO (PySem.W.findIn K (.ref (He.ga K "Flats")) "__ne__") (some (some (.builtin "object.__ne__"))),
  fun K => eqB (PySem.W.mroIn K (He.ga K "Flats") (.type "object")) (some true),
  fun K => PySem.W.isClsIn K (He.ga K "Flats"),
  fun K => eqV (PySem.W.typeIn K (.ref (He.ga K "Flats"))) (some (.type "type")),
  fun K => eqB (PySem.W.subIn K (.ref (He.ga K "Flats")) (.ref (He.ga K "Flats"))) (some true),
  fun K => He.eqO (PySem.W.findIn K (.ref (He.ga K "Flats")) "__init__") (some (some (.ref (He.ma K (He.ga K "Flats") "__init__")))),
  fun K => PySem.W.isFn K (.ref (He.ma K (He.ga K "Flats") "__init__")),
  fun K => He.eqO (PySem.W.findIn K (.ref (He.ga K "Flats")) "__invert__") (some (some (.ref (He.ma K (He.ga K "Flats") "__invert__")))),
  fun K => PySem.W.isFn K (.ref (He.ma K (He.ga K "Flats") "__invert__")),
  fun K => He.eqO (PySem.W.findIn K (.ref (He.ga K "Flats")) "__and__") (some (some (.ref (He.ma K (He.ga K "Flats") "__and__")))),
  fun K => PySem.W.isFn K (.ref (He.ma K (He.ga K "Flats") "__and__")),
  fun K => He.eqO (PySem.W.findIn K (.ref (He.ga K "Flats")) "__or__") (some (some (.ref (He.ma K (He.ga K "Flats") "__or__")))),
  fun K => PySem.W.isFn K (.ref (He.ma K (He.ga K "Flats") "__or__")),
  fun K => He.eqO (PySem.W.findIn K (.ref (He.ga K "Flats")) "__add__") (some (some (.ref (He.ma K (He.ga K "Flats") "__add__")))),
  fun K => PySem.W.isFn K (.ref (He.ma K (He.ga K "Flats") "__add__")),
  fun K => He.eqO (PySem.W.nsIn K mainGlobals "Turns") (some (some (.ref (He.ga K "Turns"))))]
def fl6 : List Fct := [fun K => PySem.W.plainGet K (He.ga K "Turns") Str.empty,
  fun K => PySem.W.hasDictIn K (He.ga K "Turns"),
  fun K => PySem.W.plainOver K (He.ga K "Turns"),
  fun K => He.eqO (PySem.W.findIn K (.ref (He.ga K "Turns")) "__setattr__") (some (some (.builtin "object.__setattr__"))),
  fun K => PySem.W.makesIn K (He.ga K "Turns"),
  fun K => PySem.W.keepIn K (.ref (He.ga K "Turns")),
  fun K => PySem.W.selfFirst K (He.ga K "Turns"),
  fun K => He.eqO (PySem.W.findIn K (.ref (He.ga K "Turns")) "places") (some none),
  fun K => He.eqO (PySem.W.findIn K (.ref (He.ga K "Turns")) "most") (some none),
  fun K => He.eqO (PySem.W.findIn K (.ref (He.ga K "Turns")) "kind") (some none),
  fun K => He.eqO (PySem.W.findIn K (.ref (He.ga K "Turns")) "word") (some none),
  fun K => He.eqO (PySem.W.findIn K (.ref (He.ga K "Turns")) "one") (some none),
  fun K => He.eqO (PySem.W.findIn K (.ref (He.ga K "Turns")) "other") (some none),
  fun K => He.eqO (PySem.W.findIn K (.ref (He.ga K "Turns")) "__rand__") (some none),
  fun K => He.eqO (PySem.W.findIn K (.ref (He.ga K "Turns")) "__ror__") (some none),
  fun K => He.eqO (PySem.W.findIn K (.ref (He.ga K "Turns")) "__radd__") (some none),
  fun K => He.eqO (PySem.W.findIn K (.ref (He.ga K "Turns")) "__class__") (some (some (.builtin "object.__class__"))),
  fun K => He.eqO (PySem.W.findIn K (.ref (He.ga K "Turns")) "__ne__") (some (some (.builtin "object.__ne__"))),
  fun K => eqB (PySem.W.mroIn K (He.ga K "Turns") (.type "object")) (some true),
  fun K => PySem.W.isClsIn K (He.ga K "Turns"),
  fun K => eqV (PySem.W.typeIn K (.ref (He.ga K "Turns"))) (some (.type "type")),
  fun K => eqB (PySem.W.subIn K (.ref (He.ga K "Turns")) (.ref (He.ga K "Turns"))) (some true),
  fun K => He.eqO (PySem.W.findIn K (.ref (He.ga K "Turns")) "__init__") (some (some (.ref (He.ma K (He.ga K "Turns") "__init__")))),
  fun K => PySem.W.isFn K (.ref (He.ma K (He.ga K "Turns") "__init__")),
  fun K => He.eqO (PySem.W.findIn K (.ref (He.ga K "Turns")) "__invert__") (some (some (.ref (He.ma K (He.ga K "Turns") "__invert__")))),
  fun K => PySem.W.isFn K (.ref (He.ma K (He.ga K "Turns") "__invert__")),
  fun K => He.eqO (PySem.W.findIn K (.ref (He.ga K "Turns")) "__and__") (some (some (.ref (He.ma K (He.ga K "Turns") "__and__")))),
  fun K => PySem.W.isFn K (.ref (He.ma K (He.ga K "Turns") "__and__")),
  fun K => He.eqO (PySem.W.findIn K (.ref (He.ga K "Turns")) "__or__") (some (some (.ref (He.ma K (He.ga K "Turns") "__or__")))),
  fun K => PySem.W.isFn K (.ref (He.ma K (He.ga K "Turns") "__or__"))]
def fl7 : List Fct := [fun K => He.eqO (PySem.W.findIn K (.ref (He.ga K "Turns")) "__add__") (some (some (.ref (He.ma K (He.ga K "Turns") "__add__")))),
  fun K => PySem.W.isFn K (.ref (He.ma K (He.ga K "Turns") "__add__")),
  fun K => He.eqO (PySem.W.findIn K (.ref (He.ga K "Turns")) "proves") (some (some (.ref (He.ma K (He.ga K "Turns") "proves")))),
  fun K => PySem.W.isFn K (.ref (He.ma K (He.ga K "Turns") "proves")),
  fun K => He.eqO (PySem.W.nsIn K mainGlobals "Contrary") (some (some (.ref (He.ga K "Contrary")))),
  fun K => PySem.W.plainGet K (He.ga K "Contrary") Str.empty,
  fun K => PySem.W.hasDictIn K (He.ga K "Contrary"),
  fun K => PySem.W.plainOver K (He.ga K "Contrary"),
  fun K => He.eqO (PySem.W.findIn K (.ref (He.ga K "Contrary")) "__setattr__") (some (some (.builtin "object.__setattr__"))),
  fun K => PySem.W.makesIn K (He.ga K "Contrary"),
  fun K => PySem.W.keepIn K (.ref (He.ga K "Contrary")),
  fun K => PySem.W.selfFirst K (He.ga K "Contrary"),
  fun K => He.eqO (PySem.W.findIn K (.ref (He.ga K "Contrary")) "places") (some none),
  fun K => He.eqO (PySem.W.findIn K (.ref (He.ga K "Contrary")) "most") (some none),
  fun K => He.eqO (PySem.W.findIn K (.ref (He.ga K "Contrary")) "kind") (some none),
  fun K => He.eqO (PySem.W.findIn K (.ref (He.ga K "Contrary")) "word") (some none),
  fun K => He.eqO (PySem.W.findIn K (.ref (He.ga K "Contrary")) "one") (some none),
  fun K => He.eqO (PySem.W.findIn K (.ref (He.ga K "Contrary")) "other") (some none),
  fun K => He.eqO (PySem.W.findIn K (.ref (He.ga K "Contrary")) "__rand__") (some none),
  fun K => He.eqO (PySem.W.findIn K (.ref (He.ga K "Contrary")) "__ror__") (some none),
  fun K => He.eqO (PySem.W.findIn K (.ref (He.ga K "Contrary")) "__radd__") (some none),
  fun K => He.eqO (PySem.W.findIn K (.ref (He.ga K "Contrary")) "__class__") (some (some (.builtin "object.__class__"))),
  fun K => He.eqO (PySem.W.findIn K (.ref (He.ga K "Contrary")) "__ne__") (some (some (.builtin "object.__ne__"))),
  fun K => eqB (PySem.W.mroIn K (He.ga K "Contrary") (.type "object")) (some true),
  fun K => PySem.W.isClsIn K (He.ga K "Contrary"),
  fun K => eqV (PySem.W.typeIn K (.ref (He.ga K "Contrary"))) (some (.type "type")),
  fun K => eqB (PySem.W.subIn K (.ref (He.ga K "Contrary")) (.ref (He.ga K "Contrary"))) (some true),
  fun K => He.eqO (PySem.W.findIn K (.ref (He.ga K "Contrary")) "__init__") (some (some (.ref (He.ma K (He.ga K "Contrary") "__init__")))),
  fun K => PySem.W.isFn K (.ref (He.ma K (He.ga K "Contrary") "__init__")),
  fun K => He.eqO (PySem.W.findIn K (.ref (He.ga K "Contrary")) "__invert__") (some (some (.ref (He.ma K (He.ga K "Contrary") "__invert__"))))]
def fl8 : List Fct := [fun K => PySem.W.isFn K (.ref (He.ma K (He.ga K "Contrary") "__invert__")),
  fun K => He.eqO (PySem.W.findIn K (.ref (He.ga K "Contrary")) "__and__") (some (some (.ref (He.ma K (He.ga K "Contrary") "__and__")))),
  fun K => PySem.W.isFn K (.ref (He.ma K (He.ga K "Contrary") "__and__")),
  fun K => He.eqO (PySem.W.findIn K (.ref (He.ga K "Contrary")) "__or__") (some (some (.ref (He.ma K (He.ga K "Contrary") "__or__")))),
  fun K => PySem.W.isFn K (.ref (He.ma K (He.ga K "Contrary") "__or__")),
  fun K => He.eqO (PySem.W.findIn K (.ref (He.ga K "Contrary")) "__add__") (some (some (.ref (He.ma K (He.ga K "Contrary") "__add__")))),
  fun K => PySem.W.isFn K (.ref (He.ma K (He.ga K "Contrary") "__add__")),
  fun K => He.eqO (PySem.W.nsIn K mainGlobals "Pair") (some (some (.ref (He.ga K "Pair")))),
  fun K => PySem.W.plainGet K (He.ga K "Pair") Str.empty,
  fun K => PySem.W.hasDictIn K (He.ga K "Pair"),
  fun K => PySem.W.plainOver K (He.ga K "Pair"),
  fun K => He.eqO (PySem.W.findIn K (.ref (He.ga K "Pair")) "__setattr__") (some (some (.builtin "object.__setattr__"))),
  fun K => PySem.W.makesIn K (He.ga K "Pair"),
  fun K => PySem.W.keepIn K (.ref (He.ga K "Pair")),
  fun K => PySem.W.selfFirst K (He.ga K "Pair"),
  fun K => He.eqO (PySem.W.findIn K (.ref (He.ga K "Pair")) "places") (some none),
  fun K => He.eqO (PySem.W.findIn K (.ref (He.ga K "Pair")) "most") (some none),
  fun K => He.eqO (PySem.W.findIn K (.ref (He.ga K "Pair")) "kind") (some none),
  fun K => He.eqO (PySem.W.findIn K (.ref (He.ga K "Pair")) "word") (some none),
  fun K => He.eqO (PySem.W.findIn K (.ref (He.ga K "Pair")) "one") (some none),
  fun K => He.eqO (PySem.W.findIn K (.ref (He.ga K "Pair")) "other") (some none),
  fun K => He.eqO (PySem.W.findIn K (.ref (He.ga K "Pair")) "__rand__") (some none),
  fun K => He.eqO (PySem.W.findIn K (.ref (He.ga K "Pair")) "__ror__") (some none),
  fun K => He.eqO (PySem.W.findIn K (.ref (He.ga K "Pair")) "__radd__") (some none),
  fun K => He.eqO (PySem.W.findIn K (.ref (He.ga K "Pair")) "__class__") (some (some (.builtin "object.__class__"))),
  fun K => He.eqO (PySem.W.findIn K (.ref (He.ga K "Pair")) "__ne__") (some (some (.builtin "object.__ne__"))),
  fun K => eqB (PySem.W.mroIn K (He.ga K "Pair") (.type "object")) (some true),
  fun K => PySem.W.isClsIn K (He.ga K "Pair"),
  fun K => eqV (PySem.W.typeIn K (.ref (He.ga K "Pair"))) (some (.type "type")),
  fun K => eqB (PySem.W.subIn K (.ref (He.ga K "Pair")) (.ref (He.ga K "Pair"))) (some true)]
def fl9 : List Fct := [fun K => He.eqO (PySem.W.findIn K (.ref (He.ga K "Pair")) "__init__") (some (some (.ref (He.ma K (He.ga K "Pair") "__init__")))),
  fun K => PySem.W.isFn K (.ref (He.ma K (He.ga K "Pair") "__init__")),
  fun K => He.eqO (PySem.W.findIn K (.ref (He.ga K "Pair")) "__invert__") (some (some (.ref (He.ma K (He.ga K "Pair") "__invert__")))),
  fun K => PySem.W.isFn K (.ref (He.ma K (He.ga K "Pair") "__invert__")),
  fun K => He.eqO (PySem.W.findIn K (.ref (He.ga K "Pair")) "__and__") (some (some (.ref (He.ma K (He.ga K "Pair") "__and__")))),
  fun K => PySem.W.isFn K (.ref (He.ma K (He.ga K "Pair") "__and__")),
  fun K => He.eqO (PySem.W.findIn K (.ref (He.ga K "Pair")) "__or__") (some (some (.ref (He.ma K (He.ga K "Pair") "__or__")))),
  fun K => PySem.W.isFn K (.ref (He.ma K (He.ga K "Pair") "__or__")),
  fun K => He.eqO (PySem.W.findIn K (.ref (He.ga K "Pair")) "__add__") (some (some (.ref (He.ma K (He.ga K "Pair") "__add__")))),
  fun K => PySem.W.isFn K (.ref (He.ma K (He.ga K "Pair") "__add__")),
  fun K => eqB (PySem.W.subIn K (.ref (He.ga K "Halves")) (.ref (He.ga K "Boxes"))) (some false),
  fun K => eqB (PySem.W.subIn K (.ref (He.ga K "Halves")) (.ref (He.ga K "Rising"))) (some false),
  fun K => eqB (PySem.W.subIn K (.ref (He.ga K "Halves")) (.ref (He.ga K "Flats"))) (some false),
  fun K => eqB (PySem.W.subIn K (.ref (He.ga K "Halves")) (.ref (He.ga K "Turns"))) (some false),
  fun K => eqB (PySem.W.subIn K (.ref (He.ga K "Halves")) (.ref (He.ga K "Contrary"))) (some false),
  fun K => eqB (PySem.W.subIn K (.ref (He.ga K "Halves")) (.ref (He.ga K "Pair"))) (some false),
  fun K => eqB (PySem.W.subIn K (.ref (He.ga K "Boxes")) (.ref (He.ga K "Halves"))) (some false),
  fun K => eqB (PySem.W.subIn K (.ref (He.ga K "Boxes")) (.ref (He.ga K "Rising"))) (some false),
  fun K => eqB (PySem.W.subIn K (.ref (He.ga K "Boxes")) (.ref (He.ga K "Flats"))) (some false),
  fun K => eqB (PySem.W.subIn K (.ref (He.ga K "Boxes")) (.ref (He.ga K "Turns"))) (some false),
  fun K => eqB (PySem.W.subIn K (.ref (He.ga K "Boxes")) (.ref (He.ga K "Contrary"))) (some false),
  fun K => eqB (PySem.W.subIn K (.ref (He.ga K "Boxes")) (.ref (He.ga K "Pair"))) (some false),
  fun K => eqB (PySem.W.subIn K (.ref (He.ga K "Rising")) (.ref (He.ga K "Halves"))) (some false),
  fun K => eqB (PySem.W.subIn K (.ref (He.ga K "Rising")) (.ref (He.ga K "Boxes"))) (some false),
  fun K => eqB (PySem.W.subIn K (.ref (He.ga K "Rising")) (.ref (He.ga K "Flats"))) (some false),
  fun K => eqB (PySem.W.subIn K (.ref (He.ga K "Rising")) (.ref (He.ga K "Turns"))) (some false),
  fun K => eqB (PySem.W.subIn K (.ref (He.ga K "Rising")) (.ref (He.ga K "Contrary"))) (some false),
  fun K => eqB (PySem.W.subIn K (.ref (He.ga K "Rising")) (.ref (He.ga K "Pair"))) (some false),
  fun K => eqB (PySem.W.subIn K (.ref (He.ga K "Flats")) (.ref (He.ga K "Halves"))) (some false),
  fun K => eqB (PySem.W.subIn K (.ref (He.ga K "Flats")) (.ref (He.ga K "Boxes"))) (some false)]
def fl10 : List Fct := [fun K => eqB (PySem.W.subIn K (.ref (He.ga K "Flats")) (.ref (He.ga K "Rising"))) (some false),
  fun K => eqB (PySem.W.subIn K (.ref (He.ga K "Flats")) (.ref (He.ga K "Turns"))) (some false),
  fun K => eqB (PySem.W.subIn K (.ref (He.ga K "Flats")) (.ref (He.ga K "Contrary"))) (some false),
  fun K => eqB (PySem.W.subIn K (.ref (He.ga K "Flats")) (.ref (He.ga K "Pair"))) (some false),
  fun K => eqB (PySem.W.subIn K (.ref (He.ga K "Turns")) (.ref (He.ga K "Halves"))) (some false),
  fun K => eqB (PySem.W.subIn K (.ref (He.ga K "Turns")) (.ref (He.ga K "Boxes"))) (some false),
  fun K => eqB (PySem.W.subIn K (.ref (He.ga K "Turns")) (.ref (He.ga K "Rising"))) (some false),
  fun K => eqB (PySem.W.subIn K (.ref (He.ga K "Turns")) (.ref (He.ga K "Flats"))) (some false),
  fun K => eqB (PySem.W.subIn K (.ref (He.ga K "Turns")) (.ref (He.ga K "Contrary"))) (some false),
  fun K => eqB (PySem.W.subIn K (.ref (He.ga K "Turns")) (.ref (He.ga K "Pair"))) (some false),
  fun K => eqB (PySem.W.subIn K (.ref (He.ga K "Contrary")) (.ref (He.ga K "Halves"))) (some false),
  fun K => eqB (PySem.W.subIn K (.ref (He.ga K "Contrary")) (.ref (He.ga K "Boxes"))) (some false),
  fun K => eqB (PySem.W.subIn K (.ref (He.ga K "Contrary")) (.ref (He.ga K "Rising"))) (some false),
  fun K => eqB (PySem.W.subIn K (.ref (He.ga K "Contrary")) (.ref (He.ga K "Flats"))) (some false),
  fun K => eqB (PySem.W.subIn K (.ref (He.ga K "Contrary")) (.ref (He.ga K "Turns"))) (some false),
  fun K => eqB (PySem.W.subIn K (.ref (He.ga K "Contrary")) (.ref (He.ga K "Pair"))) (some false),
  fun K => eqB (PySem.W.subIn K (.ref (He.ga K "Pair")) (.ref (He.ga K "Halves"))) (some false),
  fun K => eqB (PySem.W.subIn K (.ref (He.ga K "Pair")) (.ref (He.ga K "Boxes"))) (some false),
  fun K => eqB (PySem.W.subIn K (.ref (He.ga K "Pair")) (.ref (He.ga K "Rising"))) (some false),
  fun K => eqB (PySem.W.subIn K (.ref (He.ga K "Pair")) (.ref (He.ga K "Flats"))) (some false),
  fun K => eqB (PySem.W.subIn K (.ref (He.ga K "Pair")) (.ref (He.ga K "Turns"))) (some false),
  fun K => eqB (PySem.W.subIn K (.ref (He.ga K "Pair")) (.ref (He.ga K "Contrary"))) (some false),
  fun K => He.eqO (PySem.W.specialIn K (.builtin "object.__class__") "__get__") (some (some (.builtin "getset_descriptor.__get__"))),
  fun K => eqB (PySem.W.takesIn K (.builtin "object.__class__")) (some true),
  fun K => He.eqO (PySem.W.nsIn K mainGlobals "Sample") (some (some (.ref (He.ga K "Sample")))),
  fun K => PySem.W.plainGet K (He.ga K "Sample") Str.empty,
  fun K => PySem.W.hasDictIn K (He.ga K "Sample"),
  fun K => PySem.W.plainOver K (He.ga K "Sample"),
  fun K => He.eqO (PySem.W.findIn K (.ref (He.ga K "Sample")) "__setattr__") (some (some (.builtin "object.__setattr__"))),
  fun K => PySem.W.makesIn K (He.ga K "Sample")]
def fl11 : List Fct := [fun K => PySem.W.keepIn K (.ref (He.ga K "Sample")),
  fun K => He.eqO (PySem.W.findIn K (.ref (He.ga K "Sample")) "places") (some none),
  fun K => He.eqO (PySem.W.findIn K (.ref (He.ga K "Sample")) "_pairs") (some none),
  fun K => He.eqO (PySem.W.findIn K (.ref (He.ga K "Sample")) "__class__") (some (some (.builtin "object.__class__"))),
  fun K => eqB (PySem.W.mroIn K (He.ga K "Sample") (.type "object")) (some true),
  fun K => He.eqO (PySem.W.findIn K (.ref (He.ga K "Sample")) "examples") (some (some (.ref (He.ma K (He.ga K "Sample") "examples")))),
  fun K => PySem.W.isFn K (.ref (He.ma K (He.ga K "Sample") "examples")),
  fun K => He.eqO (PySem.W.findIn K (.ref (He.ga K "Sample")) "__len__") (some (some (.ref (He.ma K (He.ga K "Sample") "__len__")))),
  fun K => PySem.W.isFn K (.ref (He.ma K (He.ga K "Sample") "__len__")),
  fun K => He.eqO (PySem.W.findIn K (.ref (He.ga K "Sample")) "__init__") (some (some (.ref (He.ma K (He.ga K "Sample") "__init__")))),
  fun K => PySem.W.isFn K (.ref (He.ma K (He.ga K "Sample") "__init__")),
  fun K => He.eqO (PySem.W.nsIn K mainGlobals "is_certificate") (some (some (.ref (He.ga K "is_certificate")))),
  fun K => gInt K "LEAST_PLACES" 1,
  fun K => gInt K "MOST_PLACES" 3,
  fun K => gInt K "GREATEST_MOST" 6,
  fun K => He.eqO (PySem.W.nsIn K mainGlobals "len") (some none),
  fun K => He.eqO (PySem.W.nsIn K mainGlobals "int") (some none),
  fun K => He.eqO (PySem.W.nsIn K mainGlobals "isinstance") (some none),
  fun K => He.eqO (PySem.W.nsIn K mainGlobals "list") (some none),
  fun K => He.eqO (PySem.W.nsIn K mainGlobals "tuple") (some none),
  fun K => He.eqO (PySem.W.nsIn K mainGlobals "bool") (some none),
  fun K => He.eqO (PySem.W.nsIn K mainGlobals "all") (some none),
  fun K => He.eqO (PySem.W.nsIn K mainGlobals "zip") (some none),
  fun K => He.eqO (PySem.W.nsIn K mainGlobals "range") (some none),
  fun K => He.eqO (PySem.W.nsIn K mainGlobals "enumerate") (some none),
  fun K => He.eqO (PySem.W.nsIn K mainGlobals "any") (some none),
  fun K => He.eqO (PySem.W.nsIn K mainGlobals "dict") (some none),
  fun K => He.eqO (PySem.W.nsIn K mainGlobals "str") (some none),
  fun K => He.eqO (PySem.W.nsIn K mainGlobals "sorted") (some none)]
def fd0 : List He.DefD := [⟨("is_integer", none), "is_integer", "is_integer", defArgs s_is_integer, defBody s_is_integer, defScope s_is_integer, [], []⟩,
  ⟨("is_label", none), "is_label", "is_label", defArgs s_is_label, defBody s_is_label, defScope s_is_label, [], []⟩,
  ⟨("is_row", none), "is_row", "is_row", defArgs s_is_row, defBody s_is_row, defScope s_is_row, [], []⟩,
  ⟨("is_row_of", none), "is_row_of", "is_row_of", defArgs s_is_row_of, defBody s_is_row_of, defScope s_is_row_of, [], []⟩,
  ⟨("is_form", none), "is_form", "is_form", defArgs s_is_form, defBody s_is_form, defScope s_is_form, [], []⟩,
  ⟨("is_number_of", none), "is_number_of", "is_number_of", defArgs s_is_number_of, defBody s_is_number_of, defScope s_is_number_of, [], []⟩,
  ⟨("is_number_of_places", none), "is_number_of_places", "is_number_of_places", defArgs s_is_number_of_places, defBody s_is_number_of_places, defScope s_is_number_of_places, [], []⟩,
  ⟨("is_point", none), "is_point", "is_point", defArgs s_is_point, defBody s_is_point, defScope s_is_point, [], []⟩,
  ⟨("is_example", none), "is_example", "is_example", defArgs s_is_example, defBody s_is_example, defScope s_is_example, [], []⟩,
  ⟨("copied_example", none), "copied_example", "copied_example", defArgs s_copied_example, defBody s_copied_example, defScope s_copied_example, [], []⟩,
  ⟨("_check_number_of_places", none), "_check_number_of_places", "_check_number_of_places", defArgs s_check_number_of_places, defBody s_check_number_of_places, defScope s_check_number_of_places, [], []⟩,
  ⟨("check_lies", none), "check_lies", "check_lies", defArgs s_check_lies, defBody s_check_lies, defScope s_check_lies, [], []⟩,
  ⟨("is_between", none), "is_between", "is_between", defArgs s_is_between, defBody s_is_between, defScope s_is_between, [], []⟩,
  ⟨("_encloses", none), "_encloses", "_encloses", defArgs s_encloses, defBody s_encloses, defScope s_encloses, [], []⟩,
  ⟨("is_above", none), "is_above", "is_above", defArgs s_is_above, defBody s_is_above, defScope s_is_above, [], []⟩]
def fd1 : List He.DefD := [⟨("_lies_below", none), "_lies_below", "_lies_below", defArgs s_lies_below, defBody s_lies_below, defScope s_lies_below, [], []⟩,
  ⟨("is_turning", none), "is_turning", "is_turning", defArgs s_is_turning, defBody s_is_turning, defScope s_is_turning, [], []⟩,
  ⟨("_pairs", none), "_pairs", "_pairs", defArgs s_pairs, defBody s_pairs, defScope s_pairs, [], []⟩,
  ⟨("_is_proof", none), "_is_proof", "_is_proof", defArgs s_is_proof, defBody s_is_proof, defScope s_is_proof, [], []⟩,
  ⟨("_without", none), "_without", "_without", defArgs s_without, defBody s_without, defScope s_without, [], []⟩,
  ⟨("_is_plain", none), "_is_plain", "_is_plain", defArgs s_is_plain, defBody s_is_plain, defScope s_is_plain, [], []⟩,
  ⟨("_is_tree", none), "_is_tree", "_is_tree", defArgs s_is_tree, defBody s_is_tree, defScope s_is_tree, [], []⟩,
  ⟨("_is_leaf", none), "_is_leaf", "_is_leaf", defArgs s_is_leaf, defBody s_is_leaf, defScope s_is_leaf, [], []⟩,
  ⟨("check_places", none), "check_places", "check_places", defArgs s_check_places, defBody s_check_places, defScope s_check_places, [], []⟩,
  ⟨("_law_source", none), "_law_source", "_law_source", defArgs s_source, defBody s_source, defScope s_source, [], []⟩,
  ⟨("_law_draw", none), "_law_draw", "_law_draw", defArgs s_draw, defBody s_draw, defScope s_draw, [], []⟩,
  ⟨("_law_pick", none), "_law_pick", "_law_pick", defArgs s_pick, defBody s_pick, defScope s_pick, [], []⟩,
  ⟨("_law_same", none), "_law_same", "_law_same", defArgs s_same, defBody s_same, defScope s_same, [], []⟩,
  ⟨("_law_point", none), "_law_point", "_law_point", defArgs s_point, defBody s_point, defScope s_point, [], []⟩,
  ⟨("_law_rows", none), "_law_rows", "_law_rows", defArgs s_rows, defBody s_rows, defScope s_rows, [], []⟩]
def fd2 : List He.DefD := [⟨("_law_built", none), "_law_built", "_law_built", defArgs s_built, defBody s_built, defScope s_built, [], []⟩,
  ⟨("_law_is_list", none), "_law_is_list", "_law_is_list", defArgs s_is_list, defBody s_is_list, defScope s_is_list, [], []⟩,
  ⟨("_law_is_int", none), "_law_is_int", "_law_is_int", defArgs s_is_int, defBody s_is_int, defScope s_is_int, [], []⟩,
  ⟨("_law_headed", none), "_law_headed", "_law_headed", defArgs s_headed, defBody s_headed, defScope s_headed, [], []⟩,
  ⟨("_law_is_pairs", none), "_law_is_pairs", "_law_is_pairs", defArgs s_is_pairs, defBody s_is_pairs, defScope s_is_pairs, [], []⟩,
  ⟨("_law_labelled", none), "_law_labelled", "_law_labelled", defArgs s_labelled, defBody s_labelled, defScope s_labelled, [], []⟩,
  ⟨("_law_shows", none), "_law_shows", "_law_shows", defArgs s_shows, defBody s_shows, defScope s_shows, [], []⟩,
  ⟨("_law_around", none), "_law_around", "_law_around", defArgs s_around, defBody s_around, defScope s_around, [], []⟩,
  ⟨("_law_shows_turns", none), "_law_shows_turns", "_law_shows_turns", defArgs s_shows_turns, defBody s_shows_turns, defScope s_shows_turns, [], []⟩,
  ⟨("_law_view", none), "_law_view", "_law_view", defArgs s_view, defBody s_view, defScope s_view, [], []⟩,
  ⟨("_law_written", none), "_law_written", "_law_written", defArgs s_written, defBody s_written, defScope s_written, [], []⟩,
  ⟨("_law_trees_right", none), "_law_trees_right", "_law_trees_right", defArgs s_trees_right, defBody s_trees_right, defScope s_trees_right, [], []⟩,
  ⟨("law", none), "law", "law", defArgs s_law, defBody s_law, defScope s_law, [], []⟩,
  ⟨("Halves", some "__init__"), "__init__", "Halves.__init__", defArgs s_Halves_init, defBody s_Halves_init, defScope s_Halves_init, [], []⟩,
  ⟨("Halves", some "__invert__"), "__invert__", "Halves.__invert__", defArgs s_Halves_invert, defBody s_Halves_invert, defScope s_Halves_invert, [], []⟩]
def fd3 : List He.DefD := [⟨("Halves", some "__and__"), "__and__", "Halves.__and__", defArgs s_Halves_and, defBody s_Halves_and, defScope s_Halves_and, [], []⟩,
  ⟨("Halves", some "__or__"), "__or__", "Halves.__or__", defArgs s_Halves_or, defBody s_Halves_or, defScope s_Halves_or, [], []⟩,
  ⟨("Halves", some "__add__"), "__add__", "Halves.__add__", defArgs s_Halves_add, defBody s_Halves_add, defScope s_Halves_add, [], []⟩,
  ⟨("Boxes", some "__init__"), "__init__", "Boxes.__init__", defArgs s_Boxes_init, defBody s_Boxes_init, defScope s_Boxes_init, [], []⟩,
  ⟨("Boxes", some "__invert__"), "__invert__", "Boxes.__invert__", defArgs s_Boxes_invert, defBody s_Boxes_invert, defScope s_Boxes_invert, [], []⟩,
  ⟨("Boxes", some "__and__"), "__and__", "Boxes.__and__", defArgs s_Boxes_and, defBody s_Boxes_and, defScope s_Boxes_and, [], []⟩,
  ⟨("Boxes", some "__or__"), "__or__", "Boxes.__or__", defArgs s_Boxes_or, defBody s_Boxes_or, defScope s_Boxes_or, [], []⟩,
  ⟨("Boxes", some "__add__"), "__add__", "Boxes.__add__", defArgs s_Boxes_add, defBody s_Boxes_add, defScope s_Boxes_add, [], []⟩,
  ⟨("Boxes", some "proves"), "proves", "Boxes.proves", defArgs s_Boxes_proves, defBody s_Boxes_proves, defScope s_Boxes_proves, [], []⟩,
  ⟨("Rising", some "__init__"), "__init__", "Rising.__init__", defArgs s_Rising_init, defBody s_Rising_init, defScope s_Rising_init, [], []⟩,
  ⟨("Rising", some "__invert__"), "__invert__", "Rising.__invert__", defArgs s_Rising_invert, defBody s_Rising_invert, defScope s_Rising_invert, [], []⟩,
  ⟨("Rising", some "__and__"), "__and__", "Rising.__and__", defArgs s_Rising_and, defBody s_Rising_and, defScope s_Rising_and, [], []⟩,
  ⟨("Rising", some "__or__"), "__or__", "Rising.__or__", defArgs s_Rising_or, defBody s_Rising_or, defScope s_Rising_or, [], []⟩,
  ⟨("Rising", some "__add__"), "__add__", "Rising.__add__", defArgs s_Rising_add, defBody s_Rising_add, defScope s_Rising_add, [], []⟩,
  ⟨("Rising", some "proves"), "proves", "Rising.proves", defArgs s_Rising_proves, defBody s_Rising_proves, defScope s_Rising_proves, [], []⟩]
def fd4 : List He.DefD := [⟨("Flats", some "__init__"), "__init__", "Flats.__init__", defArgs s_Flats_init, defBody s_Flats_init, defScope s_Flats_init, [], []⟩,
  ⟨("Flats", some "__invert__"), "__invert__", "Flats.__invert__", defArgs s_Flats_invert, defBody s_Flats_invert, defScope s_Flats_invert, [], []⟩,
  ⟨("Flats", some "__and__"), "__and__", "Flats.__and__", defArgs s_Flats_and, defBody s_Flats_and, defScope s_Flats_and, [], []⟩,
  ⟨("Flats", some "__or__"), "__or__", "Flats.__or__", defArgs s_Flats_or, defBody s_Flats_or, defScope s_Flats_or, [], []⟩,
  ⟨("Flats", some "__add__"), "__add__", "Flats.__add__", defArgs s_Flats_add, defBody s_Flats_add, defScope s_Flats_add, [], []⟩,
  ⟨("Turns", some "__init__"), "__init__", "Turns.__init__", defArgs s_Turns_init, defBody s_Turns_init, defScope s_Turns_init, [], []⟩,
  ⟨("Turns", some "__invert__"), "__invert__", "Turns.__invert__", defArgs s_Turns_invert, defBody s_Turns_invert, defScope s_Turns_invert, [], []⟩,
  ⟨("Turns", some "__and__"), "__and__", "Turns.__and__", defArgs s_Turns_and, defBody s_Turns_and, defScope s_Turns_and, [], []⟩,
  ⟨("Turns", some "__or__"), "__or__", "Turns.__or__", defArgs s_Turns_or, defBody s_Turns_or, defScope s_Turns_or, [], []⟩,
  ⟨("Turns", some "__add__"), "__add__", "Turns.__add__", defArgs s_Turns_add, defBody s_Turns_add, defScope s_Turns_add, [], []⟩,
  ⟨("Turns", some "proves"), "proves", "Turns.proves", defArgs s_Turns_proves, defBody s_Turns_proves, defScope s_Turns_proves, [], []⟩,
  ⟨("Contrary", some "__init__"), "__init__", "Contrary.__init__", defArgs s_Contrary_init, defBody s_Contrary_init, defScope s_Contrary_init, [], []⟩,
  ⟨("Contrary", some "__invert__"), "__invert__", "Contrary.__invert__", defArgs s_Contrary_invert, defBody s_Contrary_invert, defScope s_Contrary_invert, [], []⟩,
  ⟨("Contrary", some "__and__"), "__and__", "Contrary.__and__", defArgs s_Contrary_and, defBody s_Contrary_and, defScope s_Contrary_and, [], []⟩,
  ⟨("Contrary", some "__or__"), "__or__", "Contrary.__or__", defArgs s_Contrary_or, defBody s_Contrary_or, defScope s_Contrary_or, [], []⟩]
def fd5 : List He.DefD := [⟨("Contrary", some "__add__"), "__add__", "Contrary.__add__", defArgs s_Contrary_add, defBody s_Contrary_add, defScope s_Contrary_add, [], []⟩,
  ⟨("Pair", some "__init__"), "__init__", "Pair.__init__", defArgs s_Pair_init, defBody s_Pair_init, defScope s_Pair_init, [], []⟩,
  ⟨("Pair", some "__invert__"), "__invert__", "Pair.__invert__", defArgs s_Pair_invert, defBody s_Pair_invert, defScope s_Pair_invert, [], []⟩,
  ⟨("Pair", some "__and__"), "__and__", "Pair.__and__", defArgs s_Pair_and, defBody s_Pair_and, defScope s_Pair_and, [], []⟩,
  ⟨("Pair", some "__or__"), "__or__", "Pair.__or__", defArgs s_Pair_or, defBody s_Pair_or, defScope s_Pair_or, [], []⟩,
  ⟨("Pair", some "__add__"), "__add__", "Pair.__add__", defArgs s_Pair_add, defBody s_Pair_add, defScope s_Pair_add, [], []⟩,
  ⟨("Sample", some "examples"), "examples", "Sample.examples", defArgs s_Sample_examples, defBody s_Sample_examples, defScope s_Sample_examples, [], []⟩,
  ⟨("Sample", some "__len__"), "__len__", "Sample.__len__", defArgs s_Sample_len, defBody s_Sample_len, defScope s_Sample_len, [], []⟩,
  ⟨("Sample", some "__init__"), "__init__", "Sample.__init__", defArgs s_Sample_init, defBody s_Sample_init, defScope s_Sample_init, [.adr (He.dflAt ("Sample", some "__init__") 0)], []⟩,
  ⟨("is_certificate", none), "is_certificate", "is_certificate", defArgs s_is_certificate, defBody s_is_certificate, defScope s_is_certificate, [.int 0], [("given", .non)]⟩]
def fls : List (List Fct) := [fl0, fl1, fl2, fl3, fl4, fl5, fl6, fl7, fl8, fl9, fl10, fl11]
def fds : List (List He.DefD) := [fd0, fd1, fd2, fd3, fd4, fd5]
theorem all_of {l : PySem.W.OpenLaw} {w : World} {K : PySem.W.Frag} {h : Heap} {mg : Str → Option Value} {fa : Addr} (X : K.In h) (G : h.Ns mainGlobals mg) (hfa : mg "law" = some (.ref fa)) (c : SaysF fls.flatten fds.flatten K) :
    ∃ fd : FuncData, (∀ (s : Shared) (v : Value), BindsTo s fd ⟨[v], []⟩ [("_law_script", v)]) ∧ ∀ base : Heap, K.In base → base.Ns mainGlobals mg → FnOk l.prog w K mg base CX0 60 fa fd ["_law_script"] (spLaw18 K) := by
  have c0 := c.part 0 (l := fl0) rfl
  have c1 := c.part 1 (l := fl1) rfl
  have c2 := c.part 2 (l := fl2) rfl
  have c3 := c.part 3 (l := fl3) rfl
  have c4 := c.part 4 (l := fl4) rfl
  have c5 := c.part 5 (l := fl5) rfl
  have c6 := c.part 6 (l := fl6) rfl
  have c7 := c.part 7 (l := fl7) rfl
  have c8 := c.part 8 (l := fl8) rfl
  have c9 := c.part 9 (l := fl9) rfl
  have c10 := c.part 10 (l := fl10) rfl
  have c11 := c.part 11 (l := fl11) rfl
  exact all_mk (l := l) (w := w) (fF_is_integer := (He.ga K "is_integer")) (fF_is_label := (He.ga K "is_label")) (fF_is_row := (He.ga K "is_row")) (fF_is_row_of := (He.ga K "is_row_of")) (fF_is_form := (He.ga K "is_form")) (fF_is_number_of := (He.ga K "is_number_of")) (fF_is_number_of_places := (He.ga K "is_number_of_places")) (fF_is_point := (He.ga K "is_point")) (fF_is_example := (He.ga K "is_example")) (fF_copied_example := (He.ga K "copied_example")) (fF_check_number_of_places := (He.ga K "_check_number_of_places")) (fF_check_lies := (He.ga K "check_lies")) (fF_is_between := (He.ga K "is_between")) (fF_encloses := (He.ga K "_encloses")) (fF_is_above := (He.ga K "is_above")) (fF_lies_below := (He.ga K "_lies_below")) (fF_is_turning := (He.ga K "is_turning")) (fF_pairs := (He.ga K "_pairs")) (fF_is_proof := (He.ga K "_is_proof")) (fF_without := (He.ga K "_without")) (fF_is_plain := (He.ga K "_is_plain")) (fF_is_tree := (He.ga K "_is_tree")) (fF_is_leaf := (He.ga K "_is_leaf")) (fF_check_places := (He.ga K "check_places")) (fL_source := (He.ga K "_law_source")) (fL_draw := (He.ga K "_law_draw")) (fL_pick := (He.ga K "_law_pick")) (fL_same := (He.ga K "_law_same")) (fL_point := (He.ga K "_law_point")) (fL_rows := (He.ga K "_law_rows")) (fL_built := (He.ga K "_law_built")) (fL_is_list := (He.ga K "_law_is_list")) (fL_is_int := (He.ga K "_law_is_int")) (fL_headed := (He.ga K "_law_headed")) (fL_is_pairs := (He.ga K "_law_is_pairs")) (fL_labelled := (He.ga K "_law_labelled")) (fL_shows := (He.ga K "_law_shows")) (fL_around := (He.ga K "_law_around")) (fL_shows_turns := (He.ga K "_law_shows_turns")) (fL_view := (He.ga K "_law_view")) (fL_written := (He.ga K "_law_written")) (fL_trees_right := (He.ga K "_law_trees_right")) (fL_law := (He.ga K "law")) (Cha := (He.ga K "Halves")) (fMha_init := (He.ma K (He.ga K "Halves") "__init__")) (fMha_invert := (He.ma K (He.ga K "Halves") "__invert__")) (fMha_and := (He.ma K (He.ga K "Halves") "__and__")) (fMha_or := (He.ma K (He.ga K "Halves") "__or__")) (fMha_add := (He.ma K (He.ga K "Halves") "__add__")) (Cbo := (He.ga K "Boxes")) (fMbo_init := (He.ma K (He.ga K "Boxes") "__init__")) (fMbo_invert := (He.ma K (He.ga K "Boxes") "__invert__")) (fMbo_and := (He.ma K (He.ga K "Boxes") "__and__")) (fMbo_or := (He.ma K (He.ga K "Boxes") "__or__")) (fMbo_add := (He.ma K (He.ga K "Boxes") "__add__")) (fMbo_proves := (He.ma K (He.ga K "Boxes") "proves")) (Cri := (He.ga K "Rising")) (fMri_init := (He.ma K (He.ga K "Rising") "__init__")) (fMri_invert := (He.ma K (He.ga K "Rising") "__invert__")) (fMri_and := (He.ma K (He.ga K "Rising") "__and__")) (fMri_or := (He.ma K (He.ga K "Rising") "__or__")) (fMri_add := (He.ma K (He.ga K "Rising") "__add__")) (fMri_proves := (He.ma K (He.ga K "Rising") "proves")) (Cfl := (He.ga K "Flats")) (fMfl_init := (He.ma K (He.ga K "Flats") "__init__")) (fMfl_invert := (He.ma K (He.ga K "Flats") "__invert__")) (fMfl_and := (He.ma K (He.ga K "Flats") "__and__")) (fMfl_or := (He.ma K (He.ga K "Flats") "__or__")) (fMfl_add := (He.ma K (He.ga K "Flats") "__add__")) (Ctu := (He.ga K "Turns")) (fMtu_init := (He.ma K (He.ga K "Turns") "__init__")) (fMtu_invert := (He.ma K (He.ga K "Turns") "__invert__")) (fMtu_and := (He.ma K (He.ga K "Turns") "__and__")) (fMtu_or := (He.ma K (He.ga K "Turns") "__or__")) (fMtu_add := (He.ma K (He.ga K "Turns") "__add__")) (fMtu_proves := (He.ma K (He.ga K "Turns") "proves")) (Cco := (He.ga K "Contrary")) (fMco_init := (He.ma K (He.ga K "Contrary") "__init__")) (fMco_invert := (He.ma K (He.ga K "Contrary") "__invert__")) (fMco_and := (He.ma K (He.ga K "Contrary") "__and__")) (fMco_or := (He.ma K (He.ga K "Contrary") "__or__")) (fMco_add := (He.ma K (He.ga K "Contrary") "__add__")) (Cpa := (He.ga K "Pair")) (fMpa_init := (He.ma K (He.ga K "Pair") "__init__")) (fMpa_invert := (He.ma K (He.ga K "Pair") "__invert__")) (fMpa_and := (He.ma K (He.ga K "Pair") "__and__")) (fMpa_or := (He.ma K (He.ga K "Pair") "__or__")) (fMpa_add := (He.ma K (He.ga K "Pair") "__add__")) (CS := (He.ga K "Sample")) (fMS_examples := (He.ma K (He.ga K "Sample") "examples")) (fMS_len := (He.ma K (He.ga K "Sample") "__len__")) (E0 := (He.dflAt ("Sample", some "__init__") 0 K)) (fSI := (He.ma K (He.ga K "Sample") "__init__")) (fIC := (He.ga K "is_certificate")) X G hfa
    (He.eqO_ok (pk c0 0 rfl))
    (c.dfs 0 (l := fd0) rfl 0 rfl)
    (He.eqO_ok (pk c0 1 rfl))
    (c.dfs 0 (l := fd0) rfl 1 rfl)
    (He.eqO_ok (pk c0 2 rfl))
    (c.dfs 0 (l := fd0) rfl 2 rfl)
    (He.eqO_ok (pk c0 3 rfl))
    (c.dfs 0 (l := fd0) rfl 3 rfl)
    (He.eqO_ok (pk c0 4 rfl))
    (c.dfs 0 (l := fd0) rfl 4 rfl)
    (He.eqO_ok (pk c0 5 rfl))
    (c.dfs 0 (l := fd0) rfl 5 rfl)
    (He.eqO_ok (pk c0 6 rfl))
    (c.dfs 0 (l := fd0) rfl 6 rfl)
    (He.eqO_ok (pk c0 7 rfl))
    (c.dfs 0 (l := fd0) rfl 7 rfl)
    (He.eqO_ok (pk c0 8 rfl))
    (c.dfs 0 (l := fd0) rfl 8 rfl)
    (He.eqO_ok (pk c0 9 rfl))
    (c.dfs 0 (l := fd0) rfl 9 rfl)
    (He.eqO_ok (pk c0 10 rfl))
    (c.dfs 0 (l := fd0) rfl 10 rfl)
    (He.eqO_ok (pk c0 11 rfl))
    (c.dfs 0 (l := fd0) rfl 11 rfl)
    (He.eqO_ok (pk c0 12 rfl))
    (c.dfs 0 (l := fd0) rfl 12 rfl)
    (He.eqO_ok (pk c0 13 rfl))
    (c.dfs 0 (l := fd0) rfl 13 rfl)
    (He.eqO_ok (pk c0 14 rfl))
    (c.dfs 0 (l := fd0) rfl 14 rfl)
    (He.eqO_ok (pk c0 15 rfl))
    (c.dfs 1 (l := fd1) rfl 0 rfl)
    (He.eqO_ok (pk c0 16 rfl))
    (c.dfs 1 (l := fd1) rfl 1 rfl)
    (He.eqO_ok (pk c0 17 rfl))
    (c.dfs 1 (l := fd1) rfl 2 rfl)
    (He.eqO_ok (pk c0 18 rfl))
    (c.dfs 1 (l := fd1) rfl 3 rfl)
    (He.eqO_ok (pk c0 19 rfl))
    (c.dfs 1 (l := fd1) rfl 4 rfl)
    (He.eqO_ok (pk c0 20 rfl))
    (c.dfs 1 (l := fd1) rfl 5 rfl)
    (He.eqO_ok (pk c0 21 rfl))
    (c.dfs 1 (l := fd1) rfl 6 rfl)
    (He.eqO_ok (pk c0 22 rfl))
    (c.dfs 1 (l := fd1) rfl 7 rfl)
    (He.eqO_ok (pk c0 23 rfl))
    (c.dfs 1 (l := fd1) rfl 8 rfl)
    (He.eqO_ok (pk c0 24 rfl))
    (c.dfs 1 (l := fd1) rfl 9 rfl)
    (He.eqO_ok (pk c0 25 rfl))
    (c.dfs 1 (l := fd1) rfl 10 rfl)
    (He.eqO_ok (pk c0 26 rfl))
    (c.dfs 1 (l := fd1) rfl 11 rfl)
    (He.eqO_ok (pk c0 27 rfl))
    (c.dfs 1 (l := fd1) rfl 12 rfl)
    (He.eqO_ok (pk c0 28 rfl))
    (c.dfs 1 (l := fd1) rfl 13 rfl)
    (He.eqO_ok (pk c0 29 rfl))
    (c.dfs 1 (l := fd1) rfl 14 rfl)
    (He.eqO_ok (pk c1 0 rfl))
    (c.dfs 2 (l := fd2) rfl 0 rfl)
    (He.eqO_ok (pk c1 1 rfl))
    (c.dfs 2 (l := fd2) rfl 1 rfl)
    (He.eqO_ok (pk c1 2 rfl))
    (c.dfs 2 (l := fd2) rfl 2 rfl)
    (He.eqO_ok (pk c1 3 rfl))
    (c.dfs 2 (l := fd2) rfl 3 rfl)
    (He.eqO_ok (pk c1 4 rfl))
    (c.dfs 2 (l := fd2) rfl 4 rfl)
    (He.eqO_ok (pk c1 5 rfl))
    (c.dfs 2 (l := fd2) rfl 5 rfl)
    (He.eqO_ok (pk c1 6 rfl))
    (c.dfs 2 (l := fd2) rfl 6 rfl)
    (He.eqO_ok (pk c1 7 rfl))
    (c.dfs 2 (l := fd2) rfl 7 rfl)
    (He.eqO_ok (pk c1 8 rfl))
    (c.dfs 2 (l := fd2) rfl 8 rfl)
    (He.eqO_ok (pk c1 9 rfl))
    (c.dfs 2 (l := fd2) rfl 9 rfl)
    (He.eqO_ok (pk c1 10 rfl))
    (c.dfs 2 (l := fd2) rfl 10 rfl)
    (He.eqO_ok (pk c1 11 rfl))
    (c.dfs 2 (l := fd2) rfl 11 rfl)
    (He.eqO_ok (pk c1 12 rfl))
    (c.dfs 2 (l := fd2) rfl 12 rfl)
    (He.eqO_ok (pk c1 13 rfl))
    (pk c1 14 rfl)
    (pk c1 15 rfl)
    (pk c1 16 rfl)
    (He.eqO_ok (pk c1 17 rfl))
    (pk c1 18 rfl)
    (pk c1 19 rfl)
    (pk c1 20 rfl)
    (He.eqO_ok (pk c1 21 rfl))
    (He.eqO_ok (pk c1 22 rfl))
    (He.eqO_ok (pk c1 23 rfl))
    (He.eqO_ok (pk c1 24 rfl))
    (He.eqO_ok (pk c1 25 rfl))
    (He.eqO_ok (pk c1 26 rfl))
    (He.eqO_ok (pk c1 27 rfl))
    (He.eqO_ok (pk c1 28 rfl))
    (He.eqO_ok (pk c1 29 rfl))
    (He.eqO_ok (pk c2 0 rfl))
    (He.eqO_ok (pk c2 1 rfl))
    (eqB_ok (pk c2 2 rfl))
    (pk c2 3 rfl)
    (eqV_ok (pk c2 4 rfl))
    (eqB_ok (pk c2 5 rfl))
    (He.eqO_ok (pk c2 6 rfl))
    (pk c2 7 rfl)
    (c.dfs 2 (l := fd2) rfl 13 rfl)
    (He.eqO_ok (pk c2 8 rfl))
    (pk c2 9 rfl)
    (c.dfs 2 (l := fd2) rfl 14 rfl)
    (He.eqO_ok (pk c2 10 rfl))
    (pk c2 11 rfl)
    (c.dfs 3 (l := fd3) rfl 0 rfl)
    (He.eqO_ok (pk c2 12 rfl))
    (pk c2 13 rfl)
    (c.dfs 3 (l := fd3) rfl 1 rfl)
    (He.eqO_ok (pk c2 14 rfl))
    (pk c2 15 rfl)
    (c.dfs 3 (l := fd3) rfl 2 rfl)
    (He.eqO_ok (pk c2 16 rfl))
    (pk c2 17 rfl)
    (pk c2 18 rfl)
    (pk c2 19 rfl)
    (He.eqO_ok (pk c2 20 rfl))
    (pk c2 21 rfl)
    (pk c2 22 rfl)
    (pk c2 23 rfl)
    (He.eqO_ok (pk c2 24 rfl))
    (He.eqO_ok (pk c2 25 rfl))
    (He.eqO_ok (pk c2 26 rfl))
    (He.eqO_ok (pk c2 27 rfl))
    (He.eqO_ok (pk c2 28 rfl))
    (He.eqO_ok (pk c2 29 rfl))
    (He.eqO_ok (pk c3 0 rfl))
    (He.eqO_ok (pk c3 1 rfl))
    (He.eqO_ok (pk c3 2 rfl))
    (He.eqO_ok (pk c3 3 rfl))
    (He.eqO_ok (pk c3 4 rfl))
    (eqB_ok (pk c3 5 rfl))
    (pk c3 6 rfl)
    (eqV_ok (pk c3 7 rfl))
    (eqB_ok (pk c3 8 rfl))
    (He.eqO_ok (pk c3 9 rfl))
    (pk c3 10 rfl)
    (c.dfs 3 (l := fd3) rfl 3 rfl)
    (He.eqO_ok (pk c3 11 rfl))
    (pk c3 12 rfl)
    (c.dfs 3 (l := fd3) rfl 4 rfl)
    (He.eqO_ok (pk c3 13 rfl))
    (pk c3 14 rfl)
    (c.dfs 3 (l := fd3) rfl 5 rfl)
    (He.eqO_ok (pk c3 15 rfl))
    (pk c3 16 rfl)
    (c.dfs 3 (l := fd3) rfl 6 rfl)
    (He.eqO_ok (pk c3 17 rfl))
    (pk c3 18 rfl)
    (c.dfs 3 (l := fd3) rfl 7 rfl)
    (He.eqO_ok (pk c3 19 rfl))
    (pk c3 20 rfl)
    (c.dfs 3 (l := fd3) rfl 8 rfl)
    (He.eqO_ok (pk c3 21 rfl))
    (pk c3 22 rfl)
    (pk c3 23 rfl)
    (pk c3 24 rfl)
    (He.eqO_ok (pk c3 25 rfl))
    (pk c3 26 rfl)
    (pk c3 27 rfl)
    (pk c3 28 rfl)
    (He.eqO_ok (pk c3 29 rfl))
    (He.eqO_ok (pk c4 0 rfl))
    (He.eqO_ok (pk c4 1 rfl))
    (He.eqO_ok (pk c4 2 rfl))
    (He.eqO_ok (pk c4 3 rfl))
    (He.eqO_ok (pk c4 4 rfl))
    (He.eqO_ok (pk c4 5 rfl))
    (He.eqO_ok (pk c4 6 rfl))
    (He.eqO_ok (pk c4 7 rfl))
    (He.eqO_ok (pk c4 8 rfl))
    (He.eqO_ok (pk c4 9 rfl))
    (eqB_ok (pk c4 10 rfl))
    (pk c4 11 rfl)
    (eqV_ok (pk c4 12 rfl))
    (eqB_ok (pk c4 13 rfl))
    (He.eqO_ok (pk c4 14 rfl))
    (pk c4 15 rfl)
    (c.dfs 3 (l := fd3) rfl 9 rfl)
    (He.eqO_ok (pk c4 16 rfl))
    (pk c4 17 rfl)
    (c.dfs 3 (l := fd3) rfl 10 rfl)
    (He.eqO_ok (pk c4 18 rfl))
    (pk c4 19 rfl)
    (c.dfs 3 (l := fd3) rfl 11 rfl)
    (He.eqO_ok (pk c4 20 rfl))
    (pk c4 21 rfl)
    (c.dfs 3 (l := fd3) rfl 12 rfl)
    (He.eqO_ok (pk c4 22 rfl))
    (pk c4 23 rfl)
    (c.dfs 3 (l := fd3) rfl 13 rfl)
    (He.eqO_ok (pk c4 24 rfl))
    (pk c4 25 rfl)
    (c.dfs 3 (l := fd3) rfl 14 rfl)
    (He.eqO_ok (pk c4 26 rfl))
    (pk c4 27 rfl)
    (pk c4 28 rfl)
    (pk c4 29 rfl)
    (He.eqO_ok (pk c5 0 rfl))
    (pk c5 1 rfl)
    (pk c5 2 rfl)
    (pk c5 3 rfl)
    (He.eqO_ok (pk c5 4 rfl))
    (He.eqO_ok (pk c5 5 rfl))
    (He.eqO_ok (pk c5 6 rfl))
    (He.eqO_ok (pk c5 7 rfl))
    (He.eqO_ok (pk c5 8 rfl))
    (He.eqO_ok (pk c5 9 rfl))
    (He.eqO_ok (pk c5 10 rfl))
    (He.eqO_ok (pk c5 11 rfl))
    (He.eqO_ok (pk c5 12 rfl))
    (He.eqO_ok (pk c5 13 rfl))
    (He.eqO_ok (pk c5 14 rfl))
    (eqB_ok (pk c5 15 rfl))
    (pk c5 16 rfl)
    (eqV_ok (pk c5 17 rfl))
    (eqB_ok (pk c5 18 rfl))
    (He.eqO_ok (pk c5 19 rfl))
    (pk c5 20 rfl)
    (c.dfs 4 (l := fd4) rfl 0 rfl)
    (He.eqO_ok (pk c5 21 rfl))
    (pk c5 22 rfl)
    (c.dfs 4 (l := fd4) rfl 1 rfl)
    (He.eqO_ok (pk c5 23 rfl))
    (pk c5 24 rfl)
    (c.dfs 4 (l := fd4) rfl 2 rfl)
    (He.eqO_ok (pk c5 25 rfl))
    (pk c5 26 rfl)
    (c.dfs 4 (l := fd4) rfl 3 rfl)
    (He.eqO_ok (pk c5 27 rfl))
    (pk c5 28 rfl)
    (c.dfs 4 (l := fd4) rfl 4 rfl)
    (He.eqO_ok (pk c5 29 rfl))
    (pk c6 0 rfl)
    (pk c6 1 rfl)
    (pk c6 2 rfl)
    (He.eqO_ok (pk c6 3 rfl))
    (pk c6 4 rfl)
    (pk c6 5 rfl)
    (pk c6 6 rfl)
    (He.eqO_ok (pk c6 7 rfl))
    (He.eqO_ok (pk c6 8 rfl))
    (He.eqO_ok (pk c6 9 rfl))
    (He.eqO_ok (pk c6 10 rfl))
    (He.eqO_ok (pk c6 11 rfl))
    (He.eqO_ok (pk c6 12 rfl))
    (He.eqO_ok (pk c6 13 rfl))
    (He.eqO_ok (pk c6 14 rfl))
    (He.eqO_ok (pk c6 15 rfl))
    (He.eqO_ok (pk c6 16 rfl))
    (He.eqO_ok (pk c6 17 rfl))
    (eqB_ok (pk c6 18 rfl))
    (pk c6 19 rfl)
    (eqV_ok (pk c6 20 rfl))
    (eqB_ok (pk c6 21 rfl))
    (He.eqO_ok (pk c6 22 rfl))
    (pk c6 23 rfl)
    (c.dfs 4 (l := fd4) rfl 5 rfl)
    (He.eqO_ok (pk c6 24 rfl))
    (pk c6 25 rfl)
    (c.dfs 4 (l := fd4) rfl 6 rfl)
    (He.eqO_ok (pk c6 26 rfl))
    (pk c6 27 rfl)
    (c.dfs 4 (l := fd4) rfl 7 rfl)
    (He.eqO_ok (pk c6 28 rfl))
    (pk c6 29 rfl)
    (c.dfs 4 (l := fd4) rfl 8 rfl)
    (He.eqO_ok (pk c7 0 rfl))
    (pk c7 1 rfl)
    (c.dfs 4 (l := fd4) rfl 9 rfl)
    (He.eqO_ok (pk c7 2 rfl))
    (pk c7 3 rfl)
    (c.dfs 4 (l := fd4) rfl 10 rfl)
    (He.eqO_ok (pk c7 4 rfl))
    (pk c7 5 rfl)
    (pk c7 6 rfl)
    (pk c7 7 rfl)
    (He.eqO_ok (pk c7 8 rfl))
    (pk c7 9 rfl)
    (pk c7 10 rfl)
    (pk c7 11 rfl)
    (He.eqO_ok (pk c7 12 rfl))
    (He.eqO_ok (pk c7 13 rfl))
    (He.eqO_ok (pk c7 14 rfl))
    (He.eqO_ok (pk c7 15 rfl))
    (He.eqO_ok (pk c7 16 rfl))
    (He.eqO_ok (pk c7 17 rfl))
    (He.eqO_ok (pk c7 18 rfl))
    (He.eqO_ok (pk c7 19 rfl))
    (He.eqO_ok (pk c7 20 rfl))
    (He.eqO_ok (pk c7 21 rfl))
    (He.eqO_ok (pk c7 22 rfl))
    (eqB_ok (pk c7 23 rfl))
    (pk c7 24 rfl)
    (eqV_ok (pk c7 25 rfl))
    (eqB_ok (pk c7 26 rfl))
    (He.eqO_ok (pk c7 27 rfl))
    (pk c7 28 rfl)
    (c.dfs 4 (l := fd4) rfl 11 rfl)
    (He.eqO_ok (pk c7 29 rfl))
    (pk c8 0 rfl)
    (c.dfs 4 (l := fd4) rfl 12 rfl)
    (He.eqO_ok (pk c8 1 rfl))
    (pk c8 2 rfl)
    (c.dfs 4 (l := fd4) rfl 13 rfl)
    (He.eqO_ok (pk c8 3 rfl))
    (pk c8 4 rfl)
    (c.dfs 4 (l := fd4) rfl 14 rfl)
    (He.eqO_ok (pk c8 5 rfl))
    (pk c8 6 rfl)
    (c.dfs 5 (l := fd5) rfl 0 rfl)
    (He.eqO_ok (pk c8 7 rfl))
    (pk c8 8 rfl)
    (pk c8 9 rfl)
    (pk c8 10 rfl)
    (He.eqO_ok (pk c8 11 rfl))
    (pk c8 12 rfl)
    (pk c8 13 rfl)
    (pk c8 14 rfl)
    (He.eqO_ok (pk c8 15 rfl))
    (He.eqO_ok (pk c8 16 rfl))
    (He.eqO_ok (pk c8 17 rfl))
    (He.eqO_ok (pk c8 18 rfl))
    (He.eqO_ok (pk c8 19 rfl))
    (He.eqO_ok (pk c8 20 rfl))
    (He.eqO_ok (pk c8 21 rfl))
    (He.eqO_ok (pk c8 22 rfl))
    (He.eqO_ok (pk c8 23 rfl))
    (He.eqO_ok (pk c8 24 rfl))
    (He.eqO_ok (pk c8 25 rfl))
    (eqB_ok (pk c8 26 rfl))
    (pk c8 27 rfl)
    (eqV_ok (pk c8 28 rfl))
    (eqB_ok (pk c8 29 rfl))
    (He.eqO_ok (pk c9 0 rfl))
    (pk c9 1 rfl)
    (c.dfs 5 (l := fd5) rfl 1 rfl)
    (He.eqO_ok (pk c9 2 rfl))
    (pk c9 3 rfl)
    (c.dfs 5 (l := fd5) rfl 2 rfl)
    (He.eqO_ok (pk c9 4 rfl))
    (pk c9 5 rfl)
    (c.dfs 5 (l := fd5) rfl 3 rfl)
    (He.eqO_ok (pk c9 6 rfl))
    (pk c9 7 rfl)
    (c.dfs 5 (l := fd5) rfl 4 rfl)
    (He.eqO_ok (pk c9 8 rfl))
    (pk c9 9 rfl)
    (c.dfs 5 (l := fd5) rfl 5 rfl)
    (eqB_ok (pk c9 10 rfl))
    (eqB_ok (pk c9 11 rfl))
    (eqB_ok (pk c9 12 rfl))
    (eqB_ok (pk c9 13 rfl))
    (eqB_ok (pk c9 14 rfl))
    (eqB_ok (pk c9 15 rfl))
    (eqB_ok (pk c9 16 rfl))
    (eqB_ok (pk c9 17 rfl))
    (eqB_ok (pk c9 18 rfl))
    (eqB_ok (pk c9 19 rfl))
    (eqB_ok (pk c9 20 rfl))
    (eqB_ok (pk c9 21 rfl))
    (eqB_ok (pk c9 22 rfl))
    (eqB_ok (pk c9 23 rfl))
    (eqB_ok (pk c9 24 rfl))
    (eqB_ok (pk c9 25 rfl))
    (eqB_ok (pk c9 26 rfl))
    (eqB_ok (pk c9 27 rfl))
    (eqB_ok (pk c9 28 rfl))
    (eqB_ok (pk c9 29 rfl))
    (eqB_ok (pk c10 0 rfl))
    (eqB_ok (pk c10 1 rfl))
    (eqB_ok (pk c10 2 rfl))
    (eqB_ok (pk c10 3 rfl))
    (eqB_ok (pk c10 4 rfl))
    (eqB_ok (pk c10 5 rfl))
    (eqB_ok (pk c10 6 rfl))
    (eqB_ok (pk c10 7 rfl))
    (eqB_ok (pk c10 8 rfl))
    (eqB_ok (pk c10 9 rfl))
    (eqB_ok (pk c10 10 rfl))
    (eqB_ok (pk c10 11 rfl))
    (eqB_ok (pk c10 12 rfl))
    (eqB_ok (pk c10 13 rfl))
    (eqB_ok (pk c10 14 rfl))
    (eqB_ok (pk c10 15 rfl))
    (eqB_ok (pk c10 16 rfl))
    (eqB_ok (pk c10 17 rfl))
    (eqB_ok (pk c10 18 rfl))
    (eqB_ok (pk c10 19 rfl))
    (eqB_ok (pk c10 20 rfl))
    (eqB_ok (pk c10 21 rfl))
    (He.eqO_ok (pk c10 22 rfl))
    (eqB_ok (pk c10 23 rfl))
    (He.eqO_ok (pk c10 24 rfl))
    (pk c10 25 rfl)
    (pk c10 26 rfl)
    (pk c10 27 rfl)
    (He.eqO_ok (pk c10 28 rfl))
    (pk c10 29 rfl)
    (pk c11 0 rfl)
    (He.eqO_ok (pk c11 1 rfl))
    (He.eqO_ok (pk c11 2 rfl))
    (He.eqO_ok (pk c11 3 rfl))
    (eqB_ok (pk c11 4 rfl))
    (He.eqO_ok (pk c11 5 rfl))
    (pk c11 6 rfl)
    (c.dfs 5 (l := fd5) rfl 6 rfl)
    (He.eqO_ok (pk c11 7 rfl))
    (pk c11 8 rfl)
    (c.dfs 5 (l := fd5) rfl 7 rfl)
    (He.eqO_ok (pk c11 9 rfl))
    (pk c11 10 rfl)
    (c.dfs 5 (l := fd5) rfl 8 rfl)
    (He.eqO_ok (pk c11 11 rfl))
    (c.dfs 5 (l := fd5) rfl 9 rfl)
    (gInt_ok (pk c11 12 rfl))
    (gInt_ok (pk c11 13 rfl))
    (gInt_ok (pk c11 14 rfl))
    (He.eqO_ok (pk c11 15 rfl))
    (He.eqO_ok (pk c11 16 rfl))
    (He.eqO_ok (pk c11 17 rfl))
    (He.eqO_ok (pk c11 18 rfl))
    (He.eqO_ok (pk c11 19 rfl))
    (He.eqO_ok (pk c11 20 rfl))
    (He.eqO_ok (pk c11 21 rfl))
    (He.eqO_ok (pk c11 22 rfl))
    (He.eqO_ok (pk c11 23 rfl))
    (He.eqO_ok (pk c11 24 rfl))
    (He.eqO_ok (pk c11 25 rfl))
    (He.eqO_ok (pk c11 26 rfl))
    (He.eqO_ok (pk c11 27 rfl))
    (He.eqO_ok (pk c11 28 rfl))
end U
set_option Elab.async false
set_option linter.all false
set_option maxRecDepth 100000
set_option maxHeartbeats 0
namespace U
open PySem PySem.W PySem.Calls PyProof.Rows
abbrev RR : OpenRow := OpenLaw.row PySem.Challenge.rw_toldenough_k18_certificates_by_any_numbe
abbrev qv : Program := view RR.prog [83]
def nam0 : List PySem.Str := ["_wall", "__name__", "ToldError", "BadPlaces", "BadExample", "UnlikePlaces", "BadMost", "BadLies", "LEAST_PLACES", "MOST_PLACES", "is_integer", "is_integer_or_none", "is_label", "is_row", "is_row_of", "is_form", "is_number_of", "is_number_of_places", "is_point", "is_example"]
def nam1 : List PySem.Str := ["copied_example", "check_places", "check_lies", "is_meet", "is_span", "_are_weights", "_weighted", "is_between", "_encloses", "is_above", "_lies_below", "is_turning", "GREATEST_MOST", "Halves", "Boxes", "Rising", "Flats", "Turns", "Contrary", "Pair"]
def nam2 : List PySem.Str := ["_check_number_of_places", "_is_row_of_bounds", "numbers_of", "_pairs", "_row_numbers", "is_certificate", "_is_proof", "_without", "_is_plain", "_is_tree", "_is_leaf", "Sample", "_law_source", "_law_draw", "_law_pick", "_law_same", "_law_point", "_law_rows", "_law_built", "_law_is_list"]
def nam3 : List PySem.Str := ["_law_is_int", "_law_headed", "_law_is_pairs", "_law_labelled", "_law_total", "_law_turned_view", "_law_shows", "_law_around", "_law_shows_turns", "_law_tree", "_law_view", "_law_shows_half", "_law_written", "_law_trees_right"]
def nams : List PySem.Str := nam0 ++ nam1 ++ nam2 ++ nam3
def frd0 : List Addr := [3, 31, 51, 70, 82, 101, 120, 354, 450, 546, 642, 738, 815, 892, 1057, 2, 30, 50, 69, 81, 100, 119, 353, 449, 545, 641, 737, 814, 891, 927, 1056, 21, 48, 67, 98, 117, 129, 136, 143, 150]
def frd1 : List Addr := [157, 164, 171, 178, 183, 190, 197, 204, 211, 216, 221, 228, 233, 238, 243, 250, 255, 260, 274, 281, 288, 295, 302, 309, 316, 323, 330, 337, 344, 351, 372, 377, 384, 391, 398, 405, 412, 419, 426, 433]
def frd2 : List Addr := [440, 447, 468, 473, 480, 487, 494, 501, 508, 515, 522, 529, 536, 543, 564, 569, 576, 583, 590, 597, 604, 611, 618, 625, 632, 639, 660, 665, 672, 679, 686, 693, 700, 707, 714, 721, 728, 735, 756, 763]
def frd3 : List Addr := [770, 777, 784, 791, 798, 805, 812, 833, 840, 847, 854, 861, 868, 875, 882, 889, 903, 908, 913, 920, 925, 932, 939, 944, 951, 958, 965, 979, 986, 993, 1000, 1007, 1012, 1019, 1026, 1033, 1040, 1047, 1054, 1068]
def frd4 : List Addr := [1075, 1082, 1087, 1092, 1099, 1106, 1113, 1120, 1127, 1132, 1139, 1144, 1149, 1154, 1161, 1166, 1171, 1176, 1181, 1186, 1193, 1198, 15, 17, 18, 22, 29, 35, 42, 44, 45, 49, 54, 61, 63, 64, 68, 73, 80, 85]
def frd5 : List Addr := [92, 94, 95, 99, 104, 111, 113, 114, 118, 123, 125, 126, 130, 132, 133, 137, 139, 140, 144, 146, 147, 151, 153, 154, 158, 160, 161, 165, 167, 168, 172, 174, 175, 179, 184, 186, 187, 191, 193, 194]
def frd6 : List Addr := [198, 200, 201, 205, 207, 208, 212, 217, 222, 224, 225, 229, 234, 239, 244, 246, 247, 251, 256, 268, 270, 271, 275, 277, 278, 282, 284, 285, 289, 291, 292, 296, 298, 299, 303, 305, 306, 310, 312, 313]
def frd7 : List Addr := [317, 319, 320, 324, 326, 327, 331, 333, 334, 338, 340, 341, 345, 347, 348, 352, 366, 368, 369, 373, 378, 380, 381, 385, 387, 388, 392, 394, 395, 399, 401, 402, 406, 408, 409, 413, 415, 416, 420, 422]
def frd8 : List Addr := [423, 427, 429, 430, 434, 436, 437, 441, 443, 444, 448, 462, 464, 465, 469, 474, 476, 477, 481, 483, 484, 488, 490, 491, 495, 497, 498, 502, 504, 505, 509, 511, 512, 516, 518, 519, 523, 525, 526, 530]
def frd9 : List Addr := [532, 533, 537, 539, 540, 544, 558, 560, 561, 565, 570, 572, 573, 577, 579, 580, 584, 586, 587, 591, 593, 594, 598, 600, 601, 605, 607, 608, 612, 614, 615, 619, 621, 622, 626, 628, 629, 633, 635, 636]
def frd10 : List Addr := [640, 654, 656, 657, 661, 666, 668, 669, 673, 675, 676, 680, 682, 683, 687, 689, 690, 694, 696, 697, 701, 703, 704, 708, 710, 711, 715, 717, 718, 722, 724, 725, 729, 731, 732, 736, 750, 752, 753, 757]
def frd11 : List Addr := [759, 760, 764, 766, 767, 771, 773, 774, 778, 780, 781, 785, 787, 788, 792, 794, 795, 799, 801, 802, 806, 808, 809, 813, 827, 829, 830, 834, 836, 837, 841, 843, 844, 848, 850, 851, 855, 857, 858, 862]
def frd12 : List Addr := [864, 865, 869, 871, 872, 876, 878, 879, 883, 885, 886, 890, 897, 899, 900, 904, 909, 914, 916, 917, 921, 926, 928, 933, 935, 936, 940, 945, 947, 948, 952, 954, 955, 959, 961, 962, 973, 974, 975, 980]
def frd13 : List Addr := [982, 983, 987, 989, 990, 994, 996, 997, 1001, 1003, 1004, 1008, 1013, 1015, 1016, 1020, 1022, 1023, 1027, 1029, 1030, 1034, 1036, 1037, 1041, 1043, 1044, 1048, 1050, 1051, 1055, 1062, 1064, 1065, 1069, 1071, 1072, 1076, 1078, 1079]
def frd14 : List Addr := [1083, 1088, 1093, 1095, 1096, 1100, 1102, 1103, 1107, 1109, 1110, 1114, 1116, 1117, 1121, 1123, 1124, 1128, 1133, 1135, 1136, 1140, 1145, 1150, 1155, 1157, 1158, 1162, 1167, 1172, 1177, 1182, 1187, 1189, 1190, 1194, 20, 32, 47, 66]
def frd15 : List Addr := [97, 116, 128, 135, 142, 149, 156, 163, 170, 177, 182, 189, 196, 203, 210, 215, 220, 227, 232, 237, 242, 249, 254, 259, 273, 280, 287, 294, 301, 308, 315, 322, 329, 336, 343, 350, 355, 356, 371, 376]
def frd16 : List Addr := [383, 390, 397, 404, 411, 418, 425, 432, 439, 446, 451, 452, 467, 472, 479, 486, 493, 500, 507, 514, 521, 528, 535, 542, 547, 548, 563, 568, 575, 582, 589, 596, 603, 610, 617, 624, 631, 638, 643, 644]
def frd17 : List Addr := [659, 664, 671, 678, 685, 692, 699, 706, 713, 720, 727, 734, 739, 740, 755, 762, 769, 776, 783, 790, 797, 804, 811, 816, 817, 832, 839, 846, 853, 860, 867, 874, 881, 888, 893, 894, 902, 907, 912, 919]
def frd18 : List Addr := [924, 931, 938, 943, 950, 957, 964, 978, 985, 992, 999, 1006, 1011, 1018, 1025, 1032, 1039, 1046, 1053, 1058, 1059, 1067, 1074, 1081, 1086, 1091, 1098, 1105, 1112, 1119, 1126, 1131, 1138, 1143, 1148, 1153, 1160, 1165, 1170, 1175]
def frd19 : List Addr := [1180, 1185, 1192, 1197]
def frds : List Addr := frd0 ++ frd1 ++ frd2 ++ frd3 ++ frd4 ++ frd5 ++ frd6 ++ frd7 ++ frd8 ++ frd9 ++ frd10 ++ frd11 ++ frd12 ++ frd13 ++ frd14 ++ frd15 ++ frd16 ++ frd17 ++ frd18 ++ frd19
abbrev hk : Hook := hookF frds fls.flatten fds.flatten
def ob (s : SharedT) : AlF := obsFG frds fls.flatten fds.flatten (HandSHeadRun.getT s)
theorem ob_eq (s : SharedT) : ob s = hk.obs s.abs := obsFG_eq (HandSHeadRun.getT_eq s)
theorem run (w : World) : HandSHeadRun.RunEq RR qv hk ob 9000 nams w := by
  intro os
  kernel_rfl
end U
open PySem PySem.W PySem.Calls PyProof.Rows
theorem PySem.Challenge.cw_toldenough_k18_certificates_by_any_numbe_holds : PySem.Challenge.rw_toldenough_k18_certificates_by_any_numbe.Holds := by
  w_on; o_law
  refine HandSHeadRun.head_any (r := OpenLaw.row PySem.Challenge.rw_toldenough_k18_certificates_by_any_numbe) (q := view (OpenLaw.row PySem.Challenge.rw_toldenough_k18_certificates_by_any_numbe).prog [83]) (H := U.hk) (ob := U.ob) (M := 9000) (loose := U.nams) (d := HandSHeadRun.topDef (OpenLaw.row PySem.Challenge.rw_toldenough_k18_certificates_by_any_numbe).prog 83) (kwd := []) U.ob_eq
    (by kernel_rfl) (fun s => by kernel_rfl) U.run (by kernel_rfl) (by kernel_rfl) (by kernel_rfl) (by rfl) (by first | assumption | decide +kernel) (by decide +kernel) ⟨rfl, rfl, rfl, rfl, rfl, by decide +kernel⟩ ?hw ?hc
  case hw => w_witness2
  case hc =>
    refine L2.walk_ofE (l := PySem.Challenge.rw_toldenough_k18_certificates_by_any_numbe) (n := 63) (k := 60) (x := "_law_script") (CX := L2.CX0) rfl (by decide) (by kernel_rfl) ⟨rfl, by decide, by decide⟩ ?F (fun _ _ _ _ z => z)
    intro w mg fa h Y G hmg0
    obtain ⟨K, KX, c⟩ := Y
    have hmg : mg ("law" : PySem.Str) = some (.ref fa) := by
      have e : (HandSHeadRun.topDef (OpenLaw.row PySem.Challenge.rw_toldenough_k18_certificates_by_any_numbe).prog 83).name = ("law" : PySem.Str) := by kernel_rfl
      rw [← e]
      exact hmg0
    obtain ⟨fd, hb, hF⟩ := U.all_of (l := PySem.Challenge.rw_toldenough_k18_certificates_by_any_numbe) (w := w) KX G hmg c
    exact ⟨K, fd, U.spLaw18 K, KX, hb, U.spLaw18_use, hF⟩

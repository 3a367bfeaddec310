import PyProof.Rows.All
import Wide.All
import OpenK.AllK
import Wide.FinOn
import PyProof.EqAt
import PyProof.EqKinds
import PyProof.TupleCall
import HandS.Base
import HandS.Call
import HandS.List
import HandS.Comp
import HandS.Ends
import HandS.Dict
import HandS.Iter
import HandS.Words
import HandS.WordsList
import HandS.Evl
import HandS.Zip
import HandS.IsInst
import HandS.Walk
import KE.GoesEnum
import KE.GoesMore
import HandS.Exc
import HandS.ExcOwn
import HandS.ExcInit
import HandS.ExcValue
import KE.KExcIs
import HandS.ExcField
import HandS.OwnEq
import HandS.TupAny
import HandS.Codes
import HandS.TryOnly
import HandS.WordsExc
import PySem.Challenge.RW_toldenough_k45_texts_of_samples_refused
import HandS.Defaults
import HandS.Steps
import KE.KUnpackStar
import KE.GoesEnumKw
import PyProof.Rows.CallKwBuiltin
import HandS.Text
import HandS.StrMore
import HandS.FStr
import KE.IntTextLaws
import PyProof.StrLawsAffix
import PyProof.StrLawsChain
import HandS.Deep
import PyProof.ListStr
import PyProof.StrBlock2
import HandS.ForMost
set_option Elab.async false
set_option linter.all false
set_option maxRecDepth 100000
set_option maxHeartbeats 2000000
namespace U
open PySem L2
open Evl (Ex)
/-! ### heaps with hidden cells -/
/-- H without the cells of L -/
def W (L : List Addr) (H : Hp) : Hp := fun a => if a ∈ L then none else H a
/-- the hidden cells stand in H -/
def Hid (L : List Addr) (H : Hp) : Prop := ∀ a ∈ L, H a ≠ none
section
variable {L : List Addr} {H H' H2 : Hp} {a p : Addr} {o u : HO}
theorem w_in (h : W L H a = some o) : H a = some o ∧ a ∉ L := by
  unfold W at h
  by_cases e : a ∈ L
  · rw [if_pos e] at h
    cases h
  · rw [if_neg e] at h
    exact ⟨h, e⟩
theorem w_of (n : a ∉ L) (h : H a = some o) : W L H a = some o := by
  unfold W
  rw [if_neg n]
  exact h
theorem w_sub : Ex (W L H) H := fun a o h => (w_in h).1
theorem w_ex (e : Ex H H') : Ex (W L H) (W L H') := fun a o h => w_of (w_in h).2 (e a o (w_in h).1)
theorem w_nil : W [] H = H := by
  funext a
  unfold W
  rw [if_neg (by simp)]
theorem hid_nil : Hid [] H := fun _ h => by cases h
theorem hid_ex (e : Ex H H') (h : Hid L H) : Hid L H' := fun a m z => by
  cases q : H a with
  | none => exact h a m q
  | some o =>
    have r := e a o q
    rw [z] at r
    cases r
theorem hid_not (h : Hid L H) (n : H p = none) : p ∉ L := fun m => h p m n
theorem w_new (h : Hid L H) (n : H p = none) : W L (upd H p o) p = some o := w_of (hid_not h n) upd_same
theorem w_upd_in (m : p ∈ L) : W L (upd H p o) = W L H := by
  funext a
  unfold W
  by_cases e : a ∈ L
  · rw [if_pos e, if_pos e]
  · rw [if_neg e, if_neg e, upd_ne (fun z => e (by rw [z]; exact m))]
theorem w_sub2 {L2 : List Addr} (s : ∀ a ∈ L, a ∈ L2) : Ex (W L2 H) (W L H) := fun a o h => w_of (fun m => (w_in h).2 (s a m)) (w_in h).1
theorem hid_upd (h : Hid L H) : Hid L (upd H p o) := fun a m z => by
  by_cases e : a = p
  · rw [e, upd_same] at z
    cases z
  · rw [upd_ne e] at z
    exact h a m z
end
/-! ### data that stands -/
section
variable {K : PySem.W.Frag} {H H' : Hp}
mutual
theorem dp_mono (e : Ex H H') : ∀ (d : PyData) (v : V), Dp K H v d → Dp K H' v d
  | .none, _, h => by cases h; exact .non
  | .bool _, _, h => by cases h; exact .bl _
  | .int _, _, h => by cases h; exact .int _
  | .str _, _, h => by cases h; exact .str _
  | .list ds, _, h => by
    cases h with
    | lst hs ha => exact .lst (Evl.ex_l e hs) (dpa_mono e ds _ ha)
  | .tuple ds, _, h => by
    cases h with
    | tup hs ha => exact .tup (Evl.ex_t e hs) (dpa_mono e ds _ ha)
  | .dict _, _, h => by cases h
theorem dpa_mono (e : Ex H H') : ∀ (ds : List PyData) (vs : List V), DpAll K H vs ds → DpAll K H' vs ds
  | [], _, h => by cases h; exact .nil
  | d :: ds, _, h => by
    cases h with
    | cons h1 h2 => exact .cons (dp_mono e d _ h1) (dpa_mono e ds _ h2)
end
theorem _root_.L2.Dp.up {v : V} {d : PyData} (h : Dp K H v d) (e : Ex H H') : Dp K H' v d := dp_mono e d v h
theorem _root_.L2.DpAll.up {vs : List V} {ds : List PyData} (h : DpAll K H vs ds) (e : Ex H H') : DpAll K H' vs ds := dpa_mono e ds vs h
theorem dpa_len : ∀ {vs : List V} {ds : List PyData}, DpAll K H vs ds → vs.length = ds.length
  | _, _, .nil => rfl
  | _, _, .cons _ t => congrArg Nat.succ (dpa_len t)
theorem dpa_get : ∀ {vs : List V} {ds : List PyData} {i : Nat} {v : V}, DpAll K H vs ds → vs[i]? = some v → ∃ d, ds[i]? = some d ∧ Dp K H v d
  | _, _, _, _, .nil, e => by simp at e
  | _, _, 0, _, .cons r _, e => by simp at e; subst e; exact ⟨_, rfl, r⟩
  | _, _, i + 1, x, .cons _ t, e => by
    obtain ⟨d, h1, h2⟩ := dpa_get (i := i) (v := x) t (by simpa using e)
    exact ⟨d, by simpa using h1, h2⟩
theorem dpa_get2 : ∀ {vs : List V} {ds : List PyData} {i : Nat} {d : PyData}, DpAll K H vs ds → ds[i]? = some d → ∃ v, vs[i]? = some v ∧ Dp K H v d
  | _, _, _, _, .nil, e => by simp at e
  | _, _, 0, _, .cons r _, e => by simp at e; subst e; exact ⟨_, rfl, r⟩
  | _, _, i + 1, x, .cons _ t, e => by
    obtain ⟨v, h1, h2⟩ := dpa_get2 (i := i) (d := x) t (by simpa using e)
    exact ⟨v, by simpa using h1, h2⟩
theorem dpa_app : ∀ {vs ws : List V} {ds es : List PyData}, DpAll K H vs ds → DpAll K H ws es → DpAll K H (vs ++ ws) (ds ++ es)
  | _, _, _, _, .nil, h => h
  | _, _, _, _, .cons r t, h => .cons r (dpa_app t h)
/-- the type's name -/
def tyOf : PyData → String
  | .none => "NoneType"
  | .bool _ => "bool"
  | .int _ => "int"
  | .str _ => "str"
  | .list _ => "list"
  | .tuple _ => "tuple"
  | .dict _ => "dict"
theorem dp_ty {v : V} {d : PyData} (h : Dp K H v d) : TyX K H v (.type (tyOf d)) := by
  cases h with
  | non => exact .base .non
  | bl b => exact .base (.bl b)
  | int i => exact .base (.int i)
  | str x => exact .base (.str x)
  | lst hs ha =>
    rcases hs with (h | ⟨o, h⟩) | ⟨o, its, n, h, c, _⟩
    · exact .base (.lst h)
    · exact .base (.frz h)
    · exact .kList h c
  | tup hs ha =>
    rcases hs with (h | ⟨o, h⟩) | ⟨o, its, n, h, c, _⟩
    · exact .base (.tup h)
    · exact .fTuple h
    · exact .kTuple h c
/-- isinstance of data: one class, several classes -/
def kitsB (a : String) : List String → Option Bool
  | [] => some false
  | n :: ns => match kitB a n with
    | some true => some true
    | some false => kitsB a ns
    | none => none
theorem kitsB_ok {a : String} : ∀ {ns : List String} {b : Bool}, kitsB a ns = some b → PySem.W.kitAny K (.type a) (ns.map Value.type) = some b
  | [], _, h => h
  | n :: ns, b, h => by
    unfold kitsB at h
    cases q : kitB a n with
    | none => rw [q] at h; cases h
    | some c =>
      rw [q] at h
      cases c with
      | true =>
        cases h
        exact kitAny_cons (kit_ty q) (fun z => by cases z) fun _ => rfl
      | false => exact kitAny_cons (kit_ty q) (fun _ => kitsB_ok h) fun z => by cases z
theorem tys_cls : ∀ {ns : List String}, Paired ClsV (ns.map V.ty) (ns.map Value.type)
  | [] => .nil
  | n :: _ => .cons (.ty n) tys_cls
end
/-! ### what isinstance answers -/
theorem isi_NoneType_list : kitB "NoneType" "list" = some false := by decide +kernel
theorem isi_NoneType_tuple : kitB "NoneType" "tuple" = some false := by decide +kernel
theorem isi_NoneType_bool : kitB "NoneType" "bool" = some false := by decide +kernel
theorem isi_NoneType_int : kitB "NoneType" "int" = some false := by decide +kernel
theorem isi_NoneType_str : kitB "NoneType" "str" = some false := by decide +kernel
theorem isi_NoneType_list_tuple : kitsB "NoneType" ["list", "tuple"] = some false := by decide +kernel
theorem isi_NoneType_bool_int : kitsB "NoneType" ["bool", "int"] = some false := by decide +kernel
theorem isi_NoneType_bool_int_list_tuple : kitsB "NoneType" ["bool", "int", "list", "tuple"] = some false := by decide +kernel
theorem isi_bool_list : kitB "bool" "list" = some false := by decide +kernel
theorem isi_bool_tuple : kitB "bool" "tuple" = some false := by decide +kernel
theorem isi_bool_bool : kitB "bool" "bool" = some true := by decide +kernel
theorem isi_bool_int : kitB "bool" "int" = some true := by decide +kernel
theorem isi_bool_str : kitB "bool" "str" = some false := by decide +kernel
theorem isi_bool_list_tuple : kitsB "bool" ["list", "tuple"] = some false := by decide +kernel
theorem isi_bool_bool_int : kitsB "bool" ["bool", "int"] = some true := by decide +kernel
theorem isi_bool_bool_int_list_tuple : kitsB "bool" ["bool", "int", "list", "tuple"] = some true := by decide +kernel
theorem isi_int_list : kitB "int" "list" = some false := by decide +kernel
theorem isi_int_tuple : kitB "int" "tuple" = some false := by decide +kernel
theorem isi_int_bool : kitB "int" "bool" = some false := by decide +kernel
theorem isi_int_int : kitB "int" "int" = some true := by decide +kernel
theorem isi_int_str : kitB "int" "str" = some false := by decide +kernel
theorem isi_int_list_tuple : kitsB "int" ["list", "tuple"] = some false := by decide +kernel
theorem isi_int_bool_int : kitsB "int" ["bool", "int"] = some true := by decide +kernel
theorem isi_int_bool_int_list_tuple : kitsB "int" ["bool", "int", "list", "tuple"] = some true := by decide +kernel
theorem isi_str_list : kitB "str" "list" = some false := by decide +kernel
theorem isi_str_tuple : kitB "str" "tuple" = some false := by decide +kernel
theorem isi_str_bool : kitB "str" "bool" = some false := by decide +kernel
theorem isi_str_int : kitB "str" "int" = some false := by decide +kernel
theorem isi_str_str : kitB "str" "str" = some true := by decide +kernel
theorem isi_str_list_tuple : kitsB "str" ["list", "tuple"] = some false := by decide +kernel
theorem isi_str_bool_int : kitsB "str" ["bool", "int"] = some false := by decide +kernel
theorem isi_str_bool_int_list_tuple : kitsB "str" ["bool", "int", "list", "tuple"] = some false := by decide +kernel
theorem isi_list_list : kitB "list" "list" = some true := by decide +kernel
theorem isi_list_tuple : kitB "list" "tuple" = some false := by decide +kernel
theorem isi_list_bool : kitB "list" "bool" = some false := by decide +kernel
theorem isi_list_int : kitB "list" "int" = some false := by decide +kernel
theorem isi_list_str : kitB "list" "str" = some false := by decide +kernel
theorem isi_list_list_tuple : kitsB "list" ["list", "tuple"] = some true := by decide +kernel
theorem isi_list_bool_int : kitsB "list" ["bool", "int"] = some false := by decide +kernel
theorem isi_list_bool_int_list_tuple : kitsB "list" ["bool", "int", "list", "tuple"] = some true := by decide +kernel
theorem isi_tuple_list : kitB "tuple" "list" = some false := by decide +kernel
theorem isi_tuple_tuple : kitB "tuple" "tuple" = some true := by decide +kernel
theorem isi_tuple_bool : kitB "tuple" "bool" = some false := by decide +kernel
theorem isi_tuple_int : kitB "tuple" "int" = some false := by decide +kernel
theorem isi_tuple_str : kitB "tuple" "str" = some false := by decide +kernel
theorem isi_tuple_list_tuple : kitsB "tuple" ["list", "tuple"] = some true := by decide +kernel
theorem isi_tuple_bool_int : kitsB "tuple" ["bool", "int"] = some false := by decide +kernel
theorem isi_tuple_bool_int_list_tuple : kitsB "tuple" ["bool", "int", "list", "tuple"] = some true := by decide +kernel
theorem isi_dict_list : kitB "dict" "list" = some false := by decide +kernel
theorem isi_dict_tuple : kitB "dict" "tuple" = some false := by decide +kernel
theorem isi_dict_bool : kitB "dict" "bool" = some false := by decide +kernel
theorem isi_dict_int : kitB "dict" "int" = some false := by decide +kernel
theorem isi_dict_str : kitB "dict" "str" = some false := by decide +kernel
theorem isi_dict_list_tuple : kitsB "dict" ["list", "tuple"] = some false := by decide +kernel
theorem isi_dict_bool_int : kitsB "dict" ["bool", "int"] = some false := by decide +kernel
theorem isi_dict_bool_int_list_tuple : kitsB "dict" ["bool", "int", "list", "tuple"] = some false := by decide +kernel
/-! ### readings -/
section
variable {K : PySem.W.Frag} {σ : L2.St} {H : Hp} {te tb : TE} {v w : V} {d e : PyData} {b : Bool}
theorem ev_isi {n : String} (h : Evl.Ev te σ H v) (hd : Dp K H v d) (hb : kitB (tyOf d) n = some b) : Evl.Ev (tCB (rIsi K) (tCons te (tCons (tC (.ty n)) tNil))) σ H (.bl b) := fun H1 e1 Q q =>
  h H1 e1 _ fun H2 e2 => ⟨v, .ty n, _, _, b, rfl, .ty n, dp_ty (Dp.up hd (e1.trans e2)), kit_ty hb, q H2 e2⟩
theorem ev_isi2 {m n : String} (h : Evl.Ev te σ H v) (hd : Dp K H v d) (hb : kitsB (tyOf d) [m, n] = some b) : Evl.Ev (tCB (rIsiT K) (tCons te (tCons (tTup (tCons (tC (.ty m)) (tCons (tC (.ty n)) tNil))) tNil))) σ H (.bl b) := fun H1 e1 Q q =>
  h H1 e1 _ fun H2 e2 => ⟨by show 2 ≤ sizeLine; decide, fun p hp => ⟨v, p, _, _, _, b, rfl, upd_same, tys_cls (ns := [m, n]), dp_ty (Dp.up hd ((e1.trans e2).trans (Ex.new hp))), kitsB_ok hb, q _ (e2.trans (Ex.new hp))⟩⟩
theorem ev_isi4 {m n k l : String} (h : Evl.Ev te σ H v) (hd : Dp K H v d) (hb : kitsB (tyOf d) [m, n, k, l] = some b) :
    Evl.Ev (tCB (rIsiT K) (tCons te (tCons (tTup (tCons (tC (.ty m)) (tCons (tC (.ty n)) (tCons (tC (.ty k)) (tCons (tC (.ty l)) tNil))))) tNil))) σ H (.bl b) := fun H1 e1 Q q =>
  h H1 e1 _ fun H2 e2 => ⟨by show 4 ≤ sizeLine; decide, fun p hp => ⟨v, p, _, _, _, b, rfl, upd_same, tys_cls (ns := [m, n, k, l]), dp_ty (Dp.up hd ((e1.trans e2).trans (Ex.new hp))), kitsB_ok hb, q _ (e2.trans (Ex.new hp))⟩⟩
theorem ev_eqD (h : Evl.Ev te σ H v) (h2 : Evl.Ev tb σ H w) (hd : Dp K H v d) (he : Dp K H w e) (sd : SeqAt.shaped d = true) (se : SeqAt.shaped e = true) : Evl.Ev (tOp (rEqD K) te tb) σ H (.bl (PyData.eqv d e)) := fun H1 e1 Q q =>
  h H1 e1 _ fun H2 e2 => h2 H2 (e1.trans e2) _ fun H3 e3 => ⟨d, e, Dp.up hd ((e1.trans e2).trans e3), Dp.up he ((e1.trans e2).trans e3), sd, se, q H3 (e2.trans e3)⟩
theorem ev_eqB {a c : Bool} (h : Evl.Ev te σ H (.bl a)) (h2 : Evl.Ev tb σ H (.bl c)) : Evl.Ev (tOp rEq te tb) σ H (.bl (decide (V.bl a = V.bl c))) := Evl.ev_op h h2 (Evl.rv_eq rfl)
theorem ev_neB {a c : Bool} (h : Evl.Ev te σ H (.bl a)) (h2 : Evl.Ev tb σ H (.bl c)) : Evl.Ev (tOp rNe te tb) σ H (.bl (!decide (V.bl a = V.bl c))) := Evl.ev_op h h2 (Evl.rv_ne rfl)
theorem ev_lenS {a : Addr} {xs : List V} (ha : Evl.Ev te σ H (.ref a)) (h : SqL K H a xs ∨ SqT K H a xs) : Evl.Ev (tCB (fun xs H Q => ∃ p ys, xs = [.ref p] ∧ (SqL K H p ys ∨ SqT K H p ys) ∧ Q (.int ys.length) H) (tCons te tNil)) σ H (.int (xs.length : Int)) := fun H1 e Q q =>
  ha H1 e _ fun H2 e2 => ⟨a, xs, rfl, h.imp (Evl.ex_l (e.trans e2)) (Evl.ex_t (e.trans e2)), q H2 e2⟩
end
/-! ### defs of the text, found by their names -/
structure DefAt (P : Program) (w : World) (K : PySem.W.Frag) (mg : Str → Option Value) (base : Heap) (x : Str) (k : Nat) (ps : List Str) (sp : Sp) : Prop where
  ex : ∃ f fd, FnOk P w K mg base CX0 k f fd ps sp ∧ mg x = some (.ref f) ∧ PySem.W.keepIn K (.ref f) = true ∧ Binds K fd ps []
theorem DefAt.imp {P : Program} {w : World} {K : PySem.W.Frag} {mg : Str → Option Value} {base : Heap} {x : Str} {k : Nat} {ps : List Str} {sp sp' : Sp} (D : DefAt P w K mg base x k ps sp) (h : ∀ vs H Q E, sp' vs H Q E → sp vs H Q E) : DefAt P w K mg base x k ps sp' := by
  obtain ⟨f, fd, F, r⟩ := D.ex
  exact ⟨f, fd, F.imp h, r⟩
theorem DefAt.mono {P : Program} {w : World} {K : PySem.W.Frag} {mg : Str → Option Value} {base : Heap} {x : Str} {k j : Nat} {ps : List Str} {sp : Sp} (D : DefAt P w K mg base x k ps sp) (h : k ≤ j) : DefAt P w K mg base x j ps sp := by
  obtain ⟨f, fd, F, r⟩ := D.ex
  exact ⟨f, fd, F.mono h, r⟩
def tCallD (sp : Sp) (t : TA) : TE := fun σ H Q => t σ H fun vs H1 => sp vs H1 Q E0
theorem pe_callD {X : Cx} {x : Str} {k : Nat} {ps : List Str} {sp : Sp} {p pos : Pos} {e : Expr} {es : List Expr} {t : TA} (D : DefAt X.prog X.w X.K X.mg X.base x k ps sp) (hr : Room k X.A) (hg : Gl X x) (ha : PA X (e :: es) t)
    (hdb : (x == ("__debug__" : Str)) = false := by decide) (he : starEach (e :: es) X.env = (false, eval e X.env) :: starEach es X.env := by rfl) (hpl : (backTo pos (starEach es X.env)).any (·.1) = false := by rfl) :
    PE X (.Call (.Name x p) (e :: es) [] pos) (tCallD sp t) := by
  obtain ⟨f, fd, F, hm, hk, hb⟩ := D.ex
  refine ⟨fun pins s σ H Q I h => (pe_call (E := E0) F hr hg hm hk hb .nil pass0 ha hdb he hpl).run pins s σ H Q I ?_⟩
  have e1 : (fun (vs : List V) (H1 : Hp) => sp (vs ++ []) H1 Q E0) = fun vs H1 => sp vs H1 Q E0 := by
    funext vs H1
    rw [List.append_nil]
  show t σ H fun vs H1 => sp (vs ++ []) H1 Q E0
  rw [e1]
  exact h
/-! ### draws -/
/-- at l the draws: three numbers; at most n drawn by the second way -/
def Dr (n : Nat) (H : Hp) (l : Addr) : Prop := ∃ x y z : Int, H l = some (.lst [.int x, .int y, .int z]) ∧ 0 ≤ x ∧ 0 ≤ y ∧ y ≤ 1099511627776 ∧ 0 ≤ z ∧ z ≤ (n : Int)
theorem Dr.up {n m : Nat} {H : Hp} {l : Addr} (h : Dr n H l) (e : n ≤ m) : Dr m H l := by
  obtain ⟨x, y, z, h1, h2, h3, h4, h5, h6⟩ := h
  exact ⟨x, y, z, h1, h2, h3, h4, h5, by omega⟩
theorem Dr.ne {n : Nat} {H : Hp} {l : Addr} (h : Dr n H l) : H l ≠ none := by
  obtain ⟨x, y, z, h1, _⟩ := h
  rw [h1]
  simp
theorem Dr.ex {n : Nat} {H H' : Hp} {l : Addr} (h : Dr n H l) (e : Ex H H') : Dr n H' l := by
  obtain ⟨x, y, z, h1, h2⟩ := h
  exact ⟨x, y, z, e _ _ h1, h2⟩
/-- all but the cell l stays -/
def ExB (l : Addr) (H H' : Hp) : Prop := ∀ a o, a ≠ l → H a = some o → H' a = some o
theorem ExB.refl (l : Addr) (H : Hp) : ExB l H H := fun _ _ _ h => h
theorem ExB.of {l : Addr} {H H' : Hp} (e : Ex H H') : ExB l H H' := fun a o _ h => e a o h
theorem ExB.trans {l : Addr} {H H1 H2 : Hp} (a : ExB l H H1) (b : ExB l H1 H2) : ExB l H H2 := fun c o n h => b c o n (a c o n h)
theorem ExB.upd {l : Addr} {H : Hp} {o : HO} : ExB l H (upd H l o) := fun a u n h => by
  rw [upd_ne n]
  exact h
theorem ExB.w {l : Addr} {L : List Addr} {H H' : Hp} (e : ExB l H H') (m : l ∈ L) : Ex (W L H) (W L H') := fun a o h => by
  obtain ⟨h1, n⟩ := w_in h
  exact w_of n (e a o (fun z => n (by rw [z]; exact m)) h1)
theorem ExB.hid {l : Addr} {L : List Addr} {H H' : Hp} (e : ExB l H H') (hl : H' l ≠ none) (h : Hid L H) : Hid L H' := fun a m => by
  by_cases q : a = l
  · rw [q]
    exact hl
  · intro z
    cases r : H a with
    | none => exact h a m r
    | some o =>
      have t := e a o q r
      rw [z] at t
      cases t
def spSource (K : PySem.W.Frag) : Sp := fun vs H Q _ => ∃ (s : Addr) (ns : List Int) (i : Nat), vs = [.ref s, .int (i : Int)] ∧ SqL K H s (ns.map V.int) ∧ ns.length ≤ 63 ∧ i ≤ 100 ∧
  ∀ l o, H l = none → Dr 0 (upd H l o) l → Q (.ref l) (upd H l o)
def spDraw : Sp := fun vs H Q _ => ∃ (l : Addr) (many : Int) (n : Nat), vs = [.ref l, .int many] ∧ Dr n H l ∧ n < 1000000 ∧ 0 < many ∧ many < 1073741824 ∧
  ∀ r o, 0 ≤ r → r < many → Dr (n + 1) (upd H l o) l → Q (.int r) (upd H l o)
def spPick (K : PySem.W.Frag) : Sp := fun vs H Q _ => ∃ (l t : Addr) (ds : List PyData) (n : Nat) (L : List Addr), vs = [.ref l, .ref t] ∧ Dr n H l ∧ n < 1000000 ∧ l ∈ L ∧ Dp K (W L H) (.ref t) (.list ds) ∧ 0 < ds.length ∧ ds.length < 1073741824 ∧
  ∀ v d o, d ∈ ds → Dp K (W L (upd H l o)) v d → Dr (n + 1) (upd H l o) l → Q v (upd H l o)
end U

set_option Elab.async false
set_option linter.all false
set_option maxRecDepth 100000
set_option maxHeartbeats 2000000
namespace U
open PySem L2
open Evl (Ex)
theorem yes_lc {σ : L2.St} {H : Hp} {A B : Hp → Prop} (h : A H) : tYes σ H (fun b H3 => if b = true then A H3 else B H3) := by
  show (if true = true then A H else B H)
  rw [if_pos rfl]
  exact h
section
variable {K : PySem.W.Frag} {a b : Addr} {xs ys : List V} {σ : L2.St} {H : Hp}
theorem walk_zipT {n : Nat} (hn : n = min xs.length ys.length) : Walk (RZ.ItzT K a b) n (fun H => SqT K H a xs ∧ SqT K H b ys) (YPair (fun i => xs[i]?) (fun i => ys[i]?)) := by
  subst hn
  refine ⟨fun i _ hi q => ?_, fun _ q => ⟨xs, ys, q.1, q.2, by omega⟩, fun i H v H' _ q y => ?_⟩
  · have h1 : i < xs.length := by omega
    have h2 : i < ys.length := by omega
    exact ⟨xs, ys, xs[i], ys[i], q.1, q.2, by simp [h1], by simp [h2]⟩
  · obtain ⟨T, x, z, h1, h2, h3, h4, h5⟩ := y
    exact ⟨T, x, z, h1, h2, h3, h4 xs q.1, h5 ys q.2⟩
/-- what a comprehension of every item has made so far -/
def Cm (H : Hp) (v : Nat → V) (Dl : Addr) (i : Nat) (H' : Hp) : Prop := H Dl = none ∧ Ex H H' ∧ H' Dl = some (.lst ((List.range i).map v))
theorem cm_0 {v : Nat → V} {Dl : Addr} (h : H Dl = none) : Cm H v Dl 0 (upd H Dl (.lst [])) := ⟨h, Ex.new h, upd_same⟩
theorem cm_turn {H' : Hp} {v : Nat → V} {Dl : Addr} {i : Nat} {te : TE} {σ2 : L2.St} (p : Cm H v Dl i H') (hi : i < 50000) (H2 : Hp) (e2 : Ex H' H2) (he : Evl.Ev te σ2 H (v i)) :
    te σ2 H2 fun y H4 => ∃ acc, H4 Dl = some (.lst acc) ∧ acc.length < sizeLine ∧ Cm H v Dl (i + 1) (upd H4 Dl (.lst (acc ++ [y]))) := by
  obtain ⟨p1, p2, p3⟩ := p
  refine he H2 (p2.trans e2) _ fun H4 e4 => ⟨_, e4 Dl _ (e2 Dl _ p3), Evl.sz_lt (by rw [List.length_map, List.length_range]; omega), p1, Evl.Ex.mut ((p2.trans e2).trans e4) p1, ?_⟩
  rw [upd_same, List.range_succ, List.map_append]
  rfl
theorem el_zip {ta : TA} {te : TE} {i1 i2 : Nat} {vs : List Nat} {v : Nat → V} (h : Evl.EvA ta σ H [.ref a, .ref b]) (hx : (SqL K H a xs ∧ SqL K H b ys) ∨ (SqT K H a xs ∧ SqT K H b ys)) (hl : xs.length = ys.length) (hz : xs.length ≤ 40000)
    (hw : ∀ x y, wipe (((wipe σ vs).set i1 (some x)).set i2 (some y)) vs = wipe σ vs)
    (he : ∀ (i : Nat) (x y : V) H1, Ex H H1 → xs[i]? = some x → ys[i]? = some y → Evl.Ev te (((wipe σ vs).set i1 (some x)).set i2 (some y)) H1 (v i)) :
    Evl.EvL (tLc (RZ.iZipA K ta) (gTup K 2 (gCons (gName i1) (gCons (gName i2) gNil))) tYes te vs) σ H ((List.range xs.length).map v) := fun H0 e0 Q q => h H0 e0 _ fun H1 e1 => by
  have turn : ∀ (Dl : Addr) (i : Nat) (x : V) (H2 H3 : Hp), i < xs.length → Cm H1 v Dl i H2 → YPair (fun i => xs[i]?) (fun i => ys[i]?) i H2 x H3 → gTup K 2 (gCons (gName i1) (gCons (gName i2) gNil)) x (wipe σ vs) H3 fun σ2 H2 => wipe σ2 vs = wipe σ vs ∧ tYes σ2 H2 fun b H3 =>
      if b = true then te σ2 H3 fun y H4 => ∃ acc, H4 Dl = some (.lst acc) ∧ acc.length < sizeLine ∧ Cm H1 v Dl (i + 1) (upd H4 Dl (.lst (acc ++ [y]))) else Cm H1 v Dl (i + 1) H3 := by
    intro Dl i x H2 H3 hi p yp
    obtain ⟨T, u, w, rfl, hT, rfl, hu, hw'⟩ := yp
    refine ⟨T, [u, w], rfl, SqT.of upd_same, rfl, u, [w], rfl, w, [], rfl, rfl, hw u w, ?_⟩
    exact yes_lc (A := fun H3 => te ((List.set (wipe σ vs) i1 (some u)).set i2 (some w)) H3 fun y H4 => ∃ acc, H4 Dl = some (.lst acc) ∧ acc.length < sizeLine ∧ Cm H1 v Dl (i + 1) (upd H4 Dl (.lst (acc ++ [y])))) (B := fun H3 => Cm H1 v Dl (i + 1) H3) <| cm_turn p (by omega) _ (Ex.new hT) (he i u w _ (e0.trans e1) hu hw')
  rcases hx with ⟨x1, x2⟩ | ⟨x1, x2⟩
  · refine ⟨a, b, xs, ys, rfl, .inl ⟨Evl.ex_l (e0.trans e1) x1, Evl.ex_l (e0.trans e1) x2, fun Dl hD => ?_⟩⟩
    exact lc_it (walk_zip (n := xs.length) (by omega)) (Cm H1 v Dl) (cm_0 hD) (fun i H2 _ p => ⟨Evl.ex_l ((e0.trans e1).trans p.2.1) x1, Evl.ex_l ((e0.trans e1).trans p.2.1) x2⟩) (fun i x H2 H3 hi p y => turn Dl i x H2 H3 hi p y)
      (fun H2 p => q Dl H2 (Evl.fresh_back e1 p.1) (e1.trans p.2.1) p.2.2)
  · refine ⟨a, b, xs, ys, rfl, .inr ⟨Evl.ex_t (e0.trans e1) x1, Evl.ex_t (e0.trans e1) x2, fun Dl hD => ?_⟩⟩
    exact lc_it (walk_zipT (n := xs.length) (by omega)) (Cm H1 v Dl) (cm_0 hD) (fun i H2 _ p => ⟨Evl.ex_t ((e0.trans e1).trans p.2.1) x1, Evl.ex_t ((e0.trans e1).trans p.2.1) x2⟩) (fun i x H2 H3 hi p y => turn Dl i x H2 H3 hi p y)
      (fun H2 p => q Dl H2 (Evl.fresh_back e1 p.1) (e1.trans p.2.1) p.2.2)
theorem ev_all {te : TE} {bs : List Bool} (h : Evl.EvL te σ H (bs.map V.bl)) : Evl.Ev (tCB (rAll K) (tCons te tNil)) σ H (.bl (bs.all id)) := fun H1 e1 Q q =>
  h H1 e1 _ fun p H2 hp e2 h2 => ⟨p, bs, rfl, SqL.of h2, q H2 e2⟩
theorem ev_any {te : TE} {bs : List Bool} (h : Evl.EvL te σ H (bs.map V.bl)) : Evl.Ev (tCB (rAny K) (tCons te tNil)) σ H (.bl (bs.any id)) := fun H1 e1 Q q =>
  h H1 e1 _ fun p H2 hp e2 h2 => ⟨p, bs, rfl, SqL.of h2, q H2 e2⟩
theorem ev_callD {sp : Sp} {ta : TA} {vs : List V} {z : V} (h : Evl.EvA ta σ H vs) (hs : ∀ H1, Ex H H1 → ∀ Q : VK, (∀ H2, Ex H1 H2 → Q z H2) → sp vs H1 Q E0) : Evl.Ev (tCallD sp ta) σ H z := fun H1 e Q q =>
  h H1 e _ fun H2 e2 => hs H2 (e.trans e2) Q fun H3 e3 => q H3 (e2.trans e3)
end
/-! ### data no deeper than n -/
def fits : Nat → PyData → Prop
  | 0, .list _ => False
  | 0, .tuple _ => False
  | n + 1, .list ds => ds.length ≤ 40000 ∧ ∀ d ∈ ds, fits n d
  | n + 1, .tuple ds => ds.length ≤ 40000 ∧ ∀ d ∈ ds, fits n d
  | _, .dict kvs => kvs = []
  | _, _ => True
theorem fits_up : ∀ {n m : Nat} {d : PyData}, n ≤ m → fits n d → fits m d
  | 0, 0, _, _, h => h
  | 0, m + 1, d, _, h => by
    cases d with
    | list ds => exact h.elim
    | tuple ds => exact h.elim
    | dict _ => exact h
    | _ => trivial
  | n + 1, 0, _, e, _ => by omega
  | n + 1, m + 1, d, e, h => by
    cases d with
    | list ds => exact ⟨h.1, fun z hz => fits_up (by omega) (h.2 z hz)⟩
    | tuple ds => exact ⟨h.1, fun z hz => fits_up (by omega) (h.2 z hz)⟩
    | dict _ => exact h
    | _ => trivial
/-- two readings of the same data: True -/
def spSame (K : PySem.W.Frag) (n : Nat) : Sp := fun vs H Q _ => ∃ (x y : V) (d : PyData), vs = [x, y] ∧ Dp K H x d ∧ Dp K H y d ∧ fits n d ∧ ∀ H', Ex H H' → Q (.bl true) H'
end U

set_option Elab.async false
set_option linter.all false
set_option maxRecDepth 100000
set_option maxHeartbeats 2000000
namespace U
open PySem L2
open Evl (Ex)
/-! ### what evaluates to data -/
section
variable {K : PySem.W.Frag} {L : List Addr} {σ : L2.St} {H H' : Hp} {te tb : TE} {ta tr : TA} {v : V} {d : PyData} {ds : List PyData} {l p : Addr} {o : HO}
def EvD (K : PySem.W.Frag) (L : List Addr) (te : TE) (σ : L2.St) (H : Hp) (d : PyData) : Prop := ∀ H1, Ex H H1 → ∀ Q : VK, (∀ v H2, Ex H1 H2 → Dp K (W L H2) v d → Q v H2) → te σ H1 Q
def EvDs (K : PySem.W.Frag) (L : List Addr) (ta : TA) (σ : L2.St) (H : Hp) (ds : List PyData) : Prop := ∀ H1, Ex H H1 → ∀ Q : List V → Hp → Prop, (∀ vs H2, Ex H1 H2 → DpAll K (W L H2) vs ds → Q vs H2) → ta σ H1 Q
theorem EvD.mono (e : Ex H H') (h : EvD K L te σ H d) : EvD K L te σ H' d := fun H1 a Q q => h H1 (e.trans a) Q q
theorem EvDs.mono (e : Ex H H') (h : EvDs K L ta σ H ds) : EvDs K L ta σ H' ds := fun H1 a Q q => h H1 (e.trans a) Q q
theorem evd_of (h : Evl.Ev te σ H v) (hd : Dp K (W L H) v d) : EvD K L te σ H d := fun H1 e Q q => h H1 e _ fun H2 e2 => q v H2 e2 (hd.up (w_ex (e.trans e2)))
theorem evd_var {i : Nat} (h : σ[i]? = some (some v)) (hd : Dp K (W L H) v d) : EvD K L (tVar i) σ H d := evd_of (Evl.ev_var h) hd
theorem evd_int {i : Int} : EvD K L (tC (.int i)) σ H (.int i) := evd_of Evl.ev_c (.int i)
theorem evd_bl {b : Bool} : EvD K L (tC (.bl b)) σ H (.bool b) := evd_of Evl.ev_c (.bl b)
theorem evd_non : EvD K L (tC .non) σ H .none := evd_of Evl.ev_c .non
theorem evd_str {x : Str} : EvD K L (tC (.str x)) σ H (.str x) := evd_of Evl.ev_c (.str x)
theorem evd_evI {i : Int} (h : Evl.Ev te σ H (.int i)) : EvD K L te σ H (.int i) := evd_of h (.int i)
theorem evd_evB {b : Bool} (h : Evl.Ev te σ H (.bl b)) : EvD K L te σ H (.bool b) := evd_of h (.bl b)
theorem evds_nil : EvDs K L tNil σ H [] := fun H1 _ _ q => q [] H1 (Ex.refl H1) .nil
theorem evds_cons (h : EvD K L te σ H d) (hr : EvDs K L tr σ H ds) : EvDs K L (tCons te tr) σ H (d :: ds) := fun H1 e Q q =>
  h H1 e _ fun v H2 e2 hv => hr H2 (e.trans e2) _ fun vs H3 e3 hvs => q (v :: vs) H3 (e2.trans e3) (.cons (hv.up (w_ex e3)) hvs)
theorem evd_tup (hL : Hid L H) (h : EvDs K L ta σ H ds) (hz : ds.length ≤ 100000) : EvD K L (tTup ta) σ H (.tuple ds) := fun H1 e Q q =>
  h H1 e _ fun vs H2 e2 hv => ⟨Evl.sz_of (by rw [dpa_len hv]; exact hz), fun p hp => q (.ref p) _ (e2.trans (Ex.new hp)) (.tup (SqT.of (w_new (hid_ex (e.trans e2) hL) hp)) (hv.up (w_ex (Ex.new hp))))⟩
theorem evd_lst (hL : Hid L H) (h : EvDs K L ta σ H ds) (hz : ds.length ≤ 100000) : EvD K L (tLst ta) σ H (.list ds) := fun H1 e Q q =>
  h H1 e _ fun vs H2 e2 hv => ⟨Evl.sz_of (by rw [dpa_len hv]; exact hz), fun p hp => q (.ref p) _ (e2.trans (Ex.new hp)) (.lst (SqL.of (w_new (hid_ex (e.trans e2) hL) hp)) (hv.up (w_ex (Ex.new hp))))⟩
theorem w_fresh (hp : H p = none) : Ex (W L H) (W (p :: L) (upd H p o)) := fun a u h => by
  obtain ⟨h1, n⟩ := w_in h
  have ne : a ≠ p := ne_of_none h1 hp
  exact w_of (fun m => (List.mem_cons.mp m).elim ne n) (by rw [upd_ne ne]; exact h1)
theorem w_cons : Ex (W (p :: L) H) (W L H) := w_sub2 fun a m => List.mem_cons_of_mem _ m
/-! ### a list that grows -/
/-- at l a list of the data ds, which do not hang on l -/
def Gr (K : PySem.W.Frag) (L : List Addr) (H : Hp) (l : Addr) (ds : List PyData) : Prop := l ∉ L ∧ ∃ xs, H l = some (.lst xs) ∧ DpAll K (W (l :: L) H) xs ds
theorem Gr.dp (h : Gr K L H l ds) : Dp K (W L H) (.ref l) (.list ds) := by
  obtain ⟨n, xs, h1, h2⟩ := h
  exact .lst (SqL.of (w_of n h1)) (h2.up w_cons)
theorem Gr.up (h : Gr K L H l ds) (e : Ex H H') : Gr K L H' l ds := by
  obtain ⟨n, xs, h1, h2⟩ := h
  exact ⟨n, xs, e _ _ h1, h2.up (w_ex e)⟩
theorem Gr.ne (h : Gr K L H l ds) : H l ≠ none := by
  obtain ⟨n, xs, h1, h2⟩ := h
  rw [h1]
  simp
theorem gr_new {xs : List V} (hL : Hid L H) (hp : H p = none) (h : DpAll K (W L H) xs ds) : Gr K L (upd H p (.lst xs)) p ds := ⟨hid_not hL hp, xs, upd_same, h.up (w_fresh hp)⟩
/-- a heap that differs at l alone, where the list has one more -/
theorem gr_app {xs : List V} (n : l ∉ L) (h1 : H l = some (.lst xs)) (h2 : DpAll K (W (l :: L) H) xs ds) (hv : Dp K (W (l :: L) H) v d) : Gr K L (upd H l (.lst (xs ++ [v]))) l (ds ++ [d]) := by
  refine ⟨n, xs ++ [v], upd_same, ?_⟩
  rw [w_upd_in (List.mem_cons_self ..)]
  exact dpa_app h2 (.cons hv .nil)
/-! ### statements -/
variable {D : Ends} {tz tu : TS} {i : Nat}
theorem d_asg (h : EvD K L te σ H d) (k : ∀ v H1, Ex H H1 → Dp K (W L H1) v d → D.nx (σ.set i (some v)) H1) : tAsg te (gName i) D σ H := h H (Ex.refl H) _ fun v H1 e hv => k v H1 e hv
theorem qd_asg (h : EvD K L te σ H d) (k : ∀ v H1, Ex H H1 → Dp K (W L H1) v d → tz D (σ.set i (some v)) H1) : tSeq (tAsg te (gName i)) tz D σ H := d_asg (D := { D with nx := tz D }) h k
theorem d_ret (h : EvD K L te σ H d) (k : ∀ v H1, Ex H H1 → Dp K (W L H1) v d → D.rt v H1) : tRet te D σ H := h H (Ex.refl H) _ fun v H1 e hv => k v H1 e hv
theorem qd_lst (hL : Hid L H) (h : EvDs K L ta σ H ds) (hz : ds.length ≤ 100000) (k : ∀ p H1, H p = none → Ex H H1 → Gr K L H1 p ds → tz D (σ.set i (some (.ref p))) H1) : tSeq (tAsg (tLst ta) (gName i)) tz D σ H :=
  h H (Ex.refl H) _ fun vs H1 e hv => ⟨Evl.sz_of (by rw [dpa_len hv]; exact hz), fun p hp => k p _ (Evl.fresh_back e hp) (e.trans (Ex.new hp)) (gr_new (hid_ex e hL) hp hv)⟩
theorem d_app (hg : Gr K L H l ds) (ho : Evl.Ev tb σ H (.ref l)) (h : EvD K (l :: L) te σ H d) (hz : ds.length < 100000) (k : ∀ o H1, Ex H H1 → Gr K L (upd H1 l o) l (ds ++ [d]) → D.nx σ (upd H1 l o)) :
    tDrop (tBM K "list" rAppend tb (tCons te tNil)) D σ H := ho H (Ex.refl H) _ fun H1 e1 => by
  obtain ⟨n, xs, h1, h2⟩ := hg
  refine ⟨Or.inl ⟨rfl, xs, SqL.of (e1 l _ h1)⟩, h H1 e1 _ fun v H2 e2 hv => ⟨l, xs, v, rfl, rfl, e2 l _ (e1 l _ h1), Evl.sz_lt (by rw [dpa_len h2]; exact hz), k _ H2 (e1.trans e2) ?_⟩⟩
  exact gr_app n (e2 l _ (e1 l _ h1)) (h2.up (w_ex (e1.trans e2))) hv
theorem qd_app (hg : Gr K L H l ds) (ho : Evl.Ev tb σ H (.ref l)) (h : EvD K (l :: L) te σ H d) (hz : ds.length < 100000) (k : ∀ o H1, Ex H H1 → Gr K L (upd H1 l o) l (ds ++ [d]) → tz D σ (upd H1 l o)) :
    tSeq (tDrop (tBM K "list" rAppend tb (tCons te tNil))) tz D σ H := d_app (D := { D with nx := tz D }) hg ho h hz k
/-- xs + ys, the left a list that stands, the right a new one -/
theorem evd_cat {es : List PyData} (hL : Hid L H) (hg : Gr K L H l ds) (ho : Evl.Ev te σ H (.ref l)) (h : EvDs K L ta σ H es) (hz : ds.length + es.length ≤ 100000) : EvD K L (tOp rCat te (tLst ta)) σ H (.list (ds ++ es)) := fun H1 e1 Q q =>
  ho H1 e1 _ fun H2 e2 => h H2 (e1.trans e2) _ fun vs H3 e3 hv => by
    have eA := (e1.trans e2).trans e3
    obtain ⟨n, xs, h1, h2⟩ := hg
    have l1 := dpa_len h2
    have l2 := dpa_len hv
    refine ⟨Evl.sz_of (by omega), fun p hp => ⟨l, p, xs, vs, rfl, rfl, ?_, upd_same, Evl.sz_of (by omega), fun r hr => ?_⟩⟩
    · exact (eA.trans (Ex.new hp)) l _ h1
    · refine q (.ref r) _ ((e2.trans e3).trans ((Ex.new hp).trans (Ex.new hr))) (.lst (SqL.of (w_new (hid_upd (hid_ex eA hL)) hr)) ?_)
      have z : Ex (W L H3) (W L (upd (upd H3 p (.lst vs)) r (.lst (xs ++ vs)))) := w_ex ((Ex.new hp).trans (Ex.new hr))
      exact dpa_app (((h2.up w_cons).up (w_ex eA)).up z) (hv.up z)
/-- xs.extend(ys), ys a new list -/
theorem d_ext {es : List PyData} (hg : Gr K L H l ds) (hL : Hid L H) (ho : Evl.Ev tb σ H (.ref l)) (h : EvDs K (l :: L) ta σ H es) (hz : ds.length + es.length ≤ 100000) (k : ∀ o H1, Ex H H1 → Gr K L (upd H1 l o) l (ds ++ es) → D.nx σ (upd H1 l o)) :
    tDrop (tBM K "list" rExtend tb (tCons (tLst ta) tNil)) D σ H := ho H (Ex.refl H) _ fun H1 e1 => by
  obtain ⟨n, xs, h1, h2⟩ := hg
  refine ⟨Or.inl ⟨rfl, xs, SqL.of (e1 l _ h1)⟩, h H1 e1 _ fun vs H2 e2 hv => ?_⟩
  have l1 := dpa_len h2
  have l2 := dpa_len hv
  refine ⟨Evl.sz_of (by omega), fun p hp => ?_⟩
  have e3 : Ex H2 (upd H2 p (.lst vs)) := Ex.new hp
  have eA := (e1.trans e2).trans e3
  refine ⟨l, p, xs, vs, rfl, rfl, eA l _ h1, upd_same, Evl.sz_of (by omega), k _ _ eA ⟨n, xs ++ vs, upd_same, ?_⟩⟩
  rw [w_upd_in (List.mem_cons_self ..)]
  exact dpa_app (h2.up (w_ex eA)) (hv.up (w_ex e3))
theorem qd_ext {es : List PyData} (hg : Gr K L H l ds) (hL : Hid L H) (ho : Evl.Ev tb σ H (.ref l)) (h : EvDs K (l :: L) ta σ H es) (hz : ds.length + es.length ≤ 100000) (k : ∀ o H1, Ex H H1 → Gr K L (upd H1 l o) l (ds ++ es) → tz D σ (upd H1 l o)) :
    tSeq (tDrop (tBM K "list" rExtend tb (tCons (tLst ta) tNil))) tz D σ H := d_ext (D := { D with nx := tz D }) hg hL ho h hz k
end
end U

set_option Elab.async false
set_option linter.all false
set_option maxRecDepth 100000
set_option maxHeartbeats 4000000
namespace UE
open PySem PySem.Spec PyProof.Rows L2
open AutoSeq1 (wpAny_loadPart')
/-! ### enumerate of a tuple -/
theorem meets_enumT (t : Addr) (its : Array Value) (n : Nat) (dd : Option Addr) (sl : Array (Option Value)) :
    Meets (Builtin.«enumerate.__new__» ⟨[.type "enumerate", .ref t], []⟩) (fun _ R s => s.heap.get? t = some { cls := .type "tuple", dict := dd, data := .seq its n, slots := sl } ∧
      R (.ok (.ret (.ref (s.heap.push { cls := .type "tuple_iterator", data := .fields #[.ref t, .int 0 0] }).objs.size)))
        { s with heap := (s.heap.push { cls := .type "tuple_iterator", data := .fields #[.ref t, .int 0 0] }).push { cls := .type "enumerate", data := .fields #[.none, .bool false, .ref s.heap.objs.size, rawInt 0, .none, .none] } }) :=
  .of_wp fun prog w A R s hyp => by
    obtain ⟨hp, g, d, tk, os⟩ := s
    obtain ⟨ht, hyp⟩ := hyp
    have sub := sub_enumerate
    have hT : Heap.IsTuple (Shared.heap ⟨hp, g, d, tk, os⟩) t its := ⟨_, ht, rfl, n, rfl⟩
    wp_walk using wpAny_loadPart' ht
    refine wpAny_stack_any fun st => wpAny_pure ?_
    split
    · rename_i c _ _ _ _ _
      cases (c == Value.type "enumerate") <;>
      · wp_walk using wpAny_loadPart' ht, wpAny_pyIter_tuple hT
        exact ⟨_, rfl, hyp⟩
    · wp_walk using wpAny_loadPart' ht, wpAny_pyIter_tuple hT
      exact ⟨_, rfl, hyp⟩
section
variable {prog : Program} {w : World} {A : Around} {E : Value → Shared → Prop} {s : Shared}
theorem call_enumT {t : Addr} {its : Array Value} {Q : Value → Shared → Prop} (hT : s.heap.IsTuple t its)
    (hyp : ∀ h', IsEnum h' (s.heap.objs.size + 1) s.heap.objs.size 0 .none → h'.IsTupleIter s.heap.objs.size t 0 → h'.objs.size = s.heap.objs.size + 2 → (∀ b o, s.heap.get? b = some o → h'.get? b = some o) → Q (.ref (s.heap.objs.size + 1)) { s with heap := h' }) :
    wpAny (model prog w) A (call (.type "enumerate") [.ref t]) Q E s := by
  obtain ⟨⟨c, dd, dt, sl⟩, ht, hc, n, hd⟩ := hT
  obtain rfl : c = .type "tuple" := hc
  obtain rfl : dt = .seq its n := hd
  refine callType_new F.called_enumerate (by decide) (F.typeCall_enumerate_1 _) (F.newCall_enumerate_1 _) (fun ob => F.args_object_init_2 ob _) F.entry_enumerate_new (meets_enumT t its n dd sl) ⟨ht, ?_⟩
  have sz : (s.heap.push { cls := .type "tuple_iterator", data := .fields #[.ref t, .int 0 0] }).objs.size = s.heap.objs.size + 1 := Heap.size_push ..
  show _ ∧ _
  rw [sz]
  have he : IsEnum ((s.heap.push { cls := .type "tuple_iterator", data := .fields #[.ref t, .int 0 0] }).push { cls := .type "enumerate", data := .fields #[.none, .bool false, .ref s.heap.objs.size, rawInt 0, .none, .none] }) (s.heap.objs.size + 1) s.heap.objs.size 0 .none := by
    have q := Heap.get?_push_size (s.heap.push { cls := .type "tuple_iterator", data := .fields #[.ref t, .int 0 0] }) (o := { cls := .type "enumerate", data := .fields #[.none, .bool false, .ref s.heap.objs.size, rawInt 0, .none, .none] }) rfl
    rw [sz] at q
    exact q
  exact ⟨⟨_, he, rfl⟩, hyp _ he ⟨_, Heap.get?_push_of_some _ (Heap.get?_push_size _ rfl), rfl, rfl⟩ (by rw [Heap.size_push, sz]) fun b o z => Heap.get?_push_of_some _ (Heap.get?_push_of_some _ z)⟩
end
/-- the tuple at a, each item in a new pair -/
def IteT (K : PySem.W.Frag) (a : Addr) : It :=
  ⟨fun i H => ∃ (xs : List V) (x : V), SqT K H a xs ∧ xs[i]? = some x, fun i H v H' => ∃ T x, v = .ref T ∧ H T = none ∧ H' = upd H T (.tup [.int (i : Nat), x]) ∧ ∀ xs, SqT K H a xs → xs[i]? = some x, fun i H => ∃ xs : List V, SqT K H a xs ∧ xs.length ≤ i⟩
theorem turn_enumT {P : Program} {w : World} {K : PySem.W.Frag} {elts : List Expr} {kk : Nat} {tpos : Pos} (a e it : Addr) :
    Turn P w K (.Tuple elts kk tpos) (IteT K a) [e, it] e (fun i h => (∃ old, IsEnum h e it ((i : Nat) : Int) old) ∧ h.IsTupleIter it a i ∧ e ≠ it ∧ a ≠ it ∧ a ≠ e) where
  mem := by simp
  obj := fun i h st b hb => by
    obtain ⟨⟨old, he⟩, ⟨o, ho, hc, hd⟩, _⟩ := st
    have e' : b = e ∨ b = it := by simpa using hb
    rcases e' with z | z
    · rw [z]
      exact ⟨_, he, fun v q => nomatch q⟩
    · rw [z]
      exact ⟨o, ho, fun v q => by rw [hd] at q; cases q⟩
  keep := fun i h h' st k => by
    obtain ⟨⟨old, he⟩, hi, ne⟩ := st
    exact ⟨⟨old, k e (by simp) _ he⟩, hi.at fun o q => k it (by simp) o q, ne⟩
  item := by
    intro X hP hw hK hc i pins s σ H E I hf st hg
    subst hP hw hK
    obtain ⟨⟨old, he⟩, hit, n1, n2, n3⟩ := st
    obtain ⟨xs, x, hq, hx⟩ := hg
    obtain ⟨its, rv, p, hz⟩ := I.tuple hq
    obtain ⟨u, hu, ru⟩ := rv.get hx
    have le : e < s.heap.objs.size := Heap.lt_size he
    have li : it < s.heap.objs.size := by
      obtain ⟨_, q, _⟩ := hit
      exact Heap.lt_size q
    have hlt : i < its.toArray.size := by
      have z := (List.getElem?_eq_some_iff.mp hu).1
      simpa using z
    have D : Draws X.prog X.w X.A.in1 it [it, a] its.toArray.size (fun i v => its.toArray[i]? = some v) (fun i h => h.IsTupleIter it a i ∧ h.IsTuple a its.toArray) := Draws.tuple (show X.A.in1.handled = none from I.ok.hd hc) it a n2 its.toArray
    refine wpAny_pyNext_enum_itemD D he ⟨hit, p⟩ hlt n1 (by simp [n1, Ne.symm n3]) fun y h' tk hy ho hst hT sz kp => ?_
    obtain rfl : y = u := by
      have z : its.toArray[i]? = some u := by simpa using hu
      rw [hy] at z
      exact Option.some.inj z
    refine ⟨_, rfl, wpAny_letOwnedTupleGo_enum (s := { s with heap := h', toks := tk + 1 }) ho fun h'' he' sb => ?_⟩
    have hT2 : h''.get? s.heap.objs.size = some { cls := .type "tuple", data := .seq #[.int i tk, y] } := (sb.2 _ (Nat.ne_of_gt le)).trans hT
    have new : ObjOk X.prog X.w (upd H s.heap.objs.size (.tup [.int (i : Nat), x])) h'' s.heap.objs.size (.tup [.int (i : Nat), x]) := ⟨by show 2 ≤ sizeLine; decide, [.int i tk, y], .cons ⟨_, rfl⟩ (.cons ru .nil), ⟨_, hT2, rfl, _, rfl⟩⟩
    have I1 : Inv X pins σ (upd H s.heap.objs.size (.tup [.int (i : Nat), x])) { s with heap := h'', toks := tk + 1 } :=
      I.turnedNew (ch := [e, it]) (fun b ob hb q => (sb.2 b (fun z => hb (by simp [z]))).trans (kp b ob (fun z => hb (by simp [z])) (fun z => hb (by simp [z])) q)) hf (Nat.le_refl _) new
    refine ⟨.ref s.heap.objs.size, _, I1, rfl, ⟨_, x, rfl, I.hok.fresh (Nat.le_refl _), rfl, fun ys hy => by rw [I.tuple_inj hy hq]; exact hx⟩, ⟨⟨y, ?_⟩, hst.1.at fun o q => (sb.2 it (Ne.symm n1)).trans q, n1, n2, n3⟩, fun b hb => ?_⟩
    · have e1 : ((i + 1 : Nat) : Int) = (i : Int) + 1 := by omega
      rw [e1]
      exact he'
    · have hb' : b < s.heap.objs.size := by
        have e' : b = e ∨ b = it := by simpa using hb
        rcases e' with z | z
        · rw [z]
          exact le
        · rw [z]
          exact li
      rw [upd_ne (Nat.ne_of_lt hb')]
      exact (hf b hb).1
  done := by
    intro X hP hw hK hc i pins s σ H E I hf st hg
    subst hP hw hK
    obtain ⟨⟨old, he⟩, hit, n1, n2, n3⟩ := st
    obtain ⟨xs, hq, hx⟩ := hg
    obtain ⟨its, rv, p, hz⟩ := I.tuple hq
    obtain ⟨f0, f1, f2, f3, f4, f5⟩ := hf it (by simp)
    have hl := rv.length
    have hA : X.A.in1.handled = none := I.ok.hd hc
    have D : Draws X.prog X.w X.A.in1 it [it, a] i (fun _ _ => True) (fun k h => (h.IsTupleIter it a k ∧ h.IsTuple a its.toArray) ∧ k = i) :=
      { live := fun _ _ st => let ⟨o, ho, _⟩ := st.1.1; ⟨o, ho⟩
        frame := fun _ _ _ st hk => ⟨⟨st.1.1.at fun o e => hk it (by simp) o e, st.1.2.at fun o e => hk a (by simp) o e⟩, st.2⟩
        item := fun k s Q E hi st hQ => absurd st.2 (Nat.ne_of_lt hi)
        done := fun s Q E st hE => wpAny_nextOf_tuple_end hA st.1.1 st.1.2 (by simp; omega) hE }
    exact wpAny_pyNext_enum_endD D he ⟨⟨hit, p⟩, rfl⟩ fun h' eb => ⟨rfl, I.turned (t' := s.toks) (fun b o hb q => eb b o hb q) f0 f1 f3 f4 f5⟩
  self := fun A i s Q E st h => by
    obtain ⟨⟨_, he⟩, _⟩ := st
    exact wpAny_pyIter_enum he h
/-- enumerate of a tuple -/
def iEnumT (K : PySem.W.Frag) (ta : TA) : TI := fun σ H R => ta σ H fun vs H1 => ∃ a xs, vs = [.ref a] ∧ SqT K H1 a xs ∧ R (IteT K a) H1
theorem pi_enumT {X : Cx} {e : Expr} {ta : TA} {p pos tpos : Pos} {elts : List Expr} {kk : Nat} (hg : Gl X "enumerate") (hm : X.mg "enumerate" = none) (ha : PA X [e] ta) (hs : starEach [e] X.env = [(false, eval e X.env)] := by rfl) :
    PI X (.Tuple elts kk tpos) (.Call (.Name "enumerate" p) [e] [] pos) (iEnumT X.K ta) := by
  refine ⟨fun pins s σ H R I h => ?_⟩
  refine Call_ (ld_blt I hg hm boot_enumerate (PyProof.Rows.callWith_type1 (thn (ha.run pos pins s σ H _ I h) fun us s1 ⟨vs, H1, I1, r1, q1⟩ => ?_) hs rfl))
  obtain ⟨a, xs, ex, hq, q⟩ := q1
  subst ex
  cases r1 with
  | cons r rr =>
    cases rr
    cases r
    obtain ⟨its, rv, p', hz⟩ := I1.tuple hq
    obtain ⟨oT, hoT, _⟩ := id p'
    have la : a < s1.heap.objs.size := Heap.lt_size hoT
    refine call_enumT (its := its.toArray) p' fun h' he hit hsz hk => wpAny_pyIter_enum he ?_
    have I2 : Inv X pins σ H1 { s1 with heap := h' } := I1.kept (t' := s1.toks) hk
    refine ⟨s1.heap.objs.size + 1, [s1.heap.objs.size + 1, s1.heap.objs.size], _, _, H1, rfl, I2, turn_enumT a (s1.heap.objs.size + 1) s1.heap.objs.size, ⟨⟨.none, he⟩, hit, Nat.succ_ne_self _, Nat.ne_of_lt la, Nat.ne_of_lt (Nat.lt_succ_of_lt la)⟩, fun b hb => ?_, q⟩
    have e' : b = s1.heap.objs.size + 1 ∨ b = s1.heap.objs.size := by simpa using hb
    have hle : s1.heap.objs.size ≤ b := by
      rcases e' with z | z
      · rw [z]
        exact Nat.le_add_right _ _
      · rw [z]
        exact Nat.le_refl _
    exact I1.fpOk hle (I1.hok.fresh hle)
end UE

set_option Elab.async false
set_option linter.all false
set_option maxRecDepth 100000
set_option maxHeartbeats 4000000
namespace UX
open PySem PySem.W PySem.Calls PyProof.Rows PySem.HandSPX
section
variable {M : Model} {A : Around} {E : Value → Shared → Prop} {h : Heap} {g : Array GenState} {d : Drawn} {t : Nat} {os : OsState}
variable {nm q : Str} {C N : Addr} {bs bm bmB : List Value} {hd : Bool} {sn : List Str} {sub : List Value} {ab : Bool} {col : Option Bool} {dd : Option Addr} {k0 k1 k2 k3 k5 : Option Value} {B nid iid : String}
/-- keywords are no fault of a call of such a __new__ -/
theorem kw_check (F : ExcBaseFacts B nid iid bmB) (hT : ∀ X : String, bm.contains (.type X) = bmB.contains (.type X)) {kw : List (Str × Value)} {Q : Unit → Shared → Prop}
    (hC : h.get? C = some (excClassObj nm q C N bs bm hd sn sub ab col dd k0 k1 k2 k3 k5 nid)) (hq : Q () ⟨h, g, d, t, os⟩) : wpAny M A (checkBuiltinCall nid ⟨[.ref C], kw⟩) Q E ⟨h, g, d, t, os⟩ := by
  have inB : (Value.ref C :: bm).contains (.type B) = true := (List.contains_cons ..).trans (by rw [hT, F.hasB]; exact Bool.or_true _)
  have star := F.noStar
  simp only [checkBuiltinCall, F.newKind, F.newSplit, F.newRow]
  repeat (first | refine wpAny_loadPart_at hC ?_ | (refine wpAny_isSubtype_exc hC ?_; rw [inB]) | refine wpAny_staticBase_exc hC ?_ | refine wpAny_madeBy_exc hC ?_ | (simp only [bne_self_eq_false, Bool.false_eq_true, if_false]) | wp_step)
  exact hq
end
section
variable {prog : Program} {w : World} {A : Around} {E : Value → Shared → Prop} {R : Result → Shared → Prop} {h : Heap} {g : Array GenState} {d : Drawn} {t : Nat} {os : OsState}
variable {nm q : Str} {C N : Addr} {bs bm bmB : List Value} {hd : Bool} {sn : List Str} {sub : List Value} {ab : Bool} {col : Option Bool} {dd : Option Addr} {k0 k1 k2 k3 k5 : Option Value} {B nid iid : String}
/-- the heap behind the making of an exception without arguments -/
abbrev mkd (h : Heap) (C : Addr) : Heap := (h.push (kdv_tup [])).push (excO C h.objs.size)
theorem kw_new (F : ExcBaseFacts B nid iid bmB) (hT : ∀ X : String, bm.contains (.type X) = bmB.contains (.type X)) {kw : List (Str × Value)} (hC : h.get? C = some (excClassObj nm q C N bs bm hd sn sub ab col dd k0 k1 k2 k3 k5 nid))
    (hq : R (.ok (.ret (.ref (h.objs.size + 1)))) ⟨mkd h C, g, d, t, os⟩) : codeAny (model prog w) A (.builtin nid ⟨[.ref C], kw⟩) R ⟨h, g, d, t, os⟩ := by
  have ends := F.ends
  have inB : (Value.ref C :: bm).contains (.type B) = true := (List.contains_cons ..).trans (by rw [hT, F.hasB]; exact Bool.or_true _)
  have noA : (Value.ref C :: bm).contains (.type "AttributeError") = false := (List.contains_cons ..).trans (by rw [hT, F.noAttr]; rfl)
  have noN : (Value.ref C :: bm).contains (.type "NameError") = false := (List.contains_cons ..).trans (by rw [hT, F.noName]; rfl)
  have none0 : ([] : List Value).length ≤ sizeLine := Nat.zero_le _
  refine codeAny_builtinAt F.entry ?_
  unfold Builtin.«BaseException.__new__»
  refine PySem.wpAt_bind ?_
  show PySem.wpAt _ _ _ (stack >>= _) _ _ _
  refine PySem.wpAt_bind (PySem.wpAt_stack fun p below => PySem.wpAt_of_wpAny ?_)
  wp_walk
  refine PySem.wpAt_of_wpAny ?_
  rw [F.owner]
  repeat (first | with_reducible refine wpAny_madeHere_exc F.canon hC ?_ | with_reducible refine wpAny_loadPart_at hC ?_ | (with_reducible refine wpAny_isSubtype_exc hC ?_; first | rw [inB] | rw [noA] | rw [noN]) | wp_step)
  show R _ _
  rw [Heap.size_push]
  exact hq
theorem kw_type (F : ExcBaseFacts B nid iid bmB) (hT : ∀ X : String, bm.contains (.type X) = bmB.contains (.type X)) {kw : List (Str × Value)} {fI : Addr} {Q : Fin → Shared → Prop} (hC : h.get? C = some (excClassObj nm q C N bs bm hd sn sub ab col dd k0 k1 k2 k3 k5 nid))
    (hi : Looks (model prog w) h (typeLookup (.ref C) "__init__") (some (.ref fI))) (hb : ∀ self, Looks (model prog w) h (bindSpecial (.ref fI) self) (.ref fI, [self]))
    (hq : codeAny (model prog w) A (.call (.ref fI) ⟨[.ref (h.objs.size + 1)], kw⟩) (fun r s' => match r with | .ok (.ret v) => v = .none ∧ Q (.done (.ret (.ref (h.objs.size + 1)))) s' | .ok _ => False | .error e => E e s') ⟨mkd h C, g, d, t, os⟩) :
    wpAny (model prog w) A (Builtin.«type.__call__» ⟨[.ref C], kw⟩) Q E ⟨h, g, d, t, os⟩ := by
  repeat (first | with_reducible refine wpAny_loadPart_at hC ?_ | with_reducible refine wpAny_madeBy_exc hC ?_ | wp_step)
  refine codeAny_call_builtin_code (Code.quiet_builtin _ F.quiet) (kw_check F hT hC ?_)
  refine kw_new F hT hC ?_
  show wpAny _ _ _ _ _ _
  have kp : ∀ b o, h.get? b = some o → (mkd h C).get? b = some o := fun b o e => Heap.get?_push_of_some _ (Heap.get?_push_of_some _ e)
  have hC1 := kp _ _ hC
  have get1 : (mkd h C).get? (h.objs.size + 1) = some (excO C h.objs.size) := by heap_get
  have self1 : (Value.ref C :: bm).contains (.ref C) = true := by simp
  have i1 := hi.keeps kp
  have b1 := (hb (.ref (h.objs.size + 1))).keeps kp
  unfold isInstance
  repeat (first | with_reducible refine wpAny_loadPart_at get1 ?_ | (with_reducible refine wpAny_isSubtype_exc hC1 ?_; rw [self1]) | wp_step)
  show wpAny _ _ (typeLookup (.ref C) _) _ _ _
  refine i1.at ?_
  refine wpAny_holding (wpAny_bind (b1.at ?_))
  refine wpAny_bind (wpAny_call (codeAny_mono hq fun r s' z => ?_))
  cases r with
  | error e => exact z
  | ok fl =>
    cases fl with
    | ret v =>
      obtain ⟨rfl, z⟩ := z
      first
        | exact wpAny_pure (wpAny_pure z)
        | (wp_walk; exact z)
    | next => exact z.elim
    | brk => exact z.elim
    | cont => exact z.elim
theorem kw_call (F : ExcBaseFacts B nid iid bmB) (hT : ∀ X : String, bm.contains (.type X) = bmB.contains (.type X)) {kw : List (Str × Value)} {fI : Addr} (hC : h.get? C = some (excClassObj nm q C N bs bm hd sn sub ab col dd k0 k1 k2 k3 k5 nid))
    (hi : Looks (model prog w) h (typeLookup (.ref C) "__init__") (some (.ref fI))) (hb : ∀ self, Looks (model prog w) h (bindSpecial (.ref fI) self) (.ref fI, [self]))
    (hq : codeAny (model prog w) (A.under (.builtin "type.__call__" ⟨[.ref C], kw⟩)) (.call (.ref fI) ⟨[.ref (h.objs.size + 1)], kw⟩) (InitBack (h.objs.size + 1) R) ⟨mkd h C, g, d, t, os⟩) :
    codeAny (model prog w) A (.call (.ref C) ⟨[], kw⟩) R ⟨h, g, d, t, os⟩ := by
  have f1 := tc_lookup
  have f2 := tc_bind (.ref C)
  have tyC : (⟨h, g, d, t, os⟩ : Shared).TypeIs (.ref C) "type" := ⟨_, hC, rfl⟩
  refine codeAny_of_tree ?_
  show wpAny _ _ (callAny (.ref C) _) _ _ _
  repeat (any_goals (first | assumption | with_reducible refine wpAny_loadPart_at hC ?_ | wp_step))
  refine ⟨rfl, ?_⟩
  refine codeAny_call_builtin_at (Code.quiet_builtin _ (by decide +kernel)) entry_typeCall (wpAny_check_type_call_sub hC (kw_type F hT hC hi hb ?_))
  refine codeAny_mono hq fun r s' z => ?_
  cases r with
  | error e => exact z
  | ok fl => cases fl <;> exact z
end
end UX

set_option Elab.async false
set_option linter.all false
set_option maxRecDepth 100000
set_option maxHeartbeats 4000000
namespace U
open PySem L2 PyProof.Rows
open Evl (Ex)
/-! ### errors of the text as values -/
/-- what a class of errors with its own __init__(self, f) says -/
structure ErrC (P : Program) (w : World) (K : PySem.W.Frag) (mg : Str → Option Value) (base : Heap) (x : Str) (C : Addr) (f : Str) : Prop where
  T : OexC K C
  gC : mg x = some (.ref C)
  xf : XfC K C
  no : PySem.W.findIn K (.ref C) f = some none
  init : ∃ (fI : Addr) (fd : FuncData), PySem.W.findIn K (.ref C) "__init__" = some (some (.ref fI)) ∧ PySem.W.typeIn K (.ref fI) = some (.type "function") ∧
    FnOk P w K mg base CX0 1 fI fd ["self", f] (fun vs H Q _ => ∃ (a : Addr) (v : V), vs = [.ref a, v] ∧ H a = some (exo a C none) ∧ ∀ dx, H dx = none → dx ≠ a → Q .non (upd (upd H dx (exd dx [(f, v)])) a (exo a C (some dx)))) ∧
    Binds K fd ["self", f] [] ∧ (∀ (s : Shared) (u v : Value), BindsTo s fd ⟨[u], [(f, v)]⟩ [("self", u), (f, v)])
/-- at a an error of the class at C whose attribute f is v -/
def ErrAt (H : Hp) (a C : Addr) (f : Str) (v : V) : Prop := ∃ d : Addr, H a = some (exo a C (some d)) ∧ H d = some (exd d [(f, v)])
theorem ErrAt.up {H H' : Hp} {a C : Addr} {f : Str} {v : V} (h : ErrAt H a C f v) (e : Ex H H') : ErrAt H' a C f v := by
  obtain ⟨d, h1, h2⟩ := h
  exact ⟨d, e _ _ h1, e _ _ h2⟩
/-- at a an error of the class at C -/
def ErrOf (H : Hp) (a C : Addr) : Prop := (∃ (d : Addr) (fs : List (Str × V)), H a = some (exo a C (some d)) ∧ H d = some (exd d fs)) ∨ H a = some (ExO (.ref C) a)
theorem ErrOf.up {H H' : Hp} {a C : Addr} (h : ErrOf H a C) (e : Ex H H') : ErrOf H' a C := by
  rcases h with ⟨d, fs, h1, h2⟩ | h1
  · exact .inl ⟨d, fs, e _ _ h1, e _ _ h2⟩
  · exact .inr (e _ _ h1)
theorem ErrAt.of {H : Hp} {a C : Addr} {f : Str} {v : V} (h : ErrAt H a C f v) : ErrOf H a C := by
  obtain ⟨d, h1, h2⟩ := h
  exact .inl ⟨d, _, h1, h2⟩
theorem err_laid {H : Hp} {a dx C : Addr} {f : Str} {v : V} (ha : H a = none) (hd : H dx = none) (n : dx ≠ a) :
    Ex H (upd (upd (upd H a (exo a C none)) dx (exd dx [(f, v)])) a (exo a C (some dx))) ∧ ErrAt (upd (upd (upd H a (exo a C none)) dx (exd dx [(f, v)])) a (exo a C (some dx))) a C f v := by
  refine ⟨fun b o e => ?_, dx, upd_same, ?_⟩
  · have n1 : b ≠ a := ne_of_none e ha
    have n2 : b ≠ dx := ne_of_none e hd
    rw [upd_ne n1, upd_ne n2, upd_ne n1]
    exact e
  · rw [upd_ne n, upd_same]
section
variable {X : Cx} {x f : Str} {C : Addr} {e : Expr} {te : TE} {p pos kpos apos : Pos}
/-- X(e): a new error -/
def tErr (C : Addr) (f : Str) (te : TE) : TE := fun σ H Q => te σ H fun v H1 => ∀ a H2, H1 a = none → Ex H1 H2 → ErrAt H2 a C f v → Q (.ref a) H2
theorem err_size {us : List Value} (h : us.length ≤ 1) : us.length ≤ sizeLine := by
  rw [sizeLine_eq]
  omega
theorem pe_err (R : ErrC X.prog X.w X.K X.mg X.base x C f) (hr : Room 2 X.A) (hg : Gl X x) (he : PE X e te) (hdb : (x == ("__debug__" : Str)) = false := by decide)
    (hs : starEach [e] X.env = (false, eval e X.env) :: starEach [] X.env := by rfl) : PE X (.Call (.Name x p) [e] [] pos) (tErr C f te) := by
  refine ⟨fun pins s σ H Q I h => ?_⟩
  obtain ⟨fI, fd, iC, tI, F1, hb, _⟩ := R.init
  obtain ⟨nm, q, N, bs, bm, sn, sub, ab, col, dd, k0, k1, k2, k3, k5, hC, hbm⟩ := R.T.cls
  refine wpAny_Call_Name_kw (ld_glob I hg R.gC ?_ hdb)
  refine PySem.W.callWith_K (h₀ := X.base) I.ok.mod.kin R.T.kC ?_ hs (by rfl)
  rw [hs]
  show wpAny _ _ (spliced ((false, eval e X.env) :: backTo pos (starEach [] X.env))) _ _ s
  refine Calls.spliced_cons (thn (he.run pins s σ H _ I h) fun u s1 ⟨v, H1, I1, r1, q1⟩ => Calls.spliced_nil ⟨I1.kIn, ?_⟩)
  show wpAny _ _ (call (.ref C) [u]) _ _ _
  obtain ⟨hp, g, dr, tk, os⟩ := s1
  have hsz : hp.objs.size ≤ hp.objs.size + 1 := Nat.le_succ _
  have hn : H1 (hp.objs.size + 1) = none := I1.hok.fresh hsz
  have kk : ∀ b o, hp.get? b = some o → ((hp.push (PySem.W.kdv_tup [u])).push (PySem.HandSPX.excO C hp.objs.size)).get? b = some o := fun b o z => Heap.get?_push_of_some _ (Heap.get?_push_of_some _ z)
  have hget : ((hp.push (PySem.W.kdv_tup [u])).push (PySem.HandSPX.excO C hp.objs.size)).get? (hp.objs.size + 1) = some (PySem.HandSPX.excO C hp.objs.size) := by heap_get
  have I2 : Inv X pins σ (upd H1 (hp.objs.size + 1) (exo (hp.objs.size + 1) C none)) ⟨(hp.push (PySem.W.kdv_tup [u])).push (PySem.HandSPX.excO C hp.objs.size), g, dr, tk, os⟩ :=
    I1.laid (t' := tk) (a := hp.objs.size + 1) (o := exo (hp.objs.size + 1) C none) (h' := (hp.push (PySem.W.kdv_tup [u])).push (PySem.HandSPX.excO C hp.objs.size)) kk hsz (exo_ok hget)
  have r2 : Vals [V.ref (hp.objs.size + 1), v] [Value.ref (hp.objs.size + 1), u] := .cons rfl (.cons r1 .nil)
  have bt := hb _ [Value.ref (hp.objs.size + 1), u] I2.kIn rfl
  rw [List.append_nil] at bt
  refine wpAny_call (PySem.HandSPX.call_own PySem.F.excBase_ValueError (fun Y => PySem.HandSPX.refsVE_contains Y bm hbm) (I1.kIn _ _ hC) (PySem.W.looks_findIn I1.kIn iC) (fun self => PySem.W.bind_fn I1.kIn self tI) (err_size (Nat.le_refl 1))
    (codeAny_mono (F1.run _ X.stack _ _ ⟨[Value.ref (hp.objs.size + 1), u], []⟩ [Value.ref (hp.objs.size + 1), u] _ (fun y H2 => y = .non ∧ Q (.ref (hp.objs.size + 1)) H2) (fun _ _ _ => False) (hr.make C [u] []) (I2.env0.make C [u] []) bt r2
      ⟨_, v, rfl, upd_same, fun dx hdx nx => ⟨rfl, ?_⟩⟩) fun r s' hq' => ?_))
  · have hd1 : H1 dx = none := by
      rw [upd_ne nx] at hdx
      exact hdx
    obtain ⟨z1, z2⟩ := err_laid (C := C) (f := f) (v := v) hn hd1 nx
    exact q1 _ _ hn z1 z2
  · cases r with
    | error er => exact False.elim hq'
    | ok fl =>
      cases fl with
      | ret u' =>
        obtain ⟨y, H', I3, ry, ey, q3⟩ := I2.after hq'
        subst ey
        exact ⟨ry, ⟨V.ref (hp.objs.size + 1), H', I3, rfl, q3⟩⟩
      | next => exact False.elim hq'
      | brk => exact False.elim hq'
      | cont => exact False.elim hq'
/-- of a list with one item -/
def only1 (R : V → Hp → Prop) : List V → Hp → Prop
  | [v], H => R v H
  | _, _ => False
theorem only1_is {R : V → Hp → Prop} : ∀ {vs : List V} {H : Hp}, only1 R vs H → ∃ v, vs = [v] ∧ R v H
  | [v], _, h => ⟨v, rfl, h⟩
  | [], _, h => h.elim
  | _ :: _ :: _, _, h => h.elim
/-- X(f=e) -/
theorem pe_errK (R : ErrC X.prog X.w X.K X.mg X.base x C f) (hr : Room 2 X.A) (hg : Gl X x) (he : PE X e te) (hdb : (x == ("__debug__" : Str)) = false := by decide) : PE X (.Call (.Name x p) [] [⟨some f, e, kpos⟩] pos) (tErr C f te) := by
  refine ⟨fun pins s σ H Q I h => ?_⟩
  obtain ⟨fI, fd, iC, tI, F1, _, hb⟩ := R.init
  obtain ⟨nm, q, N, bs, bm, sn, sub, ab, col, dd, k0, k1, k2, k3, k5, hC, hbm⟩ := R.T.cls
  refine wpAny_Call_Name_kw (ld_glob I hg R.gC ?_ hdb)
  have hk : PK X [⟨some f, e, kpos⟩] (tCons te tNil) := pk_cons he pk_nil
  refine PySem.W.callWith_KW0 (h₀ := X.base) I.ok.mod.kin R.T.kC (by rfl) (thn (hk.run pos pins s σ H (only1 fun v H1 => ∀ a H2, H1 a = none → Ex H1 H2 → ErrAt H2 a C f v → Q (.ref a) H2) I h) fun us s1 ⟨vs, H1, I1, r1, q0⟩ => ⟨I1.kIn, ?_⟩)
  obtain ⟨v, ev, q1⟩ := only1_is q0
  subst ev
  obtain ⟨u, eu, r9⟩ := Vals.one r1
  subst eu
  show wpAny _ _ (call (.ref C) [] [(f, u)]) _ _ _
  obtain ⟨hp, g, dr, tk, os⟩ := s1
  have hsz : hp.objs.size ≤ hp.objs.size + 1 := Nat.le_succ _
  have hn : H1 (hp.objs.size + 1) = none := I1.hok.fresh hsz
  have kk : ∀ b o, hp.get? b = some o → (UX.mkd hp C).get? b = some o := fun b o z => Heap.get?_push_of_some _ (Heap.get?_push_of_some _ z)
  have hget : (UX.mkd hp C).get? (hp.objs.size + 1) = some (PySem.HandSPX.excO C hp.objs.size) := by heap_get
  have I2 : Inv X pins σ (upd H1 (hp.objs.size + 1) (exo (hp.objs.size + 1) C none)) ⟨UX.mkd hp C, g, dr, tk, os⟩ :=
    I1.laid (t' := tk) (a := hp.objs.size + 1) (o := exo (hp.objs.size + 1) C none) (h' := UX.mkd hp C) kk hsz (exo_ok hget)
  have r2 : Vals [V.ref (hp.objs.size + 1), v] [Value.ref (hp.objs.size + 1), u] := .cons rfl (.cons r9 .nil)
  have bt := hb ⟨UX.mkd hp C, g, dr, tk, os⟩ (Value.ref (hp.objs.size + 1)) u
  refine wpAny_call (UX.kw_call PySem.F.excBase_ValueError (fun Y => PySem.HandSPX.refsVE_contains Y bm hbm) (I1.kIn _ _ hC) (PySem.W.looks_findIn I1.kIn iC) (fun self => PySem.W.bind_fn I1.kIn self tI)
    (codeAny_mono (F1.run _ X.stack _ _ ⟨[Value.ref (hp.objs.size + 1)], [(f, u)]⟩ [Value.ref (hp.objs.size + 1), u] _ (fun y H2 => y = .non ∧ Q (.ref (hp.objs.size + 1)) H2) (fun _ _ _ => False) (hr.make C [] [(f, u)]) (I2.env0.make C [] [(f, u)]) bt r2
      ⟨_, v, rfl, upd_same, fun dx hdx nx => ⟨rfl, ?_⟩⟩) fun r s' hq' => ?_))
  · have hd1 : H1 dx = none := by
      rw [upd_ne nx] at hdx
      exact hdx
    obtain ⟨z1, z2⟩ := err_laid (C := C) (f := f) (v := v) hn hd1 nx
    exact q1 _ _ hn z1 z2
  · cases r with
    | error er => exact False.elim hq'
    | ok fl =>
      cases fl with
      | ret u' =>
        obtain ⟨y, H', I3, ry, ey, q3⟩ := I2.after hq'
        subst ey
        exact ⟨ry, ⟨V.ref (hp.objs.size + 1), H', I3, rfl, q3⟩⟩
      | next => exact False.elim hq'
      | brk => exact False.elim hq'
      | cont => exact False.elim hq'
/-- e.f, e an error that stands -/
def tErrF (K : PySem.W.Frag) (f : Str) (te : TE) : TE := fun σ H Q => te σ H fun x H1 => ∃ (a C : Addr) (v : V), x = .ref a ∧ XfC K C ∧ PySem.W.findIn K (.ref C) f = some none ∧ ErrAt H1 a C f v ∧ Q v H1
theorem pe_errF (he : PE X e te) (hb : attributeBase e f X.env (eval e X.env) = eval e X.env := by rfl) : PE X (.Attribute e f pos) (tErrF X.K f te) := by
  refine ⟨fun pins s σ H Q I h => ?_⟩
  refine attr_of hb (thn (he.run pins s σ H _ I h) fun u s1 hh => ?_)
  obtain ⟨x, H1, I1, rx, a, C, v, ex, R, hno, ⟨d, ea, ed⟩, q⟩ := hh
  subst ex
  obtain rfl : u = Value.ref a := rx
  obtain ⟨t1, ho⟩ := exo_at I1.hok ea
  obtain ⟨mA, hns, rel⟩ := exd_at I1.hok ed
  obtain ⟨od, hd, hl⟩ := lookIn_ns hns
  have l1 : [(f, v)].lookup f = some v := by simp [List.lookup]
  obtain ⟨y, hy, ry⟩ := RelO.some_of (v := v) (o := mA f) (by rw [← l1]; exact rel f)
  have J : PySem.W.InstAt s1.heap a { cls := .ref C, dict := some d, data := .fields #[.ref t1, .none, .none, .none, .bool false, .none] } C (some od) := ⟨ho, rfl, rfl, hd⟩
  exact HandSPX.exc_get I1.kIn J R.ga R.gg R.exC (PySem.W.findObj_own R.hdC hno rfl (by rw [hl, hy])) (handed_of ry) ⟨v, H1, I1.tok _, ry, q⟩
/-- X(): an error of a class without own __init__ -/
theorem pe_err0 {bmB : List Value} {B nid iid : String} (F : ExcBaseFacts B nid iid bmB) (q : PySem.W.excIn X.K C bmB nid = true) (gC : X.mg x = some (.ref C)) (kC : PySem.W.keepIn X.K (.ref C) = true) (hg : Gl X x) (hdb : (x == ("__debug__" : Str)) = false := by decide) :
    PE X (.Call (.Name x p) [] [] pos) (fun _ H Q => ∀ a, H a = none → Q (.ref a) (upd H a (ExO (.ref C) a))) := by
  refine ⟨fun pins s σ H Q I h => ?_⟩
  refine wpAny_Call_Name_kw (ld_glob I hg gC ?_ hdb)
  refine PySem.W.callWith_K0 I.kIn kC ?_
  show wpAny _ _ (call (.ref C) []) _ _ _
  obtain ⟨bm, N, nm, qn, bs, hdct, sn, sub, ab, col, dd, k0, k1, k2, k3, k5, mN, hC, hN, hni, T⟩ := exc_obj I.kIn q
  refine wpAny_call_exc_subT F T hC hN hni (fun h' a hm => ?_) (Nat.zero_le _)
  have hn : H a = none := I.hok.gone hm.new
  obtain ⟨t, ht, _, _⟩ := hm.there
  exact ⟨.ref a, upd H a (ExO (.ref C) a), I.laidN hm.keeps hm.new hn (exO_ok ht ⟨rfl, rfl⟩ rfl rfl rfl (show 4 < 6 by decide)), rfl, h a hn⟩
/-- what the class D says, so that isinstance asks its instances rightly -/
structure IsiC (K : PySem.W.Frag) (D : Addr) : Prop where
  cl : (PySem.W.clsIn K D).isSome = true
  hg : PySem.W.findIn K (.ref D) "__getattribute__" = some (some (.builtin "BaseException.__getattribute__"))
  hk : PySem.W.findIn K (.ref D) "__getattr__" = some none
  hs : PySem.W.subIn K (.ref D) (.type "BaseException") = some true
  ha : PySem.W.findIn K (.ref D) "__class__" = some (some (.builtin "object.__class__"))
  hn : PySem.W.specialIn K (.builtin "object.__class__") "__get__" = some (some (.builtin "getset_descriptor.__get__"))
  ht : PySem.W.takesIn K (.builtin "object.__class__") = some true
  hm : PySem.W.mroIn K D (.type "object") = some true
/-- isinstance(e, c), e an error that stands -/
def rIsErr (K : PySem.W.Frag) : List V → Hp → VK → Prop := fun xs H Q => ∃ (a D : Addr) (c : V) (cv : Value) (b : Bool), xs = [.ref a, c] ∧ ErrOf H a D ∧ IsiC K D ∧ ClsV c cv ∧ PySem.W.kitOne K (.ref D) cv = some b ∧ Q (.bl b) H
theorem call_isErr : CallR X (.builtin "isinstance") (rIsErr X.K) := by
  intro pins s σ H xs us Q I r h
  obtain ⟨a, D, c, cv, b, rfl, he, Z, hc, e, q⟩ := h
  obtain ⟨u1, u2, rfl, r1, r2⟩ := vals2 r
  have e2 := hc.eq r2
  subst e2
  obtain rfl : u1 = Value.ref a := r1
  have J : ∃ (ox : Obj) (od : Option Obj), PySem.W.InstAt s.heap a ox D od := by
    rcases he with ⟨d, fs, ea, ed⟩ | ea
    · obtain ⟨t1, ho⟩ := exo_at I.hok ea
      obtain ⟨mA, hns, rel⟩ := exd_at I.hok ed
      obtain ⟨od, hd, hl⟩ := lookIn_ns hns
      exact ⟨_, some od, ho, rfl, rfl, hd⟩
    · obtain ⟨⟨oe, vs, h1, h2, h3, _⟩, _, _⟩ := (show ObjOk X.prog X.w H s.heap a (.ext _) from I.hok a _ ea)
      refine ⟨oe, none, h1, h2.1, ?_, ?_⟩
      · unfold PySem.W.notCls
        rw [h3]
      · rw [h2.2]
        trivial
  obtain ⟨ox, od, J⟩ := J
  exact PySem.W.kia_one (PySem.W.kitx_exc Z.cl Z.hg Z.hk Z.hs Z.ha Z.hn Z.ht Z.hm) I.kIn J e (fun z => nomatch z) fun tk => ⟨.bl b, H, I.tok tk, rfl, q⟩
end
end U

set_option Elab.async false
set_option linter.all false
set_option maxRecDepth 100000
set_option maxHeartbeats 4000000
namespace U
open PySem PySem.Spec PyProof.Rows L2
open Evl (Ex)
section
variable {X : Cx} {tg : Expr}
/-- a list or a tuple, item by item -/
def iSeq (K : PySem.W.Frag) (tl : TE) : TI := fun σ H R => tl σ H fun x H1 => ∃ a, x = .ref a ∧ (((∃ xs, SqL K H1 a xs) ∧ R (Itl K a) H1) ∨ ((∃ xs, SqT K H1 a xs) ∧ R (Itt K a) H1))
theorem pi_seq {l : Expr} {tl : TE} (hl : PE X l tl) : PI X tg l (iSeq X.K tl) := by
  refine ⟨fun pins s σ H R I h => ?_⟩
  refine thn (hl.run pins s σ H _ I h) fun v s1 ⟨x, H1, I1, r1, q1⟩ => ?_
  obtain ⟨a, e, q⟩ := q1
  subst e
  cases r1
  have fresh : ∀ b ∈ [s1.heap.objs.size], b = s1.heap.objs.size := fun b hb => by simpa using hb
  rcases q with ⟨⟨xs, hq⟩, q⟩ | ⟨⟨xs, hq⟩, q⟩
  · obtain ⟨its, rv, p, hz⟩ := I1.list hq
    refine wpAny_pyIter_list p.isList ?_
    refine ⟨s1.heap.objs.size, [s1.heap.objs.size], _, _, H1, rfl, I1.kept (t' := s1.toks) fun b o e => Heap.get?_push_of_some _ e, turn_list a _, ⟨_, Heap.get?_push_size _ rfl, rfl, rfl⟩, fun b hb => ?_, q⟩
    rw [fresh b hb]
    exact I1.fpOk (Nat.le_refl _) (I1.hok.fresh (Nat.le_refl _))
  · obtain ⟨its, rv, p, hz⟩ := I1.tuple hq
    refine wpAny_pyIter_tuple (show s1.heap.IsTuple a its.toArray from p) ?_
    refine ⟨s1.heap.objs.size, [s1.heap.objs.size], _, _, H1, rfl, I1.kept (t' := s1.toks) fun b o e => Heap.get?_push_of_some _ e, turn_tuple a _, ⟨_, Heap.get?_push_size _ rfl, rfl, rfl⟩, fun b hb => ?_, q⟩
    rw [fresh b hb]
    exact I1.fpOk (Nat.le_refl _) (I1.hok.fresh (Nat.le_refl _))
/-- enumerate of a list or a tuple -/
def iEnumA (K : PySem.W.Frag) (ta : TA) : TI := fun σ H R => ta σ H fun vs H1 => ∃ a xs, vs = [.ref a] ∧ ((SqL K H1 a xs ∧ R (Ite K a) H1) ∨ (SqT K H1 a xs ∧ R (UE.IteT K a) H1))
theorem pi_enumA {e : Expr} {ta : TA} {p pos tpos : Pos} {elts : List Expr} {kk : Nat} (hg : Gl X "enumerate") (hm : X.mg "enumerate" = none) (ha : PA X [e] ta) (hs : starEach [e] X.env = [(false, eval e X.env)] := by rfl) :
    PI X (.Tuple elts kk tpos) (.Call (.Name "enumerate" p) [e] [] pos) (iEnumA X.K ta) := by
  refine ⟨fun pins s σ H R I h => ?_⟩
  refine Call_ (ld_blt I hg hm boot_enumerate (PyProof.Rows.callWith_type1 (thn (ha.run pos pins s σ H _ I h) fun us s1 ⟨vs, H1, I1, r1, q1⟩ => ?_) hs rfl))
  obtain ⟨a, xs, ex, q⟩ := q1
  subst ex
  have hb2 : ∀ b ∈ [s1.heap.objs.size + 1, s1.heap.objs.size], s1.heap.objs.size ≤ b := fun b hb => by
    have e' : b = s1.heap.objs.size + 1 ∨ b = s1.heap.objs.size := by simpa using hb
    omega
  cases r1 with
  | cons r rr =>
    cases rr
    cases r
    rcases q with ⟨hq, q⟩ | ⟨hq, q⟩
    · obtain ⟨its, rv, p', hz⟩ := I1.list hq
      refine call_enumerate_list p'.isList fun h' he hit hsz hk => wpAny_pyIter_enum he ?_
      have I2 : Inv X pins σ H1 { s1 with heap := h' } := I1.kept (t' := s1.toks) hk
      exact ⟨s1.heap.objs.size + 1, [s1.heap.objs.size + 1, s1.heap.objs.size], _, _, H1, rfl, I2, turn_enum a (s1.heap.objs.size + 1) s1.heap.objs.size, ⟨⟨.none, he⟩, hit, Nat.succ_ne_self _⟩, fun b hb => I1.fpOk (hb2 b hb) (I1.hok.fresh (hb2 b hb)), q⟩
    · obtain ⟨its, rv, p', hz⟩ := I1.tuple hq
      obtain ⟨oT, hoT, _⟩ := id p'
      have la : a < s1.heap.objs.size := Heap.lt_size hoT
      refine UE.call_enumT (its := its.toArray) p' fun h' he hit hsz hk => wpAny_pyIter_enum he ?_
      have I2 : Inv X pins σ H1 { s1 with heap := h' } := I1.kept (t' := s1.toks) hk
      exact ⟨s1.heap.objs.size + 1, [s1.heap.objs.size + 1, s1.heap.objs.size], _, _, H1, rfl, I2, UE.turn_enumT a (s1.heap.objs.size + 1) s1.heap.objs.size, ⟨⟨.none, he⟩, hit, Nat.succ_ne_self _, Nat.ne_of_lt la, Nat.ne_of_lt (Nat.lt_succ_of_lt la)⟩, fun b hb => I1.fpOk (hb2 b hb) (I1.hok.fresh (hb2 b hb)), q⟩
end
section
variable {K : PySem.W.Frag} {a : Addr} {xs : List V}
theorem walk_enumT : Walk (UE.IteT K a) xs.length (fun H => SqT K H a xs) (YPair (fun i => some (.int (i : Nat))) (fun i => xs[i]?)) := by
  refine ⟨fun i _ hi q => ⟨xs, xs[i], q, by simp [hi]⟩, fun _ q => ⟨xs, q, Nat.le_refl _⟩, fun i H v H' _ q y => ?_⟩
  obtain ⟨T, x, h1, h2, h3, h4⟩ := y
  exact ⟨T, .int (i : Nat), x, h1, h2, h3, rfl, h4 xs q⟩
end
/-! ### a comprehension whose items are data -/
section
variable {K : PySem.W.Frag} {L : List Addr} {σ σ2 : L2.St} {H H' H1 H2 : Hp} {te tl : TE} {ta : TA} {tt : TT} {v : V} {d : PyData} {ds : List PyData} {l a Dl : Addr} {xs : List V} {f : Nat → List PyData} {i : Nat}
theorem w_past (hn : H Dl = none) (e : Ex H H') : Ex (W L H) (W (Dl :: L) H') := fun b o h => by
  obtain ⟨h1, n⟩ := w_in h
  have ne : b ≠ Dl := ne_of_none h1 hn
  exact w_of (fun m => (List.mem_cons.mp m).elim ne n) (e b o h1)
/-- evaluates to a new list of data -/
def EvG (K : PySem.W.Frag) (L : List Addr) (te : TE) (σ : L2.St) (H : Hp) (ds : List PyData) : Prop := ∀ H1, Ex H H1 → ∀ Q : VK, (∀ p H2, H1 p = none → Ex H1 H2 → Gr K L H2 p ds → Q (.ref p) H2) → te σ H1 Q
theorem EvG.mono (e : Ex H H') (h : EvG K L te σ H ds) : EvG K L te σ H' ds := fun H1 a Q q => h H1 (e.trans a) Q q
theorem EvG.dat (h : EvG K L te σ H ds) : EvD K L te σ H (.list ds) := fun H1 e Q q => h H1 e _ fun p H2 hp e2 g => q (.ref p) H2 e2 g.dp
def Cmd (K : PySem.W.Frag) (L : List Addr) (H : Hp) (f : Nat → List PyData) (Dl : Addr) (i : Nat) (H' : Hp) : Prop := H Dl = none ∧ Ex H H' ∧ Gr K L H' Dl (f i)
theorem cmd_0 (hL : Hid L H) (hn : H Dl = none) (f0 : f 0 = []) : Cmd K L H f Dl 0 (upd H Dl (.lst [])) := ⟨hn, Ex.new hn, by
  rw [f0]
  exact gr_new hL hn .nil⟩
theorem cmd_yes (p : Cmd K L H f Dl i H') (hz : (f i).length < 100000) (e2 : Ex H' H2) (he : EvD K (Dl :: L) te σ2 H2 d) (hf : f (i + 1) = f i ++ [d]) :
    te σ2 H2 fun y H4 => ∃ acc, H4 Dl = some (.lst acc) ∧ acc.length < sizeLine ∧ Cmd K L H f Dl (i + 1) (upd H4 Dl (.lst (acc ++ [y]))) := by
  obtain ⟨p1, p2, n, acc, p3, p4⟩ := p
  refine he H2 (Ex.refl H2) _ fun y H4 e4 hy => ⟨acc, e4 Dl _ (e2 Dl _ p3), Evl.sz_lt (by rw [dpa_len p4]; exact hz), p1, Evl.Ex.mut ((p2.trans e2).trans e4) p1, ?_⟩
  rw [hf]
  exact gr_app n (e4 Dl _ (e2 Dl _ p3)) (p4.up (w_ex (e2.trans e4))) hy
theorem cmd_no (p : Cmd K L H f Dl i H') (e2 : Ex H' H2) (hf : f (i + 1) = f i) : Cmd K L H f Dl (i + 1) H2 := by
  obtain ⟨p1, p2, p3⟩ := p
  rw [← hf] at p3
  exact ⟨p1, p2.trans e2, p3.up e2⟩
/-- [.. for x in a list or a tuple of data] -/
theorem eg_seq {j : Nat} {vs : List Nat} {g : PyData → PyData} (h : Evl.Ev tl σ H (.ref a)) (hx : SqL K H a xs ∨ SqT K H a xs) (hd : DpAll K (W L H) xs ds) (hL : Hid L H) (hz : ds.length ≤ 50000) (hw : ∀ x, wipe ((wipe σ vs).set j (some x)) vs = wipe σ vs)
    (he : ∀ L' (x : V) d H1, d ∈ ds → Hid L' H1 → Ex H H1 → Dp K (W L' H1) x d → EvD K L' te ((wipe σ vs).set j (some x)) H1 (g d)) : EvG K L (tLc (iSeq K tl) (gName j) tYes te vs) σ H (ds.map g) := fun H0 e0 Q q => h H0 e0 _ fun H1 e1 => by
  have hlen := dpa_len hd
  have turn : ∀ (Dl : Addr) (i : Nat) (x : V) (H2 H3 : Hp), i < xs.length → Cmd K L H1 (fun i => (ds.take i).map g) Dl i H2 → YAt xs i H2 x H3 → gName j x (wipe σ vs) H3 fun σ2 H2 => wipe σ2 vs = wipe σ vs ∧ tYes σ2 H2 fun b H3 =>
      if b = true then te σ2 H3 fun y H4 => ∃ acc, H4 Dl = some (.lst acc) ∧ acc.length < sizeLine ∧ Cmd K L H1 (fun i => (ds.take i).map g) Dl (i + 1) (upd H4 Dl (.lst (acc ++ [y]))) else Cmd K L H1 (fun i => (ds.take i).map g) Dl (i + 1) H3 := by
    intro Dl i x H2 H3 hi p yp
    obtain ⟨rfl, hu⟩ := yp
    obtain ⟨d, hd1, hd2⟩ := dpa_get hd hu
    obtain ⟨p1, p2, p3⟩ := id p
    refine ⟨hw x, ?_⟩
    refine yes_lc (A := fun H3 => te ((wipe σ vs).set j (some x)) H3 fun y H4 => ∃ acc, H4 Dl = some (.lst acc) ∧ acc.length < sizeLine ∧ Cmd K L H1 (fun i => (ds.take i).map g) Dl (i + 1) (upd H4 Dl (.lst (acc ++ [y])))) (B := fun H3 => Cmd K L H1 (fun i => (ds.take i).map g) Dl (i + 1) H3) ?_
    refine cmd_yes p (by simp; omega) (Ex.refl _) (he _ x d _ (List.mem_of_getElem? hd1) ?_ ((e0.trans e1).trans p2) (hd2.up (w_past (Evl.fresh_back (e0.trans e1) p1) ((e0.trans e1).trans p2)))) ?_
    · intro b hb
      rcases List.mem_cons.mp hb with z | z
      · rw [z]
        exact p3.ne
      · exact hid_ex ((e0.trans e1).trans p2) hL b z
    · have hi' : i < ds.length := by omega
      rw [List.take_add_one, hd1]
      simp
  have fin : ∀ Dl H2, Cmd K L H1 (fun i => (ds.take i).map g) Dl xs.length H2 → Q (.ref Dl) H2 := fun Dl H2 p => by
    obtain ⟨p1, p2, p3⟩ := p
    refine q Dl H2 (Evl.fresh_back e1 p1) (e1.trans p2) ?_
    have e : (ds.take xs.length).map g = ds.map g := by rw [hlen, List.take_length]
    rw [← e]
    exact p3
  have hL1 : Hid L H1 := hid_ex (e0.trans e1) hL
  refine ⟨a, rfl, ?_⟩
  rcases hx with x1 | x1
  · refine .inl ⟨⟨xs, Evl.ex_l (e0.trans e1) x1⟩, fun Dl hD => ?_⟩
    exact lc_it (walk_list (xs := xs)) (Cmd K L H1 (fun i => (ds.take i).map g) Dl) (cmd_0 hL1 hD rfl) (fun i H2 _ p => Evl.ex_l ((e0.trans e1).trans p.2.1) x1) (fun i x H2 H3 hi p y => turn Dl i x H2 H3 hi p y) (fun H2 p => fin Dl H2 p)
  · refine .inr ⟨⟨xs, Evl.ex_t (e0.trans e1) x1⟩, fun Dl hD => ?_⟩
    exact lc_it (walk_tup (xs := xs)) (Cmd K L H1 (fun i => (ds.take i).map g) Dl) (cmd_0 hL1 hD rfl) (fun i H2 _ p => Evl.ex_t ((e0.trans e1).trans p.2.1) x1) (fun i x H2 H3 hi p y => turn Dl i x H2 H3 hi p y) (fun H2 p => fin Dl H2 p)
/-- [.. for p, q in a list or a tuple of pairs of data] -/
theorem eg_pairs {j1 j2 : Nat} {vs : List Nat} {g : PyData → PyData} (h : Evl.Ev tl σ H (.ref a)) (hx : SqL K H a xs ∨ SqT K H a xs) (hd : DpAll K (W L H) xs ds) (hL : Hid L H) (hz : ds.length ≤ 50000)
    (h2 : ∀ d ∈ ds, ∃ d1 d2, d = .tuple [d1, d2]) (hw : ∀ x y, wipe (((wipe σ vs).set j1 (some x)).set j2 (some y)) vs = wipe σ vs)
    (he : ∀ L' (x y : V) d1 d2 H1, PyData.tuple [d1, d2] ∈ ds → Hid L' H1 → Ex H H1 → Dp K (W L' H1) x d1 → Dp K (W L' H1) y d2 → EvD K L' te (((wipe σ vs).set j1 (some x)).set j2 (some y)) H1 (g (.tuple [d1, d2]))) :
    EvG K L (tLc (iSeq K tl) (gTup K 2 (gCons (gName j1) (gCons (gName j2) gNil))) tYes te vs) σ H (ds.map g) := fun H0 e0 Q q => h H0 e0 _ fun H1 e1 => by
  have hlen := dpa_len hd
  have turn : ∀ (Dl : Addr) (i : Nat) (x : V) (H2 H3 : Hp), i < xs.length → Cmd K L H1 (fun i => (ds.take i).map g) Dl i H2 → YAt xs i H2 x H3 → gTup K 2 (gCons (gName j1) (gCons (gName j2) gNil)) x (wipe σ vs) H3 fun σ2 H2 => wipe σ2 vs = wipe σ vs ∧ tYes σ2 H2 fun b H3 =>
      if b = true then te σ2 H3 fun y H4 => ∃ acc, H4 Dl = some (.lst acc) ∧ acc.length < sizeLine ∧ Cmd K L H1 (fun i => (ds.take i).map g) Dl (i + 1) (upd H4 Dl (.lst (acc ++ [y]))) else Cmd K L H1 (fun i => (ds.take i).map g) Dl (i + 1) H3 := by
    intro Dl i x H2 H3 hi p yp
    obtain ⟨rfl, hu⟩ := yp
    obtain ⟨d, hd1, hd2⟩ := dpa_get hd hu
    obtain ⟨d1, d2, rfl⟩ := h2 d (List.mem_of_getElem? hd1)
    obtain ⟨p1, p2, p3⟩ := id p
    have hd3 := hd2.up (w_past (Evl.fresh_back (e0.trans e1) p1) ((e0.trans e1).trans p2))
    cases hd3 with
    | @tup T ys _ hT ha =>
      cases ha with
      | @cons u1 us1 _ _ r1 rr =>
        cases rr with
        | @cons u2 us2 _ _ r2 rr2 =>
          cases rr2
          refine ⟨T, [u1, u2], rfl, Evl.ex_t w_sub hT, rfl, u1, [u2], rfl, u2, [], rfl, rfl, hw u1 u2, ?_⟩
          refine yes_lc (A := fun H3 => te ((List.set (wipe σ vs) j1 (some u1)).set j2 (some u2)) H3 fun y H4 => ∃ acc, H4 Dl = some (.lst acc) ∧ acc.length < sizeLine ∧ Cmd K L H1 (fun i => (ds.take i).map g) Dl (i + 1) (upd H4 Dl (.lst (acc ++ [y])))) (B := fun H3 => Cmd K L H1 (fun i => (ds.take i).map g) Dl (i + 1) H3) ?_
          refine cmd_yes p (by simp; omega) (Ex.refl _) (he _ u1 u2 d1 d2 _ (List.mem_of_getElem? hd1) ?_ ((e0.trans e1).trans p2) r1 r2) ?_
          · intro b hb
            rcases List.mem_cons.mp hb with z | z
            · rw [z]
              exact p3.ne
            · exact hid_ex ((e0.trans e1).trans p2) hL b z
          · rw [List.take_add_one, hd1]
            simp
  have fin : ∀ Dl H2, Cmd K L H1 (fun i => (ds.take i).map g) Dl xs.length H2 → Q (.ref Dl) H2 := fun Dl H2 p => by
    obtain ⟨p1, p2, p3⟩ := p
    refine q Dl H2 (Evl.fresh_back e1 p1) (e1.trans p2) ?_
    have e : (ds.take xs.length).map g = ds.map g := by rw [hlen, List.take_length]
    rw [← e]
    exact p3
  have hL1 : Hid L H1 := hid_ex (e0.trans e1) hL
  refine ⟨a, rfl, ?_⟩
  rcases hx with x1 | x1
  · refine .inl ⟨⟨xs, Evl.ex_l (e0.trans e1) x1⟩, fun Dl hD => ?_⟩
    exact lc_it (walk_list (xs := xs)) (Cmd K L H1 (fun i => (ds.take i).map g) Dl) (cmd_0 hL1 hD rfl) (fun i H2 _ p => Evl.ex_l ((e0.trans e1).trans p.2.1) x1) (fun i x H2 H3 hi p y => turn Dl i x H2 H3 hi p y) (fun H2 p => fin Dl H2 p)
  · refine .inr ⟨⟨xs, Evl.ex_t (e0.trans e1) x1⟩, fun Dl hD => ?_⟩
    exact lc_it (walk_tup (xs := xs)) (Cmd K L H1 (fun i => (ds.take i).map g) Dl) (cmd_0 hL1 hD rfl) (fun i H2 _ p => Evl.ex_t ((e0.trans e1).trans p.2.1) x1) (fun i x H2 H3 hi p y => turn Dl i x H2 H3 hi p y) (fun H2 p => fin Dl H2 p)
/-- the items at the places that c names -/
def sel (c : Nat → Bool) (ds : List PyData) (n : Nat) : List PyData := (List.range n).flatMap fun i => if c i then (ds[i]?).toList else []
theorem sel_step {c : Nat → Bool} {n : Nat} : sel c ds (n + 1) = sel c ds n ++ (if c n then (ds[n]?).toList else []) := by
  unfold sel
  rw [List.range_succ, List.flatMap_append]
  simp
theorem sel_len {c : Nat → Bool} : ∀ n, (sel c ds n).length ≤ n
  | 0 => by simp [sel]
  | n + 1 => by
    have q := sel_len (c := c) n
    rw [sel_step, List.length_append]
    have z : (if c n = true then (ds[n]?).toList else []).length ≤ 1 := by
      split
      · cases ds[n]? <;> simp
      · simp
    omega
theorem sel_mem {c : Nat → Bool} {n : Nat} {d : PyData} (h : d ∈ sel c ds n) : d ∈ ds := by
  unfold sel at h
  obtain ⟨i, _, hi⟩ := List.mem_flatMap.mp h
  split at hi
  · exact List.mem_of_getElem? (by simpa using hi)
  · cases hi
/-- [x for i, x in enumerate(a list or a tuple of data) if c i] -/
theorem eg_enum {j1 j2 : Nat} {vs : List Nat} {c : Nat → Bool} (h : Evl.EvA ta σ H [.ref a]) (hx : SqL K H a xs ∨ SqT K H a xs) (hd : DpAll K (W L H) xs ds) (hL : Hid L H) (hz : ds.length ≤ 50000)
    (hw : ∀ x y, wipe (((wipe σ vs).set j1 (some x)).set j2 (some y)) vs = wipe σ vs)
    (ht : ∀ (x : V) (i : Nat) H1, i < ds.length → Ex H H1 → Evl.EvT tt (((wipe σ vs).set j1 (some (.int (i : Int)))).set j2 (some x)) H1 (c i)) (hn : ∀ x y, (((wipe σ vs).set j1 (some x)).set j2 (some y))[j2]? = some (some y)) :
    EvG K L (tLc (iEnumA K ta) (gTup K 2 (gCons (gName j1) (gCons (gName j2) gNil))) tt (tVar j2) vs) σ H (sel c ds ds.length) := fun H0 e0 Q q => h H0 e0 _ fun H1 e1 => by
  have hlen := dpa_len hd
  have turn : ∀ (Dl : Addr) (i : Nat) (x : V) (H2 H3 : Hp), i < xs.length → Cmd K L H1 (sel c ds) Dl i H2 → YPair (fun i => some (.int (i : Nat))) (fun i => xs[i]?) i H2 x H3 → gTup K 2 (gCons (gName j1) (gCons (gName j2) gNil)) x (wipe σ vs) H3 fun σ2 H2 => wipe σ2 vs = wipe σ vs ∧ tt σ2 H2 fun b H3 =>
      if b = true then (tVar j2) σ2 H3 fun y H4 => ∃ acc, H4 Dl = some (.lst acc) ∧ acc.length < sizeLine ∧ Cmd K L H1 (sel c ds) Dl (i + 1) (upd H4 Dl (.lst (acc ++ [y]))) else Cmd K L H1 (sel c ds) Dl (i + 1) H3 := by
    intro Dl i x H2 H3 hi p yp
    obtain ⟨T, u, w, rfl, hT, rfl, hu, hw'⟩ := yp
    have eu : u = .int (i : Int) := (Option.some.inj hu).symm
    subst eu
    have hw2 : xs[i]? = some w := hw'
    obtain ⟨d, hd1, hd2⟩ := dpa_get hd hw2
    obtain ⟨p1, p2, p3⟩ := id p
    refine ⟨T, [.int (i : Int), w], rfl, SqT.of upd_same, rfl, .int (i : Int), [w], rfl, w, [], rfl, rfl, hw _ w, ?_⟩
    have eN := ((e0.trans e1).trans p2).trans (Ex.new (o := .tup [.int (i : Int), w]) hT)
    refine ht w i _ (by omega) eN _ (Ex.refl _) _ fun H4 e4 => ?_
    have e24 : Ex H2 H4 := (Ex.new hT).trans e4
    by_cases hc : c i = true
    · rw [if_pos hc]
      refine cmd_yes (d := d) p (Nat.lt_of_le_of_lt (sel_len i) (by omega)) e24 (evd_var (hn _ w) (hd2.up (w_past (Evl.fresh_back (e0.trans e1) p1) (((e0.trans e1).trans p2).trans e24)))) ?_
      rw [sel_step, if_pos hc, hd1]
      rfl
    · rw [if_neg hc]
      refine cmd_no p e24 ?_
      rw [sel_step, if_neg hc, List.append_nil]
  have fin : ∀ Dl H2, Cmd K L H1 (sel c ds) Dl xs.length H2 → Q (.ref Dl) H2 := fun Dl H2 p => by
    obtain ⟨p1, p2, p3⟩ := p
    refine q Dl H2 (Evl.fresh_back e1 p1) (e1.trans p2) ?_
    rw [hlen] at p3
    exact p3
  have hL1 : Hid L H1 := hid_ex (e0.trans e1) hL
  refine ⟨a, xs, rfl, ?_⟩
  rcases hx with x1 | x1
  · refine .inl ⟨Evl.ex_l (e0.trans e1) x1, fun Dl hD => ?_⟩
    exact lc_it (walk_enum (xs := xs)) (Cmd K L H1 (sel c ds) Dl) (cmd_0 hL1 hD rfl) (fun i H2 _ p => Evl.ex_l ((e0.trans e1).trans p.2.1) x1) (fun i x H2 H3 hi p y => turn Dl i x H2 H3 hi p y) (fun H2 p => fin Dl H2 p)
  · refine .inr ⟨Evl.ex_t (e0.trans e1) x1, fun Dl hD => ?_⟩
    exact lc_it (walk_enumT (xs := xs)) (Cmd K L H1 (sel c ds) Dl) (cmd_0 hL1 hD rfl) (fun i H2 _ p => Evl.ex_t ((e0.trans e1).trans p.2.1) x1) (fun i x H2 H3 hi p y => turn Dl i x H2 H3 hi p y) (fun H2 p => fin Dl H2 p)
/-- tuple(a new list of data) -/
theorem evd_tupG (h : EvG K L te σ H ds) (hL : Hid L H) : EvD K L (tCB (fun xs H Q => ∃ p ys, xs = [.ref p] ∧ ((SqL K H p ys ∧ ∀ l, H l = none → Q (.ref l) (upd H l (.tup ys))) ∨ (SqT K H p ys ∧ Q (.ref p) H))) (tCons te tNil)) σ H (.tuple ds) := fun H1 e Q q =>
  h H1 e _ fun p H2 hp e2 g => by
    obtain ⟨n, ys, g1, g2⟩ := g
    refine ⟨p, ys, rfl, .inl ⟨SqL.of g1, fun r hr => ?_⟩⟩
    exact q (.ref r) _ (e2.trans (Ex.new hr)) (.tup (SqT.of (w_new (hid_ex (e.trans e2) hL) hr)) ((g2.up w_cons).up (w_ex (Ex.new hr))))
/-- tuple(x) of data that are a list or a tuple -/
theorem evd_tupD {x : V} (h : Evl.Ev te σ H x) (hd : Dp K (W L H) x (.list ds) ∨ Dp K (W L H) x (.tuple ds)) (hL : Hid L H) : EvD K L (tCB (fun xs H Q => ∃ p ys, xs = [.ref p] ∧ ((SqL K H p ys ∧ ∀ l, H l = none → Q (.ref l) (upd H l (.tup ys))) ∨ (SqT K H p ys ∧ Q (.ref p) H))) (tCons te tNil)) σ H (.tuple ds) := fun H1 e Q q =>
  h H1 e _ fun H2 e2 => by
    rcases hd with hd | hd
    · cases hd with
      | @lst p ys _ hs ha =>
        refine ⟨p, ys, rfl, .inl ⟨Evl.ex_l (w_sub.trans (e.trans e2)) hs, fun r hr => ?_⟩⟩
        exact q (.ref r) _ (e2.trans (Ex.new hr)) (.tup (SqT.of (w_new (hid_ex (e.trans e2) hL) hr)) (ha.up (w_ex ((e.trans e2).trans (Ex.new hr)))))
    · have hd' := hd
      cases hd with
      | @tup p ys _ hs ha =>
        exact ⟨p, ys, rfl, .inr ⟨Evl.ex_t (w_sub.trans (e.trans e2)) hs, q (.ref p) H2 e2 (hd'.up (w_ex (e.trans e2)))⟩⟩
/-- list(x) of data that are a list or a tuple -/
theorem eg_list {x : V} (h : Evl.Ev te σ H x) (hd : Dp K (W L H) x (.list ds) ∨ Dp K (W L H) x (.tuple ds)) (hL : Hid L H) : EvG K L (tCB (fun xs H Q => ∃ p ys, xs = [.ref p] ∧ (SqL K H p ys ∨ SqT K H p ys) ∧ ∀ l, H l = none → Q (.ref l) (upd H l (.lst ys))) (tCons te tNil)) σ H ds := fun H1 e Q q =>
  h H1 e _ fun H2 e2 => by
    rcases hd with hd | hd
    · cases hd with
      | @lst p ys _ hs ha =>
        refine ⟨p, ys, rfl, .inl (Evl.ex_l (w_sub.trans (e.trans e2)) hs), fun r hr => ?_⟩
        exact q r _ (Evl.fresh_back e2 hr) (e2.trans (Ex.new hr)) (gr_new (hid_ex (e.trans e2) hL) hr (ha.up (w_ex (e.trans e2))))
    · cases hd with
      | @tup p ys _ hs ha =>
        refine ⟨p, ys, rfl, .inr (Evl.ex_t (w_sub.trans (e.trans e2)) hs), fun r hr => ?_⟩
        exact q r _ (Evl.fresh_back e2 hr) (e2.trans (Ex.new hr)) (gr_new (hid_ex (e.trans e2) hL) hr (ha.up (w_ex (e.trans e2))))
end
end U

set_option Elab.async false
set_option linter.all false
set_option maxRecDepth 100000
set_option maxHeartbeats 2000000
/-! data with empty dicts among them -/
namespace U
open PySem L2
open Evl (Ex)
section
variable {K : PySem.W.Frag} {H H' : Hp}
mutual
inductive Dq (K : PySem.W.Frag) (H : Hp) : V → PyData → Prop
  | non : Dq K H .non .none
  | bl (b : Bool) : Dq K H (.bl b) (.bool b)
  | int (i : Int) : Dq K H (.int i) (.int i)
  | str (x : Str) : Dq K H (.str x) (.str x)
  | lst {a : Addr} {xs : List V} {ds : List PyData} : SqL K H a xs → DqAll K H xs ds → Dq K H (.ref a) (.list ds)
  | tup {a : Addr} {xs : List V} {ds : List PyData} : SqT K H a xs → DqAll K H xs ds → Dq K H (.ref a) (.tuple ds)
  | dct {a : Addr} : H a = some (.dK []) → Dq K H (.ref a) (.dict [])
inductive DqAll (K : PySem.W.Frag) (H : Hp) : List V → List PyData → Prop
  | nil : DqAll K H [] []
  | cons {v : V} {vs : List V} {d : PyData} {ds : List PyData} : Dq K H v d → DqAll K H vs ds → DqAll K H (v :: vs) (d :: ds)
end
mutual
theorem dq_of : ∀ (d : PyData) (v : V), Dp K H v d → Dq K H v d
  | .none, _, h => by cases h; exact .non
  | .bool _, _, h => by cases h; exact .bl _
  | .int _, _, h => by cases h; exact .int _
  | .str _, _, h => by cases h; exact .str _
  | .list ds, _, h => by
    cases h with
    | lst hs ha => exact .lst hs (dqa_of ds _ ha)
  | .tuple ds, _, h => by
    cases h with
    | tup hs ha => exact .tup hs (dqa_of ds _ ha)
  | .dict _, _, h => by cases h
theorem dqa_of : ∀ (ds : List PyData) (vs : List V), DpAll K H vs ds → DqAll K H vs ds
  | [], _, h => by cases h; exact .nil
  | d :: ds, _, h => by
    cases h with
    | cons h1 h2 => exact .cons (dq_of d _ h1) (dqa_of ds _ h2)
end
theorem _root_.L2.Dp.q {v : V} {d : PyData} (h : Dp K H v d) : Dq K H v d := dq_of d v h
mutual
theorem dq_mono (e : Ex H H') : ∀ (d : PyData) (v : V), Dq K H v d → Dq K H' v d
  | .none, _, h => by cases h; exact .non
  | .bool _, _, h => by cases h; exact .bl _
  | .int _, _, h => by cases h; exact .int _
  | .str _, _, h => by cases h; exact .str _
  | .list ds, _, h => by
    cases h with
    | lst hs ha => exact .lst (Evl.ex_l e hs) (dqa_mono e ds _ ha)
  | .tuple ds, _, h => by
    cases h with
    | tup hs ha => exact .tup (Evl.ex_t e hs) (dqa_mono e ds _ ha)
  | .dict _, _, h => by
    cases h with
    | dct h => exact .dct (e _ _ h)
theorem dqa_mono (e : Ex H H') : ∀ (ds : List PyData) (vs : List V), DqAll K H vs ds → DqAll K H' vs ds
  | [], _, h => by cases h; exact .nil
  | d :: ds, _, h => by
    cases h with
    | cons h1 h2 => exact .cons (dq_mono e d _ h1) (dqa_mono e ds _ h2)
end
theorem Dq.up {v : V} {d : PyData} (h : Dq K H v d) (e : Ex H H') : Dq K H' v d := dq_mono e d v h
theorem DqAll.up {vs : List V} {ds : List PyData} (h : DqAll K H vs ds) (e : Ex H H') : DqAll K H' vs ds := dqa_mono e ds vs h
theorem dqa_len : ∀ {vs : List V} {ds : List PyData}, DqAll K H vs ds → vs.length = ds.length
  | _, _, .nil => rfl
  | _, _, .cons _ t => congrArg Nat.succ (dqa_len t)
theorem dqa_get : ∀ {vs : List V} {ds : List PyData} {i : Nat} {v : V}, DqAll K H vs ds → vs[i]? = some v → ∃ d, ds[i]? = some d ∧ Dq K H v d
  | _, _, _, _, .nil, e => by simp at e
  | _, _, 0, _, .cons r _, e => by simp at e; subst e; exact ⟨_, rfl, r⟩
  | _, _, i + 1, x, .cons _ t, e => by
    obtain ⟨d, h1, h2⟩ := dqa_get (i := i) (v := x) t (by simpa using e)
    exact ⟨d, by simpa using h1, h2⟩
theorem dqa_app : ∀ {vs ws : List V} {ds es : List PyData}, DqAll K H vs ds → DqAll K H ws es → DqAll K H (vs ++ ws) (ds ++ es)
  | _, _, _, _, .nil, h => h
  | _, _, _, _, .cons r t, h => .cons r (dqa_app t h)
theorem dq_ty {v : V} {d : PyData} (h : Dq K H v d) : TyX K H v (.type (tyOf d)) := by
  cases h with
  | non => exact .base .non
  | bl b => exact .base (.bl b)
  | int i => exact .base (.int i)
  | str x => exact .base (.str x)
  | lst hs ha =>
    rcases hs with (h | ⟨o, h⟩) | ⟨o, its, n, h, c, _⟩
    · exact .base (.lst h)
    · exact .base (.frz h)
    · exact .kList h c
  | tup hs ha =>
    rcases hs with (h | ⟨o, h⟩) | ⟨o, its, n, h, c, _⟩
    · exact .base (.tup h)
    · exact .fTuple h
    · exact .kTuple h c
  | dct h => exact .base (.dK h)
end
section
variable {K : PySem.W.Frag} {σ : L2.St} {H : Hp} {te tb : TE} {v w : V} {d e : PyData} {b : Bool}
theorem evq_isi {n : String} (h : Evl.Ev te σ H v) (hd : Dq K H v d) (hb : kitB (tyOf d) n = some b) : Evl.Ev (tCB (rIsi K) (tCons te (tCons (tC (.ty n)) tNil))) σ H (.bl b) := fun H1 e1 Q q =>
  h H1 e1 _ fun H2 e2 => ⟨v, .ty n, _, _, b, rfl, .ty n, dq_ty (hd.up (e1.trans e2)), kit_ty hb, q H2 e2⟩
theorem evq_isi2 {m n : String} (h : Evl.Ev te σ H v) (hd : Dq K H v d) (hb : kitsB (tyOf d) [m, n] = some b) : Evl.Ev (tCB (rIsiT K) (tCons te (tCons (tTup (tCons (tC (.ty m)) (tCons (tC (.ty n)) tNil))) tNil))) σ H (.bl b) := fun H1 e1 Q q =>
  h H1 e1 _ fun H2 e2 => ⟨by show 2 ≤ sizeLine; decide, fun p hp => ⟨v, p, _, _, _, b, rfl, upd_same, tys_cls (ns := [m, n]), dq_ty (hd.up ((e1.trans e2).trans (Ex.new hp))), kitsB_ok hb, q _ (e2.trans (Ex.new hp))⟩⟩
end
end U

set_option Elab.async false
set_option linter.all false
set_option maxRecDepth 100000
set_option maxHeartbeats 4000000
namespace U
open PySem PySem.Spec PyProof.Rows L2
open Evl (Ex)
/-! ### own +, raise X(), a class of two at once -/
/-- one + other of two instances of the class at C, by what its own method promises: a reference -/
def tOwn (C : Addr) (sp : Sp) (E : L2.St → XK) (ta tb : TE) : TE := fun σ H Q => ta σ H fun x H1 => tb σ H1 fun y H2 => ∃ a b dx dy fs gs, x = .ref a ∧ y = .ref b ∧ H2 a = some (.ins C dx fs) ∧ H2 b = some (.ins C dy gs) ∧
  sp [.ref a, .ref b] H2 (fun v H' => ∃ r, v = .ref r ∧ Q (.ref r) H') (E σ)
section
variable {X : Cx} {CX : CXT} {n : Nat} {f C : Addr} {fd : FuncData} {ps : List Str} {sp : Sp} {E : L2.St → XK} {a b : Expr} {ta tb : TE} {pos : Pos} {op : Operator}
theorem pe_own (F : FnOk X.prog X.w X.K X.mg X.base CX n f fd ps sp) (hr : Room n X.A) (hs : PySem.W.findIn X.K (.ref C) (PySem.dunder op.info.2) = some (some (.ref f))) (hf : PySem.W.isFn X.K (.ref f) = true) (hc : PySem.W.selfFirst X.K C = true)
    (hb : Binds X.K fd ps []) (hx : ∀ σ, PassesAt CX X σ (E σ)) (ha : PE X a ta) (hb2 : PE X b tb) : PE X (.BinOp a op b pos) (tOwn C sp E ta tb) := by
  refine ⟨fun pins s σ H Q I h => wpAny_BinOp (binT (R := fun x y H2 => ∃ a b dx dy fs gs, x = .ref a ∧ y = .ref b ∧ H2 a = some (.ins C dx fs) ∧ H2 b = some (.ins C dy gs) ∧ sp [.ref a, .ref b] H2 (fun v H' => ∃ r, v = .ref r ∧ Q (.ref r) H') (E σ)) ha hb2 I h fun v u s2 x y H2 I2 rx ry q => ?_)⟩
  obtain ⟨p, r, dx, dy, fs, gs, rfl, rfl, hp, hr2, hsp⟩ := q
  cases rx
  cases ry
  obtain ⟨mA, J, _⟩ := ins_get I2.hok hp
  obtain ⟨mB, J', _⟩ := ins_get I2.hok hr2
  obtain ⟨od, J, _⟩ := J.look
  obtain ⟨od', J', _⟩ := J'.look
  obtain ⟨m, hF⟩ := I2.fr
  refine PySem.W.binop_K (C := C) hF I2.ok.mod.kin J J'.type hc hs hf ?_
  have r2 : Vals [V.ref p, V.ref r] [Value.ref p, Value.ref r] := .cons rfl (.cons rfl .nil)
  refine wpAny_mono (run_fnS F hr hb (hx σ) I2 r2 hsp) (fun r s' z => ?_) fun _ _ x => x
  obtain ⟨v, H', I', rv, t, rfl, q⟩ := z
  cases rv
  exact ⟨V.ref t, H', I', rfl, q⟩
/-- X() of an own class of errors without __init__ -/
theorem pmk_own0 {bmB : List Value} {B newId initId : String} {x : Str} {p : Pos} (F : ExcBaseFacts B newId initId bmB) (q : PySem.W.excIn X.K C bmB newId = true) (gC : X.mg x = some (.ref C)) (kC : PySem.W.keepIn X.K (.ref C) = true) (r : Raises X (.ref C)) (hg : Gl X x)
    (hdb : (x == ("__debug__" : Str)) = false := by decide) : PMk X (.Call (.Name x p) [] [] pos) (fun _ H Q => Q (.ref C) none H) := by
  intro pins s σ H Q I h
  refine wpAny_Call_Name_kw (ld_glob I hg gC ?_ hdb)
  refine PySem.W.callWith_K0 I.kIn kC ?_
  show wpAny _ _ (call (.ref C) []) _ _ _
  obtain ⟨bm, N, nm, qn, bs, hdct, sn, sub, ab, col, dd, k0, k1, k2, k3, k5, mN, hC, hN, hni, T⟩ := exc_obj I.kIn q
  refine wpAny_call_exc_subT F T hC hN hni (fun h' e hm => ?_) (by show 0 ≤ sizeLine; exact Nat.zero_le _)
  exact mk_of I hm r h (I.hok.gone hm.new)
/-- x[i] of a list or a tuple -/
def rIxA (K : PySem.W.Frag) : R2 := fun x y H Q => rIxL K x y H Q ∨ rIxT K x y H Q
theorem ix_seq : IxR X (rIxA X.K) := IxR.or ix_list ix_tup
end
section
variable {K : PySem.W.Frag} {σ : L2.St} {H : Hp} {te ta tb tc : TE} {x y z : V} {r r' : R2} {a : Addr} {xs : List V} {v : V} {i : Int}
theorem ev_ixA (h : Evl.Ev te σ H (.ref a)) (hx : SqL K H a xs ∨ SqT K H a xs) (hv : atI xs i = some v) : Evl.Ev (tOp (rIxA K) te (tC (.int i))) σ H v := fun H1 e Q q =>
  h H1 e _ fun H2 e2 => by
    show rIxA K (.ref a) (.int i) H2 Q
    rcases hx with hx | hx
    · exact .inl ⟨a, xs, i, v, rfl, rfl, Evl.ex_l (e.trans e2) hx, hv, q H2 e2⟩
    · exact .inr ⟨a, xs, i, v, rfl, rfl, Evl.ex_t (e.trans e2) hx, hv, q H2 e2⟩
/-- a op b op c -/
theorem ev_chain {k l : Bool} (ha : Evl.Ev ta σ H x) (hb : Evl.Ev tb σ H y) (hr : Evl.RV r x y H (.bl k)) (hc : k = true → Evl.Ev tc σ H z) (hr2 : k = true → Evl.RV r' y z H (.bl l)) (hl : k = false → l = false) : Evl.Ev (tChain r r' ta tb tc) σ H (.bl l) := fun H1 e1 Q q =>
  ha H1 e1 _ fun H2 e2 => hb H2 (e1.trans e2) _ fun H3 e3 => hr H3 ((e1.trans e2).trans e3) _ fun H4 e4 => ⟨k, rfl, by
    cases k with
    | true =>
      rw [if_pos rfl]
      exact hc rfl H4 (((e1.trans e2).trans e3).trans e4) _ fun H5 e5 => hr2 rfl H5 ((((e1.trans e2).trans e3).trans e4).trans e5) Q fun H6 e6 => q H6 (((e2.trans e3).trans e4).trans (e5.trans e6))
    | false =>
      rw [if_neg (by simp)]
      rw [hl rfl] at q
      exact q H4 ((e2.trans e3).trans e4)⟩
/-- [True or False for x in a list or a tuple of data] -/
theorem el_seqB {tl : TE} {ds : List PyData} {f : PyData → Bool} {j : Nat} {vs : List Nat} (h : Evl.Ev tl σ H (.ref a)) (hx : SqL K H a xs ∨ SqT K H a xs) (hd : DpAll K H xs ds) (hz : ds.length ≤ 40000) (hw : ∀ x, wipe ((wipe σ vs).set j (some x)) vs = wipe σ vs)
    (he : ∀ (x : V) d H1, d ∈ ds → Ex H H1 → Dp K H1 x d → Evl.Ev te ((wipe σ vs).set j (some x)) H1 (.bl (f d))) : Evl.EvL (tLc (iSeq K tl) (gName j) tYes te vs) σ H ((ds.map f).map V.bl) := fun H0 e0 Q q => h H0 e0 _ fun H1 e1 => by
  have hlen := dpa_len hd
  let w : Nat → V := fun i => .bl (f (ds.getD i .none))
  have turn : ∀ (Dl : Addr) (i : Nat) (x : V) (H2 H3 : Hp), i < xs.length → Cm H1 w Dl i H2 → YAt xs i H2 x H3 → gName j x (wipe σ vs) H3 fun σ2 H2 => wipe σ2 vs = wipe σ vs ∧ tYes σ2 H2 fun b H3 =>
      if b = true then te σ2 H3 fun y H4 => ∃ acc, H4 Dl = some (.lst acc) ∧ acc.length < sizeLine ∧ Cm H1 w Dl (i + 1) (upd H4 Dl (.lst (acc ++ [y]))) else Cm H1 w Dl (i + 1) H3 := by
    intro Dl i x H2 H3 hi p yp
    obtain ⟨rfl, hu⟩ := yp
    obtain ⟨d, hd1, hd2⟩ := dpa_get hd hu
    refine ⟨hw x, ?_⟩
    refine yes_lc (A := fun H3 => te ((wipe σ vs).set j (some x)) H3 fun y H4 => ∃ acc, H4 Dl = some (.lst acc) ∧ acc.length < sizeLine ∧ Cm H1 w Dl (i + 1) (upd H4 Dl (.lst (acc ++ [y])))) (B := fun H3 => Cm H1 w Dl (i + 1) H3) ?_
    have ew : w i = .bl (f d) := by
      show V.bl (f (ds.getD i .none)) = _
      rw [List.getD_eq_getElem?_getD, hd1]
      rfl
    refine cm_turn p (by omega) _ (Ex.refl _) ?_
    rw [ew]
    exact he x d _ (List.mem_of_getElem? hd1) (e0.trans e1) (hd2.up (e0.trans e1))
  have fin : ∀ Dl H2, Cm H1 w Dl xs.length H2 → Q (.ref Dl) H2 := fun Dl H2 p => by
    refine q Dl H2 (Evl.fresh_back e1 p.1) (e1.trans p.2.1) ?_
    rw [p.2.2, hlen]
    congr 2
    apply List.ext_getElem
    · simp
    · intro i h1 h2
      have h3 : i < ds.length := by simpa using h1
      simp [w, h3]
  refine ⟨a, rfl, ?_⟩
  rcases hx with x1 | x1
  · refine .inl ⟨⟨xs, Evl.ex_l (e0.trans e1) x1⟩, fun Dl hD => ?_⟩
    exact lc_it (walk_list (xs := xs)) (Cm H1 w Dl) (cm_0 hD) (fun i H2 _ p => Evl.ex_l ((e0.trans e1).trans p.2.1) x1) (fun i x H2 H3 hi p y => turn Dl i x H2 H3 hi p y) (fun H2 p => fin Dl H2 p)
  · refine .inr ⟨⟨xs, Evl.ex_t (e0.trans e1) x1⟩, fun Dl hD => ?_⟩
    exact lc_it (walk_tup (xs := xs)) (Cm H1 w Dl) (cm_0 hD) (fun i H2 _ p => Evl.ex_t ((e0.trans e1).trans p.2.1) x1) (fun i x H2 H3 hi p y => turn Dl i x H2 H3 hi p y) (fun H2 p => fin Dl H2 p)
theorem el_seqBq {tl : TE} {ds : List PyData} {f : PyData → Bool} {j : Nat} {vs : List Nat} (h : Evl.Ev tl σ H (.ref a)) (hx : SqL K H a xs ∨ SqT K H a xs) (hd : DqAll K H xs ds) (hz : ds.length ≤ 40000) (hw : ∀ x, wipe ((wipe σ vs).set j (some x)) vs = wipe σ vs)
    (he : ∀ (x : V) d H1, d ∈ ds → Ex H H1 → Dq K H1 x d → Evl.Ev te ((wipe σ vs).set j (some x)) H1 (.bl (f d))) : Evl.EvL (tLc (iSeq K tl) (gName j) tYes te vs) σ H ((ds.map f).map V.bl) := fun H0 e0 Q q => h H0 e0 _ fun H1 e1 => by
  have hlen := dqa_len hd
  let w : Nat → V := fun i => .bl (f (ds.getD i .none))
  have turn : ∀ (Dl : Addr) (i : Nat) (x : V) (H2 H3 : Hp), i < xs.length → Cm H1 w Dl i H2 → YAt xs i H2 x H3 → gName j x (wipe σ vs) H3 fun σ2 H2 => wipe σ2 vs = wipe σ vs ∧ tYes σ2 H2 fun b H3 =>
      if b = true then te σ2 H3 fun y H4 => ∃ acc, H4 Dl = some (.lst acc) ∧ acc.length < sizeLine ∧ Cm H1 w Dl (i + 1) (upd H4 Dl (.lst (acc ++ [y]))) else Cm H1 w Dl (i + 1) H3 := by
    intro Dl i x H2 H3 hi p yp
    obtain ⟨rfl, hu⟩ := yp
    obtain ⟨d, hd1, hd2⟩ := dqa_get hd hu
    refine ⟨hw x, ?_⟩
    refine yes_lc (A := fun H3 => te ((wipe σ vs).set j (some x)) H3 fun y H4 => ∃ acc, H4 Dl = some (.lst acc) ∧ acc.length < sizeLine ∧ Cm H1 w Dl (i + 1) (upd H4 Dl (.lst (acc ++ [y])))) (B := fun H3 => Cm H1 w Dl (i + 1) H3) ?_
    have ew : w i = .bl (f d) := by
      show V.bl (f (ds.getD i .none)) = _
      rw [List.getD_eq_getElem?_getD, hd1]
      rfl
    refine cm_turn p (by omega) _ (Ex.refl _) ?_
    rw [ew]
    exact he x d _ (List.mem_of_getElem? hd1) (e0.trans e1) (hd2.up (e0.trans e1))
  have fin : ∀ Dl H2, Cm H1 w Dl xs.length H2 → Q (.ref Dl) H2 := fun Dl H2 p => by
    refine q Dl H2 (Evl.fresh_back e1 p.1) (e1.trans p.2.1) ?_
    rw [p.2.2, hlen]
    congr 2
    apply List.ext_getElem
    · simp
    · intro i h1 h2
      have h3 : i < ds.length := by simpa using h1
      simp [w, h3]
  refine ⟨a, rfl, ?_⟩
  rcases hx with x1 | x1
  · refine .inl ⟨⟨xs, Evl.ex_l (e0.trans e1) x1⟩, fun Dl hD => ?_⟩
    exact lc_it (walk_list (xs := xs)) (Cm H1 w Dl) (cm_0 hD) (fun i H2 _ p => Evl.ex_l ((e0.trans e1).trans p.2.1) x1) (fun i x H2 H3 hi p y => turn Dl i x H2 H3 hi p y) (fun H2 p => fin Dl H2 p)
  · refine .inr ⟨⟨xs, Evl.ex_t (e0.trans e1) x1⟩, fun Dl hD => ?_⟩
    exact lc_it (walk_tup (xs := xs)) (Cm H1 w Dl) (cm_0 hD) (fun i H2 _ p => Evl.ex_t ((e0.trans e1).trans p.2.1) x1) (fun i x H2 H3 hi p y => turn Dl i x H2 H3 hi p y) (fun H2 p => fin Dl H2 p)
theorem fits_len {ds : List PyData} (h : (∃ n, fits n (.list ds)) ∨ ∃ n, fits n (.tuple ds)) : ds.length ≤ 40000 := by
  rcases h with ⟨n, h⟩ | ⟨n, h⟩ <;>
  · cases n with
    | zero => exact h.elim
    | succ n => exact h.1
theorem fits_in {ds : List PyData} {d : PyData} (h : (∃ n, fits n (.list ds)) ∨ ∃ n, fits n (.tuple ds)) (hd : d ∈ ds) : ∃ n, fits n d := by
  rcases h with ⟨n, h⟩ | ⟨n, h⟩ <;>
  · cases n with
    | zero => exact h.elim
    | succ n => exact ⟨n, h.2 d hd⟩
/-- a field of an instance -/
theorem ev_fld {C dx : Addr} {fs : List (Str × V)} {f : Str} (h : Evl.Ev te σ H (.ref a)) (ha : H a = some (.ins C dx fs)) (c : Cls K C) (n : NoAttr K C f) (hv : fs.lookup f = some v) : Evl.Ev (tFld K te f) σ H v := fun H1 e Q q =>
  h H1 e _ fun H2 e2 => ⟨a, C, dx, fs, v, rfl, (e.trans e2) a _ ha, c, n, hv, q H2 e2⟩
end
end U

set_option Elab.async false
set_option linter.all false
set_option maxRecDepth 100000
set_option maxHeartbeats 4000000
namespace U
open PySem L2
open Evl (Ex)
def top (i : Nat) : Stmt := PySem.Challenge.pw_toldenough_k45_texts_of_samples_refused.main.body.getD i (.Pass ⟨0, 0, 0, 0⟩)
abbrev s_source : Stmt := top 27
abbrev sc_source_N : List Str := ["_law_script", "_law_at", "_law_raw"]
theorem sc_source : FnScope sc_source_N ["_law_script", "_law_at"] (defScope s_source) := ⟨rfl, rfl, rfl, by decide +kernel, rfl, by decide +kernel, by decide +kernel⟩
abbrev s_draw : Stmt := top 28
abbrev sc_draw_N : List Str := ["_law_draws", "_law_many", "_law_digit", "_law_seed"]
theorem sc_draw : FnScope sc_draw_N ["_law_draws", "_law_many"] (defScope s_draw) := ⟨rfl, rfl, rfl, by decide +kernel, rfl, by decide +kernel, by decide +kernel⟩
abbrev s_pick : Stmt := top 29
abbrev sc_pick_N : List Str := ["_law_draws", "_law_things"]
theorem sc_pick : FnScope sc_pick_N ["_law_draws", "_law_things"] (defScope s_pick) := ⟨rfl, rfl, rfl, by decide +kernel, rfl, by decide +kernel, by decide +kernel⟩
abbrev s_same : Stmt := top 30
abbrev sc_same_N : List Str := ["_law_found", "_law_due", "_law_left", "_law_right"]
theorem sc_same : FnScope sc_same_N ["_law_found", "_law_due"] (defScope s_same) := ⟨rfl, rfl, rfl, by decide +kernel, rfl, by decide +kernel, by decide +kernel⟩
structure TxB (mg : Str → Option Value) : Prop where
  m_len : mg "len" = none
  m_int : mg "int" = none
  m_isinstance : mg "isinstance" = none
  m_list : mg "list" = none
  m_tuple : mg "tuple" = none
  m_bool : mg "bool" = none
  m_all : mg "all" = none
  m_zip : mg "zip" = none
section
variable {P : Program} {w : World} {K : PySem.W.Frag} {mg : Str → Option Value} {base : Heap}
theorem ok_source {f : Addr} {fd : FuncData} (F : Fun K "_law_source" "_law_source" s_source f fd) (T : TxB mg) : FnOk P w K mg base CX0 1 f fd ["_law_script", "_law_at"] (spSource K) := by
  refine F.ok sc_source (fun vs H Q E h => ?_) (fun cdv A outer s H vs Q E hr h => ?_)
  · obtain ⟨_, _, _, rfl, _⟩ := h
    rfl
  · obtain ⟨sa, ns, i, rfl, hS, hl, hi, k⟩ := h
    refine ⟨_, (pss_cons (ps_set (i := 2) sc_source.nd rfl (by first | exact Or.inl rfl | exact Or.inr rfl) (pe_ifExp (pt_cmpR op_lt (pv 1) (pe_callB call_len_seq (by rfl) T.m_len (by decide +kernel) (pa_cons (pv 0) pa_nil)) (nomark _)) (pe_ix ix_list (pv 0) (pv 1) (fun _ _ => rfl)) (pe_op op_add (pe_op op_mul pe_int (pv 1)) pe_int)))
    (pss_one (ps_ret (pe_lst (pa_cons (pe_ifExp (pt_cmpR op_ge (pv 2) (pe_op op_pow pe_int pe_int) (nomark _)) (pv 2) pe_int) (pa_cons (pe_op op_add (pe_op op_mod (pe_callTy call_int1 (by rfl) T.m_int (by decide +kernel) (pa_cons (pv 2) pa_nil)) pe_int) (pe_op op_mul pe_int (pv 1))) (pa_cons pe_int pa_nil))))))), ?_⟩
    have hlen : (ns.map V.int).length = ns.length := List.length_map ..
    have fin : ∀ (c : Int), ∀ l : Addr, H l = none → Q (.ref l) (upd H l (.lst [.int (if c ≥ 10 ^ 18 then c else 0), .int (c % 2147483647 + 131 * (i : Int)), .int 0])) := fun c l hn => by
      refine k l _ hn ⟨_, _, _, upd_same, ?_, ?_, ?_, by decide, by decide⟩
      · by_cases hc : c ≥ 10 ^ 18
        · rw [if_pos hc]
          omega
        · rw [if_neg hc]
          decide
      · omega
      · omega
    refine ⟨_, rfl, _, rfl, sa, _, rfl, .inl hS, _, _, rfl, rfl, _, rfl, ?_⟩
    refine ite2 (fun hc => ?_) (fun hc => ?_)
    · have hc' : i < ns.length := by
        have q := of_decide_eq_true hc
        rw [hlen] at q
        omega
      refine ⟨_, rfl, _, rfl, sa, _, _, .int ns[i], rfl, rfl, hS, atI_nat (by rw [List.getElem?_map, List.getElem?_eq_getElem hc']; rfl), ?_⟩
      have g := fin (ns[i])
      generalize ns[i] = c at g ⊢
      refine ⟨_, rfl, _, _, rfl, rfl, ⟨by decide, by decide, by decide⟩, _, _, rfl, rfl, _, rfl, ?_⟩
      refine ite2 (fun hc => ?_) (fun hc => ?_)
      · have hc' : c ≥ 10 ^ 18 := of_decide_eq_true hc
        rw [if_pos hc'] at g
        refine ⟨_, rfl, _, rfl, .inl ⟨_, rfl, _, _, rfl, rfl, (by show (0 : Int) < _; decide), _, rfl, _, _, rfl, rfl, .inl ⟨by decide, by decide⟩, _, _, rfl, rfl, by show 3 ≤ sizeLine; decide, fun l hn => ?_⟩⟩
        exact g l hn
      · have hc' : ¬ c ≥ 10 ^ 18 := fun q => hc (decide_eq_true q)
        rw [if_neg hc'] at g
        refine ⟨_, rfl, .inl ⟨_, rfl, _, _, rfl, rfl, (by show (0 : Int) < _; decide), _, rfl, _, _, rfl, rfl, .inl ⟨by decide, by decide⟩, _, _, rfl, rfl, by show 3 ≤ sizeLine; decide, fun l hn => ?_⟩⟩
        exact g l hn
    · have g := fin (11 * (i : Int) + 3)
      refine ⟨_, rfl, _, _, rfl, rfl, .inl ⟨by decide, by decide⟩, _, _, rfl, rfl, ?_⟩
      refine ⟨_, rfl, _, _, rfl, rfl, ⟨by decide, by decide, by decide⟩, _, _, rfl, rfl, _, rfl, ?_⟩
      refine ite2 (fun hc => ?_) (fun hc => ?_)
      · have hc' : 11 * (i : Int) + 3 ≥ 10 ^ 18 := of_decide_eq_true hc
        rw [if_pos hc'] at g
        refine ⟨_, rfl, _, rfl, .inl ⟨_, rfl, _, _, rfl, rfl, (by show (0 : Int) < _; decide), _, rfl, _, _, rfl, rfl, .inl ⟨by decide, by decide⟩, _, _, rfl, rfl, by show 3 ≤ sizeLine; decide, fun l hn => ?_⟩⟩
        exact g l hn
      · have hc' : ¬ 11 * (i : Int) + 3 ≥ 10 ^ 18 := fun q => hc (decide_eq_true q)
        rw [if_neg hc'] at g
        refine ⟨_, rfl, .inl ⟨_, rfl, _, _, rfl, rfl, (by show (0 : Int) < _; decide), _, rfl, _, _, rfl, rfl, .inl ⟨by decide, by decide⟩, _, _, rfl, rfl, by show 3 ≤ sizeLine; decide, fun l hn => ?_⟩⟩
        exact g l hn
theorem ok_draw {f : Addr} {fd : FuncData} (F : Fun K "_law_draw" "_law_draw" s_draw f fd) (T : TxB mg) : FnOk P w K mg base CX0 1 f fd ["_law_draws", "_law_many"] spDraw := by
  refine F.ok sc_draw (fun vs H Q E h => ?_) (fun cdv A outer s H vs Q E hr h => ?_)
  · obtain ⟨_, _, _, rfl, _⟩ := h
    rfl
  · obtain ⟨l, many, n, rfl, ⟨x, y, z, hl, x0, y0, y1, z0, z1⟩, hn, m0, m1, k⟩ := h
    refine ⟨_, (pss_cons (ps_if (pt_cmpR op_gt (pe_ix ix_list (pv 0) pe_int (fun _ _ => rfl)) pe_int (nomark _)) (pss_cons (ps_set (i := 2) sc_draw.nd rfl (by first | exact Or.inl rfl | exact Or.inr rfl) (pe_op op_mod (pe_callTy call_int1 (by rfl) T.m_int (by decide +kernel) (pa_cons (pe_ix ix_list (pv 0) pe_int (fun _ _ => rfl)) pa_nil)) (pv 1)))
      (pss_cons (ps_asg (pe_op op_fdivN (pe_ix ix_list (pv 0) pe_int (fun _ _ => rfl)) (pv 1)) (pg_sub (pv 0) pe_int set_list))
      (pss_one (ps_ret (pv 2))))) pss_nil)
    (pss_cons (ps_asg (pe_op op_add (pe_ix ix_list (pv 0) pe_int (fun _ _ => rfl)) pe_int) (pg_sub (pv 0) pe_int set_list))
    (pss_cons (ps_set (i := 3) sc_draw.nd rfl (by first | exact Or.inl rfl | exact Or.inr rfl) (pe_op op_mod (pe_op op_pow (pe_callTy call_int1 (by rfl) T.m_int (by decide +kernel) (pa_cons (pe_op op_add (pe_op op_add (pe_ix ix_list (pv 0) pe_int (fun _ _ => rfl)) (pe_op op_mul pe_int (pe_ix ix_list (pv 0) pe_int (fun _ _ => rfl)))) pe_int) pa_nil)) pe_int) pe_int))
    (pss_one (ps_ret (pe_op op_mod (pe_op op_mod (pe_op op_pow (pe_callTy call_int1 (by rfl) T.m_int (by decide +kernel) (pa_cons (pe_op op_add (pe_op op_mul (pv 3) pe_int) (pe_op op_mul pe_int (pe_ix ix_list (pv 0) pe_int (fun _ _ => rfl)))) pa_nil)) pe_int) pe_int) (pv 1))))))), ?_⟩
    have i0 : atI [V.int x, V.int y, V.int z] 0 = some (.int x) := rfl
    have i1 : atI [V.int x, V.int y, V.int z] 1 = some (.int y) := rfl
    have i2 : atI [V.int x, V.int y, V.int z] 2 = some (.int z) := rfl
    refine ⟨_, rfl, l, _, _, _, rfl, rfl, SqL.of hl, i0, _, _, rfl, rfl, _, rfl, ?_⟩
    refine ite2 (fun hc => ?_) (fun hc => ?_)
    · refine ⟨_, rfl, l, _, _, _, rfl, rfl, SqL.of hl, i0, .inl ⟨_, rfl, _, rfl, _, _, rfl, rfl, m0, ?_⟩⟩
      refine ⟨_, rfl, l, _, _, _, rfl, rfl, SqL.of hl, i0, _, rfl, _, _, rfl, rfl, ⟨by omega, by omega⟩, _, rfl, l, _, _, 0, rfl, rfl, hl, rfl, ?_⟩
      refine ⟨_, rfl, ?_⟩
      exact k (x % many) _ (Int.emod_nonneg _ (by omega)) (Int.emod_lt_of_pos _ m0) ⟨_, _, _, upd_same, Int.fdiv_nonneg x0 (by omega), y0, y1, z0, by omega⟩
    · have hl2 : (upd H l (.lst [V.int x, V.int y, V.int (z + 1)])) l = some (.lst [V.int x, V.int y, V.int (z + 1)]) := upd_same
      have j1 : atI [V.int x, V.int y, V.int (z + 1)] 1 = some (.int y) := rfl
      have j2 : atI [V.int x, V.int y, V.int (z + 1)] 2 = some (.int (z + 1)) := rfl
      refine ⟨_, rfl, l, _, _, _, rfl, rfl, SqL.of hl, i2, _, _, rfl, rfl, _, rfl, l, _, _, 2, rfl, rfl, hl, rfl, ?_⟩
      refine ⟨_, rfl, l, _, _, _, rfl, rfl, SqL.of hl2, j1, _, rfl, l, _, _, _, rfl, rfl, SqL.of hl2, j2, _, _, rfl, rfl, .inl ⟨by decide, by decide⟩, _, _, rfl, rfl, _, _, rfl, rfl, .inl ⟨_, rfl, _, _, rfl, rfl, ⟨by decide, by decide, ?_⟩, _, _, rfl, rfl, (by show (0 : Int) < _; decide), ?_⟩⟩
      · show (y + 7919 * (z + 1) + 104729).natAbs < 18446744073709551616
        omega
      have e1 : 0 ≤ (y + 7919 * (z + 1) + 104729) ^ (5 : Int).toNat % 2147483629 := Int.emod_nonneg _ (by decide)
      have e2 : (y + 7919 * (z + 1) + 104729) ^ (5 : Int).toNat % 2147483629 < 2147483629 := Int.emod_lt_of_pos _ (by decide)
      have hb : ∀ c : Int, 0 ≤ c → c < 2147483629 → (c * 48271 + 40503 * (z + 1)).natAbs < 18446744073709551616 := fun c _ _ => by omega
      refine ⟨_, rfl, _, _, rfl, rfl, .inr ⟨by decide, by decide⟩, _, rfl, l, _, _, _, rfl, rfl, SqL.of hl2, j2, _, _, rfl, rfl, .inl ⟨by decide, by decide⟩, _, _, rfl, rfl, .inl ⟨_, rfl, _, _, rfl, rfl, ⟨by decide, by decide, ?_⟩, _, _, rfl, rfl, (by show (0 : Int) < _; decide), _, rfl, _, _, rfl, rfl, m0, ?_⟩⟩
      · exact hb _ e1 e2
      exact k _ _ (Int.emod_nonneg _ (by omega)) (Int.emod_lt_of_pos _ m0) ⟨_, _, _, upd_same, x0, y0, y1, by omega, by omega⟩
theorem ok_pick {f : Addr} {fd : FuncData} (F : Fun K "_law_pick" "_law_pick" s_pick f fd) (T : TxB mg) (D_draw : DefAt P w K mg base "_law_draw" 1 ["_law_draws", "_law_many"] spDraw) : FnOk P w K mg base CX0 2 f fd ["_law_draws", "_law_things"] (spPick K) := by
  refine F.ok sc_pick (fun vs H Q E h => ?_) (fun cdv A outer s H vs Q E hr h => ?_)
  · obtain ⟨_, _, _, _, _, rfl, _⟩ := h
    rfl
  · obtain ⟨l, t, ds, n, L, rfl, hd, hn, hL, hp, h0, h1, k⟩ := h
    refine ⟨_, (pss_one (ps_ret (pe_ix ix_list (pv 1) (pe_callD D_draw (by first | exact hr | exact hr.mono (by decide) | exact hr.mono (by omega)) (by rfl) (pa_cons (pv 0) (pa_cons (pe_callB call_len_seq (by rfl) T.m_len (by decide +kernel) (pa_cons (pv 1) pa_nil)) pa_nil))) (fun _ _ => rfl)))), ?_⟩
    cases hp with
    | @lst _ xs _ hs ha =>
      have hlen := dpa_len ha
      refine ⟨_, rfl, _, rfl, _, rfl, t, xs, rfl, .inl (Evl.ex_l w_sub hs), ?_⟩
      refine ⟨l, _, n, rfl, hd, hn, by omega, by omega, fun r o r0 r1 hd' => ?_⟩
      have hr' : r.toNat < xs.length := by omega
      obtain ⟨d, hd1, hd2⟩ := dpa_get ha (List.getElem?_eq_getElem hr')
      have er : ((r.toNat : Nat) : Int) = r := by omega
      refine ⟨t, xs, r, xs[r.toNat], rfl, rfl, Evl.ex_l (w_sub (L := L)) (by rw [w_upd_in hL]; exact hs), ?_, ?_⟩
      · have q := atI_nat (List.getElem?_eq_getElem hr')
        rw [er] at q
        exact q
      · exact k _ d o (List.mem_of_getElem? hd1) (by rw [w_upd_in hL]; exact hd2) hd'
def spPrev (K : PySem.W.Frag) : Nat → Sp
  | 0 => fun _ _ _ _ => False
  | n + 1 => spSame K n
theorem same_body {f : Addr} {fd : FuncData} (F : Fun K "_law_same" "_law_same" s_same f fd) (T : TxB mg) (n : Nat) (D_same : DefAt P w K mg base "_law_same" n ["_law_found", "_law_due"] (spPrev K n)) : FnOk P w K mg base CX0 (n + 1) f fd ["_law_found", "_law_due"] (spSame K n) := by
  refine F.ok sc_same (fun vs H Q E h => ?_) (fun cdv A outer s H vs Q E hr h => ?_)
  · obtain ⟨_, _, _, rfl, _⟩ := h
    rfl
  · obtain ⟨x, y, d, rfl, hx, hy, hf, k⟩ := h
    refine ⟨_, (pss_cons (ps_if (pt_val (pe_callB call_isiT (by rfl) T.m_isinstance (by decide +kernel) (pa_cons (pv 1) (pa_cons (pe_tup (pa_cons (pe_bltn (v := .ty "list") (by rfl) T.m_list (by decide +kernel) rfl) (pa_cons (pe_bltn (v := .ty "tuple") (by rfl) T.m_tuple (by decide +kernel) rfl) pa_nil))) pa_nil)))) (pss_cons (ps_if (PW.pt (pw_or (pt_cmpR op_ne (pe_callB call_isi (by rfl) T.m_isinstance (by decide +kernel) (pa_cons (pv 0) (pa_cons (pe_bltn (v := .ty "list") (by rfl) T.m_list (by decide +kernel) rfl) pa_nil))) (pe_callB call_isi (by rfl) T.m_isinstance (by decide +kernel) (pa_cons (pv 1) (pa_cons (pe_bltn (v := .ty "list") (by rfl) T.m_list (by decide +kernel) rfl) pa_nil))) (nomark _)) (pw_or1 (pt_cmpR op_ne (pe_callB call_isi (by rfl) T.m_isinstance (by decide +kernel) (pa_cons (pv 0) (pa_cons (pe_bltn (v := .ty "tuple") (by rfl) T.m_tuple (by decide +kernel) rfl) pa_nil))) (pe_callB call_isi (by rfl) T.m_isinstance (by decide +kernel) (pa_cons (pv 1) (pa_cons (pe_bltn (v := .ty "tuple") (by rfl) T.m_tuple (by decide +kernel) rfl) pa_nil))) (nomark _))))) (pss_one (ps_ret pe_bl)) pss_nil)
      (pss_one (ps_ret (pe_and (pe_cmpR op_eq (pe_callB call_len_seq (by rfl) T.m_len (by decide +kernel) (pa_cons (pv 0) pa_nil)) (pe_callB call_len_seq (by rfl) T.m_len (by decide +kernel) (pa_cons (pv 1) pa_nil)) (nomark _)) (pe_one (pe_callB (cr_all rfl) (by rfl) T.m_all (by decide +kernel) (pa_cons (pe_lc (own := [("_law_left", 2), ("_law_right", 3)]) (g := gTup K 2 (gCons (gName 2) (gCons (gName 3) (gNil)))) (tt := tYes) (by rfl) sc_same.nd (RZ.pi_zipA (by rfl) T.m_zip (pa_cons (pv 0) (pa_cons (pv 1) pa_nil))) (blkOk_by (N := sc_same_N) (sc := defScope s_same) (by decide +kernel)) (fun _ _ _ _ _ => (pg_tup (by rfl) (pgs_cons (pg_name (i := 2) sc_same.nd rfl (by first | exact Or.inl rfl | exact Or.inr rfl)) (pgs_cons (pg_name (i := 3) sc_same.nd rfl (by first | exact Or.inl rfl | exact Or.inr rfl)) pgs_nil)))) (fun _ _ _ _ _ => pts_nil) (fun _ _ _ _ _ => (pe_callD D_same (by first | exact hr | exact hr.mono (by decide) | exact hr.mono (by omega)) (by rfl) (pa_cons (pv 2) (pa_cons (pv 3) pa_nil))))) pa_nil))))))) pss_nil)
    (pss_cons (ps_if (pt_val (pe_callB call_isiT (by rfl) T.m_isinstance (by decide +kernel) (pa_cons (pv 1) (pa_cons (pe_tup (pa_cons (pe_bltn (v := .ty "bool") (by rfl) T.m_bool (by decide +kernel) rfl) (pa_cons (pe_bltn (v := .ty "int") (by rfl) T.m_int (by decide +kernel) rfl) pa_nil))) pa_nil)))) (pss_one (ps_ret (pe_and (pe_callB call_isi (by rfl) T.m_isinstance (by decide +kernel) (pa_cons (pv 0) (pa_cons (pe_bltn (v := .ty "int") (by rfl) T.m_int (by decide +kernel) rfl) pa_nil))) (pe_and (pe_cmpR op_eq (pe_callB call_isi (by rfl) T.m_isinstance (by decide +kernel) (pa_cons (pv 0) (pa_cons (pe_bltn (v := .ty "bool") (by rfl) T.m_bool (by decide +kernel) rfl) pa_nil))) (pe_callB call_isi (by rfl) T.m_isinstance (by decide +kernel) (pa_cons (pv 1) (pa_cons (pe_bltn (v := .ty "bool") (by rfl) T.m_bool (by decide +kernel) rfl) pa_nil))) (nomark _)) (pe_one (pe_cmpR op_eq (pv 0) (pv 1) (nomark _))))))) pss_nil)
    (pss_one (ps_ret (pe_and (pe_not (pe_callB call_isiT (by rfl) T.m_isinstance (by decide +kernel) (pa_cons (pv 0) (pa_cons (pe_tup (pa_cons (pe_bltn (v := .ty "bool") (by rfl) T.m_bool (by decide +kernel) rfl) (pa_cons (pe_bltn (v := .ty "int") (by rfl) T.m_int (by decide +kernel) rfl) (pa_cons (pe_bltn (v := .ty "list") (by rfl) T.m_list (by decide +kernel) rfl) (pa_cons (pe_bltn (v := .ty "tuple") (by rfl) T.m_tuple (by decide +kernel) rfl) pa_nil))))) pa_nil)))) (pe_one (pe_cmpR op_eq (pv 0) (pv 1) (nomark _)))))))), ?_⟩
    have v0 : Evl.Ev (tVar 0) (start sc_same_N [x, y]) H x := Evl.ev_var rfl
    have v1 : Evl.Ev (tVar 1) (start sc_same_N [x, y]) H y := Evl.ev_var rfl
    -- two lists, two tuples
    have seqs : ∀ (a b : Addr) (xs ys : List V) (ds : List PyData) (m : Nat), n = m + 1 → x = .ref a → y = .ref b → (SqL K H a xs ∧ SqL K H b ys) ∨ (SqT K H a xs ∧ SqT K H b ys) → DpAll K H xs ds → DpAll K H ys ds → (∀ d ∈ ds, fits m d) → xs.length ≤ 40000 →
        ∀ H1, Ex H H1 → Evl.Ev (tAndV (tOp rEq (tCB (fun xs H Q => ∃ p ys, xs = [V.ref p] ∧ (SqL K H p ys ∨ SqT K H p ys) ∧ Q (.int ys.length) H) (tCons (tVar 0) tNil)) (tCB (fun xs H Q => ∃ p ys, xs = [V.ref p] ∧ (SqL K H p ys ∨ SqT K H p ys) ∧ Q (.int ys.length) H) (tCons (tVar 1) tNil)))
          (tCB (rAll K) (tCons (tLc (RZ.iZipA K (tCons (tVar 0) (tCons (tVar 1) tNil))) (gTup K 2 (gCons (gName 2) (gCons (gName 3) gNil))) tYes (tCallD (spPrev K n) (tCons (tVar 2) (tCons (tVar 3) tNil))) [2, 3]) tNil))) (start sc_same_N [x, y]) H1 (.bl true) := by
      rintro a b xs ys ds m rfl rfl rfl hs h1 h2 hd hz H1 e1
      have hl : xs.length = ys.length := (dpa_len h1).trans (dpa_len h2).symm
      have hs1 : SqL K H1 a xs ∨ SqT K H1 a xs := hs.imp (fun q => Evl.ex_l e1 q.1) (fun q => Evl.ex_t e1 q.1)
      have hs2 : SqL K H1 b ys ∨ SqT K H1 b ys := hs.imp (fun q => Evl.ex_l e1 q.2) (fun q => Evl.ex_t e1 q.2)
      refine Evl.ev_is (Evl.ev_andV (a := true) (b := true) (Evl.ev_is (Evl.ev_op (ev_lenS (v0.mono e1) hs1) (ev_lenS (v1.mono e1) hs2) (Evl.rv_eq rfl)) ?_) fun _ => ?_) rfl
      · rw [hl]
        exact congrArg V.bl (decide_eq_true rfl)
      · have z := el_zip (K := K) (v := fun _ => V.bl true) (te := tCallD (spPrev K (m + 1)) (tCons (tVar 2) (tCons (tVar 3) tNil))) (i1 := 2) (i2 := 3) (vs := [2, 3]) (σ := start sc_same_N [V.ref a, V.ref b]) (H := H1) (ta := tCons (tVar 0) (tCons (tVar 1) tNil)) (a := a) (b := b) (xs := xs) (ys := ys)
          (Evl.ea_cons (v0.mono e1) (Evl.ea_cons (v1.mono e1) Evl.ea_nil)) (hs.imp (fun q => ⟨Evl.ex_l e1 q.1, Evl.ex_l e1 q.2⟩) (fun q => ⟨Evl.ex_t e1 q.1, Evl.ex_t e1 q.2⟩)) hl hz (fun _ _ => rfl) (fun i u v H2 e2 hu hv => ?_)
        · have em : (List.range xs.length).map (fun _ => V.bl true) = ((List.range xs.length).map fun _ => true).map V.bl := by
            rw [List.map_map]
            rfl
          rw [em] at z
          exact Evl.ev_is (ev_all z) (congrArg V.bl (by simp))
        · obtain ⟨d, hd1, hd2⟩ := dpa_get h1 hu
          obtain ⟨d', hd3, hd4⟩ := dpa_get h2 hv
          rw [hd1] at hd3
          cases hd3
          exact ev_callD (Evl.ea_cons (Evl.ev_var rfl) (Evl.ea_cons (Evl.ev_var rfl) Evl.ea_nil)) fun H3 e3 Q q => ⟨u, v, d, rfl, hd2.up ((e1.trans e2).trans e3), hd4.up ((e1.trans e2).trans e3), hd d (List.mem_of_getElem? hd1), q⟩
    cases d with
    | none =>
      have exy : x = y := by
        cases hx
        cases hy
        rfl
      refine Evl.q_when (b := false) (Evl.et_B (ev_isi2 v1 hy isi_NoneType_list_tuple)) (fun z => by cases z) (fun _ H1 e1 => ?_)
      refine Evl.q_when (b := false) (Evl.et_B (ev_isi2 (v1.mono e1) (hy.up e1) isi_NoneType_bool_int)) (fun z => by cases z) (fun _ H2 e2 => ?_)
      refine Evl.s_ret (v := .bl true) (Evl.ev_is (Evl.ev_andV (Evl.ev_notV (ev_isi4 (v0.mono (e1.trans e2)) (hx.up (e1.trans e2)) (b := false) isi_NoneType_bool_int_list_tuple)) (fun _ => Evl.ev_is (Evl.ev_op (v0.mono (e1.trans e2)) (v1.mono (e1.trans e2)) (Evl.rv_eq (by cases hx; cases hy; rfl))) (w := .bl true) (by rw [exy]; exact congrArg V.bl (decide_eq_true rfl)))) rfl) (fun H3 e3 => k H3 ((e1.trans e2).trans e3))
    | str z =>
      have exy : x = y := by
        cases hx
        cases hy
        rfl
      refine Evl.q_when (b := false) (Evl.et_B (ev_isi2 v1 hy isi_str_list_tuple)) (fun z => by cases z) (fun _ H1 e1 => ?_)
      refine Evl.q_when (b := false) (Evl.et_B (ev_isi2 (v1.mono e1) (hy.up e1) isi_str_bool_int)) (fun z => by cases z) (fun _ H2 e2 => ?_)
      refine Evl.s_ret (v := .bl true) (Evl.ev_is (Evl.ev_andV (Evl.ev_notV (ev_isi4 (v0.mono (e1.trans e2)) (hx.up (e1.trans e2)) (b := false) isi_str_bool_int_list_tuple)) (fun _ => Evl.ev_is (Evl.ev_op (v0.mono (e1.trans e2)) (v1.mono (e1.trans e2)) (Evl.rv_eq (by cases hx; cases hy; rfl))) (w := .bl true) (by rw [exy]; exact congrArg V.bl (decide_eq_true rfl)))) rfl) (fun H3 e3 => k H3 ((e1.trans e2).trans e3))
    | bool z =>
      have exy : x = y := by
        cases hx
        cases hy
        rfl
      refine Evl.q_when (b := false) (Evl.et_B (ev_isi2 v1 hy isi_bool_list_tuple)) (fun z => by cases z) (fun _ H1 e1 => ?_)
      refine Evl.q_when (b := true) (Evl.et_B (ev_isi2 (v1.mono e1) (hy.up e1) isi_bool_bool_int)) (fun _ H2 e2 => ?_) (fun z => by cases z)
      refine Evl.s_ret (v := .bl true) (Evl.ev_is (Evl.ev_andV (ev_isi (v0.mono (e1.trans e2)) (hx.up (e1.trans e2)) (b := true) isi_bool_int) (fun _ => Evl.ev_andV (a := true) (Evl.ev_is (ev_eqB (ev_isi (v0.mono (e1.trans e2)) (hx.up (e1.trans e2)) (b := true) isi_bool_bool) (ev_isi (v1.mono (e1.trans e2)) (hy.up (e1.trans e2)) (b := true) isi_bool_bool)) (by decide))
        fun _ => Evl.ev_is (Evl.ev_op (v0.mono (e1.trans e2)) (v1.mono (e1.trans e2)) (Evl.rv_eq (by cases hx; cases hy; rfl))) (w := .bl true) (by rw [exy]; exact congrArg V.bl (decide_eq_true rfl)))) rfl) (fun H3 e3 => k H3 ((e1.trans e2).trans e3))
    | int z =>
      have exy : x = y := by
        cases hx
        cases hy
        rfl
      refine Evl.q_when (b := false) (Evl.et_B (ev_isi2 v1 hy isi_int_list_tuple)) (fun z => by cases z) (fun _ H1 e1 => ?_)
      refine Evl.q_when (b := true) (Evl.et_B (ev_isi2 (v1.mono e1) (hy.up e1) isi_int_bool_int)) (fun _ H2 e2 => ?_) (fun z => by cases z)
      refine Evl.s_ret (v := .bl true) (Evl.ev_is (Evl.ev_andV (ev_isi (v0.mono (e1.trans e2)) (hx.up (e1.trans e2)) (b := true) isi_int_int) (fun _ => Evl.ev_andV (a := true) (Evl.ev_is (ev_eqB (ev_isi (v0.mono (e1.trans e2)) (hx.up (e1.trans e2)) (b := false) isi_int_bool) (ev_isi (v1.mono (e1.trans e2)) (hy.up (e1.trans e2)) (b := false) isi_int_bool)) (by decide))
        fun _ => Evl.ev_is (Evl.ev_op (v0.mono (e1.trans e2)) (v1.mono (e1.trans e2)) (Evl.rv_eq (by cases hx; cases hy; rfl))) (w := .bl true) (by rw [exy]; exact congrArg V.bl (decide_eq_true rfl)))) rfl) (fun H3 e3 => k H3 ((e1.trans e2).trans e3))
    | list ds =>
      cases n with
      | zero => exact hf.elim
      | succ m =>
        have hx' := hx
        have hy' := hy
        cases hx with
        | @lst a xs _ hs ha =>
          cases hy with
          | @lst b ys _ hs2 ha2 =>
            refine Evl.q_when (b := true) (Evl.et_B (ev_isi2 v1 hy' isi_list_list_tuple)) (fun _ H1 e1 => ?_) (fun z => by cases z)
            refine Evl.q_when (b := false) (Evl.et_is (Evl.et_or (Evl.et_test (ev_neB (ev_isi (v0.mono e1) (hx'.up e1) (b := true) isi_list_list) (ev_isi (v1.mono e1) (hy'.up e1) (b := true) isi_list_list))) fun _ => Evl.et_test (ev_neB (ev_isi (v0.mono e1) (hx'.up e1) (b := false) isi_list_tuple) (ev_isi (v1.mono e1) (hy'.up e1) (b := false) isi_list_tuple))) (by decide)) (fun z => by cases z) (fun _ H2 e2 => ?_)
            exact Evl.s_ret (v := .bl true) (seqs a b xs ys ds m rfl rfl rfl (.inl ⟨hs, hs2⟩) ha ha2 hf.2 (by rw [dpa_len ha]; exact hf.1) _ (e1.trans e2)) (fun H3 e3 => k H3 ((e1.trans e2).trans e3))
    | tuple ds =>
      cases n with
      | zero => exact hf.elim
      | succ m =>
        have hx' := hx
        have hy' := hy
        cases hx with
        | @tup a xs _ hs ha =>
          cases hy with
          | @tup b ys _ hs2 ha2 =>
            refine Evl.q_when (b := true) (Evl.et_B (ev_isi2 v1 hy' isi_tuple_list_tuple)) (fun _ H1 e1 => ?_) (fun z => by cases z)
            refine Evl.q_when (b := false) (Evl.et_is (Evl.et_or (Evl.et_test (ev_neB (ev_isi (v0.mono e1) (hx'.up e1) (b := false) isi_tuple_list) (ev_isi (v1.mono e1) (hy'.up e1) (b := false) isi_tuple_list))) fun _ => Evl.et_test (ev_neB (ev_isi (v0.mono e1) (hx'.up e1) (b := true) isi_tuple_tuple) (ev_isi (v1.mono e1) (hy'.up e1) (b := true) isi_tuple_tuple))) (by decide)) (fun z => by cases z) (fun _ H2 e2 => ?_)
            exact Evl.s_ret (v := .bl true) (seqs a b xs ys ds m rfl rfl rfl (.inr ⟨hs, hs2⟩) ha ha2 hf.2 (by rw [dpa_len ha]; exact hf.1) _ (e1.trans e2)) (fun H3 e3 => k H3 ((e1.trans e2).trans e3))
    | dict _ => cases hx
end
end U

set_option Elab.async false
set_option linter.all false
set_option maxRecDepth 100000
set_option maxHeartbeats 4000000
namespace U
open PySem L2
open Evl (Ex)
abbrev s_is_integer : Stmt := top 10
abbrev sc_is_integer_N : List Str := ["thing"]
theorem sc_is_integer : FnScope sc_is_integer_N ["thing"] (defScope s_is_integer) := ⟨rfl, rfl, rfl, by decide +kernel, rfl, by decide +kernel, by decide +kernel⟩
abbrev s_is_label : Stmt := top 11
abbrev sc_is_label_N : List Str := ["thing"]
theorem sc_is_label : FnScope sc_is_label_N ["thing"] (defScope s_is_label) := ⟨rfl, rfl, rfl, by decide +kernel, rfl, by decide +kernel, by decide +kernel⟩
abbrev s_is_row : Stmt := top 12
abbrev sc_is_row_N : List Str := ["thing"]
theorem sc_is_row : FnScope sc_is_row_N ["thing"] (defScope s_is_row) := ⟨rfl, rfl, rfl, by decide +kernel, rfl, by decide +kernel, by decide +kernel⟩
abbrev s_is_row_of : Stmt := top 13
abbrev sc_is_row_of_N : List Str := ["thing", "many"]
theorem sc_is_row_of : FnScope sc_is_row_of_N ["thing", "many"] (defScope s_is_row_of) := ⟨rfl, rfl, rfl, by decide +kernel, rfl, by decide +kernel, by decide +kernel⟩
abbrev s_is_number_of_places : Stmt := top 14
abbrev sc_is_number_of_places_N : List Str := ["thing"]
theorem sc_is_number_of_places : FnScope sc_is_number_of_places_N ["thing"] (defScope s_is_number_of_places) := ⟨rfl, rfl, rfl, by decide +kernel, rfl, by decide +kernel, by decide +kernel⟩
abbrev s_is_point : Stmt := top 15
abbrev sc_is_point_N : List Str := ["thing", "places", "entry"]
theorem sc_is_point : FnScope sc_is_point_N ["thing", "places"] (defScope s_is_point) := ⟨rfl, rfl, rfl, by decide +kernel, rfl, by decide +kernel, by decide +kernel⟩
abbrev s_is_example : Stmt := top 16
abbrev sc_is_example_N : List Str := ["thing", "places"]
theorem sc_is_example : FnScope sc_is_example_N ["thing", "places"] (defScope s_is_example) := ⟨rfl, rfl, rfl, by decide +kernel, rfl, by decide +kernel, by decide +kernel⟩
abbrev s_copied_example : Stmt := top 17
abbrev sc_copied_example_N : List Str := ["example", "point", "label"]
theorem sc_copied_example : FnScope sc_copied_example_N ["example"] (defScope s_copied_example) := ⟨rfl, rfl, rfl, by decide +kernel, rfl, by decide +kernel, by decide +kernel⟩
def isIx (p : Int) : PyData → Bool
  | .int i => decide (0 ≤ i) && decide (i < p)
  | _ => false
def isI : PyData → Bool
  | .int _ => true
  | _ => false
def isL : PyData → Bool
  | .bool _ => true
  | _ => false
def isR : PyData → Bool
  | .list _ => true
  | .tuple _ => true
  | _ => false
def isN : PyData → Bool
  | .int i => decide (1 ≤ i) && decide (i ≤ 3)
  | _ => false
def isP (p : Int) : PyData → Bool
  | .list ds => decide ((ds.length : Int) = p) && ds.all isI
  | .tuple ds => decide ((ds.length : Int) = p) && ds.all isI
  | _ => false
def isO (p : Int) : PyData → Bool
  | .list ds => decide ((ds.length : Int) = p)
  | .tuple ds => decide ((ds.length : Int) = p)
  | _ => false
def isX (p : Int) : PyData → Bool
  | .list [a, b] => isP p a && isL b
  | .tuple [a, b] => isP p a && isL b
  | _ => false
def tupOf : PyData → PyData
  | .list ds => .tuple ds
  | d => d
def cpy : PyData → PyData
  | .list [a, b] => .tuple [tupOf a, b]
  | .tuple [a, b] => .tuple [tupOf a, b]
  | d => d
/-- True or False of data, by f | of data and a number of places -/
def spB (K : PySem.W.Frag) (f : PyData → Bool) : Sp := fun vs H Q _ => ∃ v d, vs = [v] ∧ Dq K H v d ∧ ∀ H', Ex H H' → Q (.bl (f d)) H'
def spBp (K : PySem.W.Frag) (f : Int → PyData → Bool) : Sp := fun vs H Q _ => ∃ v d p, vs = [v, .int p] ∧ Dq K H v d ∧ (∃ n, fits n d) ∧ ∀ H', Ex H H' → Q (.bl (f p d)) H'
structure TxF (mg : Str → Option Value) : Prop extends TxB mg where
  m_range : mg "range" = none
  m_enumerate : mg "enumerate" = none
  c_LEAST_PLACES : ∃ t, mg "LEAST_PLACES" = some (.int 1 t)
  c_MOST_PLACES : ∃ t, mg "MOST_PLACES" = some (.int 3 t)
section
variable {P : Program} {w : World} {K : PySem.W.Frag} {mg : Str → Option Value} {base : Heap}
theorem isP_two {p : Int} {d : PyData} : (isO p d && isP p d) = isP p d := by
  have q : ∀ a b : Bool, (a && (a && b)) = (a && b) := by decide
  cases d with
  | list ds => exact q _ _
  | tuple ds => exact q _ _
  | _ => rfl
theorem isX_two {p : Int} {d : PyData} {ds : List PyData} (h : d = .list ds ∨ d = .tuple ds) : (isO 2 d && isX p d) = isX p d := by
  rcases h with rfl | rfl <;> (match ds with
    | [] => rfl
    | [_] => rfl
    | [_, _] => rfl
    | _ :: _ :: _ :: r =>
      show (_ && false) = false
      rw [Bool.and_false])
theorem ev_spB {σ : L2.St} {H : Hp} {te : TE} {v : V} {d : PyData} {f : PyData → Bool} (h : Evl.Ev te σ H v) (hd : Dp K H v d) : Evl.Ev (tCallD (spB K f) (tCons te tNil)) σ H (.bl (f d)) :=
  ev_callD (Evl.ea_cons h Evl.ea_nil) fun H1 e1 Q q => ⟨v, d, rfl, (hd.up e1).q, q⟩
theorem ev_spBp {σ : L2.St} {H : Hp} {te tp : TE} {v : V} {d : PyData} {f : Int → PyData → Bool} {p : Int} (h : Evl.Ev te σ H v) (hp : Evl.Ev tp σ H (.int p)) (hd : Dp K H v d) (hw : ∃ n, fits n d) : Evl.Ev (tCallD (spBp K f) (tCons te (tCons tp tNil))) σ H (.bl (f p d)) :=
  ev_callD (Evl.ea_cons h (Evl.ea_cons hp Evl.ea_nil)) fun H1 e1 Q q => ⟨v, d, p, rfl, (hd.up e1).q, hw, q⟩
theorem ev_spBq {σ : L2.St} {H : Hp} {te : TE} {v : V} {d : PyData} {f : PyData → Bool} (h : Evl.Ev te σ H v) (hd : Dq K H v d) : Evl.Ev (tCallD (spB K f) (tCons te tNil)) σ H (.bl (f d)) :=
  ev_callD (Evl.ea_cons h Evl.ea_nil) fun H1 e1 Q q => ⟨v, d, rfl, hd.up e1, q⟩
theorem ev_spBpq {σ : L2.St} {H : Hp} {te tp : TE} {v : V} {d : PyData} {f : Int → PyData → Bool} {p : Int} (h : Evl.Ev te σ H v) (hp : Evl.Ev tp σ H (.int p)) (hd : Dq K H v d) (hw : ∃ n, fits n d) : Evl.Ev (tCallD (spBp K f) (tCons te (tCons tp tNil))) σ H (.bl (f p d)) :=
  ev_callD (Evl.ea_cons h (Evl.ea_cons hp Evl.ea_nil)) fun H1 e1 Q q => ⟨v, d, p, rfl, hd.up e1, hw, q⟩
theorem ok_is_integer {f : Addr} {fd : FuncData} (F : Fun K "is_integer" "is_integer" s_is_integer f fd) (T : TxF mg) : FnOk P w K mg base CX0 1 f fd ["thing"] (spB K isI) := by
  refine F.ok sc_is_integer (fun vs H Q E h => ?_) (fun cdv A outer s H vs Q E hr h => ?_)
  · obtain ⟨_, _, rfl, _⟩ := h
    rfl
  · obtain ⟨v, d, rfl, hd, k⟩ := h
    refine ⟨_, (pss_one (ps_ret (pe_and (pe_callB call_isi (by rfl) T.m_isinstance (by decide +kernel) (pa_cons (pv 0) (pa_cons (pe_bltn (v := .ty "int") (by rfl) T.m_int (by decide +kernel) rfl) pa_nil))) (pe_one (pe_not (pe_callB call_isi (by rfl) T.m_isinstance (by decide +kernel) (pa_cons (pv 0) (pa_cons (pe_bltn (v := .ty "bool") (by rfl) T.m_bool (by decide +kernel) rfl) pa_nil)))))))), ?_⟩
    have v0 : Evl.Ev (tVar 0) (start sc_is_integer_N [v]) H v := Evl.ev_var rfl
    cases d with
    | none => exact Evl.s_ret (v := .bl false) (Evl.ev_andV (a := false) (b := false) (evq_isi v0 hd isi_NoneType_int) fun z => nomatch z) k
    | bool z => exact Evl.s_ret (v := .bl false) (Evl.ev_andV (a := true) (b := false) (evq_isi v0 hd isi_bool_int) fun _ => Evl.ev_notV (a := true) (evq_isi v0 hd isi_bool_bool)) k
    | int z => exact Evl.s_ret (v := .bl true) (Evl.ev_andV (a := true) (b := true) (evq_isi v0 hd isi_int_int) fun _ => Evl.ev_notV (a := false) (evq_isi v0 hd isi_int_bool)) k
    | str z' => exact Evl.s_ret (v := .bl false) (Evl.ev_andV (a := false) (b := false) (evq_isi v0 hd isi_str_int) fun z => nomatch z) k
    | list ds => exact Evl.s_ret (v := .bl false) (Evl.ev_andV (a := false) (b := false) (evq_isi v0 hd isi_list_int) fun z => nomatch z) k
    | tuple ds => exact Evl.s_ret (v := .bl false) (Evl.ev_andV (a := false) (b := false) (evq_isi v0 hd isi_tuple_int) fun z => nomatch z) k
    | dict z' => exact Evl.s_ret (v := .bl false) (Evl.ev_andV (a := false) (b := false) (evq_isi v0 hd isi_dict_int) fun z => nomatch z) k
theorem ok_is_label {f : Addr} {fd : FuncData} (F : Fun K "is_label" "is_label" s_is_label f fd) (T : TxF mg) : FnOk P w K mg base CX0 1 f fd ["thing"] (spB K isL) := by
  refine F.ok sc_is_label (fun vs H Q E h => ?_) (fun cdv A outer s H vs Q E hr h => ?_)
  · obtain ⟨_, _, rfl, _⟩ := h
    rfl
  · obtain ⟨v, d, rfl, hd, k⟩ := h
    refine ⟨_, (pss_one (ps_ret (pe_callB call_isi (by rfl) T.m_isinstance (by decide +kernel) (pa_cons (pv 0) (pa_cons (pe_bltn (v := .ty "bool") (by rfl) T.m_bool (by decide +kernel) rfl) pa_nil))))), ?_⟩
    have v0 : Evl.Ev (tVar 0) (start sc_is_label_N [v]) H v := Evl.ev_var rfl
    cases d with
    | none => exact Evl.s_ret (evq_isi v0 hd isi_NoneType_bool) k
    | bool z => exact Evl.s_ret (evq_isi v0 hd isi_bool_bool) k
    | int z => exact Evl.s_ret (evq_isi v0 hd isi_int_bool) k
    | str z => exact Evl.s_ret (evq_isi v0 hd isi_str_bool) k
    | list ds => exact Evl.s_ret (evq_isi v0 hd isi_list_bool) k
    | tuple ds => exact Evl.s_ret (evq_isi v0 hd isi_tuple_bool) k
    | dict z => exact Evl.s_ret (evq_isi v0 hd isi_dict_bool) k
theorem ok_is_row {f : Addr} {fd : FuncData} (F : Fun K "is_row" "is_row" s_is_row f fd) (T : TxF mg) : FnOk P w K mg base CX0 1 f fd ["thing"] (spB K isR) := by
  refine F.ok sc_is_row (fun vs H Q E h => ?_) (fun cdv A outer s H vs Q E hr h => ?_)
  · obtain ⟨_, _, rfl, _⟩ := h
    rfl
  · obtain ⟨v, d, rfl, hd, k⟩ := h
    refine ⟨_, (pss_one (ps_ret (pe_callB call_isiT (by rfl) T.m_isinstance (by decide +kernel) (pa_cons (pv 0) (pa_cons (pe_tup (pa_cons (pe_bltn (v := .ty "list") (by rfl) T.m_list (by decide +kernel) rfl) (pa_cons (pe_bltn (v := .ty "tuple") (by rfl) T.m_tuple (by decide +kernel) rfl) pa_nil))) pa_nil))))), ?_⟩
    have v0 : Evl.Ev (tVar 0) (start sc_is_row_N [v]) H v := Evl.ev_var rfl
    cases d with
    | none => exact Evl.s_ret (evq_isi2 v0 hd isi_NoneType_list_tuple) k
    | bool z => exact Evl.s_ret (evq_isi2 v0 hd isi_bool_list_tuple) k
    | int z => exact Evl.s_ret (evq_isi2 v0 hd isi_int_list_tuple) k
    | str z => exact Evl.s_ret (evq_isi2 v0 hd isi_str_list_tuple) k
    | list ds => exact Evl.s_ret (evq_isi2 v0 hd isi_list_list_tuple) k
    | tuple ds => exact Evl.s_ret (evq_isi2 v0 hd isi_tuple_list_tuple) k
    | dict z => exact Evl.s_ret (evq_isi2 v0 hd isi_dict_list_tuple) k
theorem ok_is_number_of_places {f : Addr} {fd : FuncData} (F : Fun K "is_number_of_places" "is_number_of_places" s_is_number_of_places f fd) (T : TxF mg) (D_is_integer : DefAt P w K mg base "is_integer" 1 ["thing"] (spB K isI)) : FnOk P w K mg base CX0 2 f fd ["thing"] (spB K isN) := by
  refine F.ok sc_is_number_of_places (fun vs H Q E h => ?_) (fun cdv A outer s H vs Q E hr h => ?_)
  · obtain ⟨_, _, rfl, _⟩ := h
    rfl
  · obtain ⟨v, d, rfl, hd, k⟩ := h
    refine ⟨_, (pss_one (ps_ret (pe_and (pe_callD D_is_integer (by first | exact hr | exact hr.mono (by decide) | exact hr.mono (by omega)) (by rfl) (pa_cons (pv 0) pa_nil)) (pe_one (pe_chain op_le op_le (pe_glob (v := .int 1) (by rfl) T.c_LEAST_PLACES.choose_spec (by exact ⟨_, rfl⟩)) (pv 0) (pe_glob (v := .int 3) (by rfl) T.c_MOST_PLACES.choose_spec (by exact ⟨_, rfl⟩))))))), ?_⟩
    have v0 : Evl.Ev (tVar 0) (start sc_is_number_of_places_N [v]) H v := Evl.ev_var rfl
    have e : isI d = true → ∃ i, d = .int i := fun z => by
      cases d <;> first | exact ⟨_, rfl⟩ | cases z
    have q : (isI d && isN d) = isN d := by
      cases d <;> rfl
    refine Evl.s_ret (v := .bl (isN d)) (Evl.ev_is (Evl.ev_andV (a := isI d) (b := isN d) (ev_spBq v0 hd) fun z => ?_) (congrArg V.bl q)) k
    obtain ⟨i, rfl⟩ := e z
    cases hd
    refine ev_chain (k := decide (1 ≤ i)) Evl.ev_c v0 (Evl.rv_I0 (g := fun a b => .bl (decide (a ≤ b)))) (fun _ => Evl.ev_c) (fun _ => ?_) (fun z => ?_)
    · have e : (isN (.int i)) = decide (i ≤ 3) := by
        show (decide (1 ≤ i) && decide (i ≤ 3)) = _
        rw [‹decide (1 ≤ i) = true›]
        rfl
      rw [e]
      exact Evl.rv_I0 (g := fun a b => .bl (decide (a ≤ b)))
    · show (decide (1 ≤ i) && decide (i ≤ 3)) = false
      rw [z]
      rfl
theorem ok_is_row_of {f : Addr} {fd : FuncData} (F : Fun K "is_row_of" "is_row_of" s_is_row_of f fd) (T : TxF mg) (D_is_row : DefAt P w K mg base "is_row" 1 ["thing"] (spB K isR)) : FnOk P w K mg base CX0 2 f fd ["thing", "many"] (spBp K isO) := by
  refine F.ok sc_is_row_of (fun vs H Q E h => ?_) (fun cdv A outer s H vs Q E hr h => ?_)
  · obtain ⟨_, _, _, rfl, _⟩ := h
    rfl
  · obtain ⟨v, d, p, rfl, hd, hw, k⟩ := h
    refine ⟨_, (pss_one (ps_ret (pe_and (pe_callD D_is_row (by first | exact hr | exact hr.mono (by decide) | exact hr.mono (by omega)) (by rfl) (pa_cons (pv 0) pa_nil)) (pe_one (pe_cmpR op_eq (pe_callB call_len_seq (by rfl) T.m_len (by decide +kernel) (pa_cons (pv 0) pa_nil)) (pv 1) (nomark _)))))), ?_⟩
    have v0 : Evl.Ev (tVar 0) (start sc_is_row_of_N [v, .int p]) H v := Evl.ev_var rfl
    have v1 : Evl.Ev (tVar 1) (start sc_is_row_of_N [v, .int p]) H (.int p) := Evl.ev_var rfl
    have q : (isR d && isO p d) = isO p d := by
      cases d <;> rfl
    refine Evl.s_ret (v := .bl (isO p d)) (Evl.ev_is (Evl.ev_andV (a := isR d) (b := isO p d) (ev_spBq v0 hd) fun z => ?_) (congrArg V.bl q)) k
    have main : ∀ (a : Addr) (xs : List V) (ds : List PyData), v = .ref a → (SqL K H a xs ∨ SqT K H a xs) → DqAll K H xs ds → Evl.Ev (tOp rEq (tCB (fun xs H Q => ∃ p ys, xs = [V.ref p] ∧ (SqL K H p ys ∨ SqT K H p ys) ∧ Q (.int ys.length) H) (tCons (tVar 0) tNil)) (tVar 1)) (start sc_is_row_of_N [v, .int p]) H (.bl (decide ((ds.length : Int) = p))) := by
      rintro a xs ds rfl hx ha
      have hlen := dqa_len ha
      refine Evl.ev_is (Evl.ev_op (ev_lenS v0 hx) v1 (Evl.rv_eq rfl)) ?_
      rw [hlen]
      exact congrArg V.bl (by simp)
    cases d with
    | list ds =>
      cases hd with
      | lst hs ha => exact main _ _ ds rfl (.inl hs) ha
    | tuple ds =>
      cases hd with
      | tup hs ha => exact main _ _ ds rfl (.inr hs) ha
    | _ => cases z
theorem ok_is_point {f : Addr} {fd : FuncData} (F : Fun K "is_point" "is_point" s_is_point f fd) (T : TxF mg) (D_is_integer : DefAt P w K mg base "is_integer" 1 ["thing"] (spB K isI)) (D_is_row_of : DefAt P w K mg base "is_row_of" 2 ["thing", "many"] (spBp K isO)) : FnOk P w K mg base CX0 3 f fd ["thing", "places"] (spBp K isP) := by
  refine F.ok sc_is_point (fun vs H Q E h => ?_) (fun cdv A outer s H vs Q E hr h => ?_)
  · obtain ⟨_, _, _, rfl, _⟩ := h
    rfl
  · obtain ⟨v, d, p, rfl, hd, hw, k⟩ := h
    refine ⟨_, (pss_one (ps_ret (pe_and (pe_callD D_is_row_of (by first | exact hr | exact hr.mono (by decide) | exact hr.mono (by omega)) (by rfl) (pa_cons (pv 0) (pa_cons (pv 1) pa_nil))) (pe_one (pe_callB (cr_all rfl) (by rfl) T.m_all (by decide +kernel) (pa_cons (pe_lc (own := [("entry", 2)]) (g := gName 2) (tt := tYes) (by rfl) sc_is_point.nd (pi_seq (pv 0)) (blkOk_by (N := sc_is_point_N) (sc := defScope s_is_point) (by decide +kernel)) (fun _ _ _ _ _ => (pg_name (i := 2) sc_is_point.nd rfl (by first | exact Or.inl rfl | exact Or.inr rfl))) (fun _ _ _ _ _ => pts_nil) (fun _ _ _ _ _ => (pe_callD D_is_integer (by first | exact hr | exact hr.mono (by decide) | exact hr.mono (by omega)) (by rfl) (pa_cons (pv 2) pa_nil)))) pa_nil)))))), ?_⟩
    have v0 : Evl.Ev (tVar 0) (start sc_is_point_N [v, .int p]) H v := Evl.ev_var rfl
    have v1 : Evl.Ev (tVar 1) (start sc_is_point_N [v, .int p]) H (.int p) := Evl.ev_var rfl
    have q : (isO p d && isP p d) = isP p d := by
      exact isP_two
    refine Evl.s_ret (v := .bl (isP p d)) (Evl.ev_is (Evl.ev_andV (a := isO p d) (b := isP p d) (ev_spBpq v0 v1 hd hw) fun z => ?_) (congrArg V.bl q)) k
    have main : ∀ (a : Addr) (xs : List V) (ds : List PyData), v = .ref a → (SqL K H a xs ∨ SqT K H a xs) → DqAll K H xs ds → ds.length ≤ 40000 → (ds.length : Int) = p → Evl.Ev (tCB (rAll K) (tCons (tLc (iSeq K (tVar 0)) (gName 2) tYes (tCallD (spB K isI) (tCons (tVar 2) tNil)) [2]) tNil)) (start sc_is_point_N [v, .int p]) H (.bl (decide ((ds.length : Int) = p) && ds.all isI)) := by
      rintro a xs ds rfl hx ha hz he
      refine Evl.ev_is (ev_all (bs := ds.map isI) ?_) (congrArg V.bl (by simp [he]))
      exact el_seqBq v0 hx ha hz (fun _ => rfl) (fun x d H1 _ e1 hd' => ev_spBq (Evl.ev_var rfl) hd')
    cases d with
    | list ds =>
      cases hd with
      | lst hs ha => exact main _ _ ds rfl (.inl hs) ha (fits_len (.inl hw)) (of_decide_eq_true z)
    | tuple ds =>
      cases hd with
      | tup hs ha => exact main _ _ ds rfl (.inr hs) ha (fits_len (.inr hw)) (of_decide_eq_true z)
    | _ => cases z
theorem ok_is_example {f : Addr} {fd : FuncData} (F : Fun K "is_example" "is_example" s_is_example f fd) (T : TxF mg) (D_is_row_of : DefAt P w K mg base "is_row_of" 2 ["thing", "many"] (spBp K isO)) (D_is_point : DefAt P w K mg base "is_point" 3 ["thing", "places"] (spBp K isP)) (D_is_label : DefAt P w K mg base "is_label" 1 ["thing"] (spB K isL)) : FnOk P w K mg base CX0 4 f fd ["thing", "places"] (spBp K isX) := by
  refine F.ok sc_is_example (fun vs H Q E h => ?_) (fun cdv A outer s H vs Q E hr h => ?_)
  · obtain ⟨_, _, _, rfl, _⟩ := h
    rfl
  · obtain ⟨v, d, p, rfl, hd, hw, k⟩ := h
    refine ⟨_, (pss_one (ps_ret (pe_and (pe_callD D_is_row_of (by first | exact hr | exact hr.mono (by decide) | exact hr.mono (by omega)) (by rfl) (pa_cons (pv 0) (pa_cons pe_int pa_nil))) (pe_and (pe_callD D_is_point (by first | exact hr | exact hr.mono (by decide) | exact hr.mono (by omega)) (by rfl) (pa_cons (pe_ix ix_seq (pv 0) pe_int (fun _ _ => rfl)) (pa_cons (pv 1) pa_nil))) (pe_one (pe_callD D_is_label (by first | exact hr | exact hr.mono (by decide) | exact hr.mono (by omega)) (by rfl) (pa_cons (pe_ix ix_seq (pv 0) pe_int (fun _ _ => rfl)) pa_nil))))))), ?_⟩
    have v0 : Evl.Ev (tVar 0) (start sc_is_example_N [v, .int p]) H v := Evl.ev_var rfl
    have v1 : Evl.Ev (tVar 1) (start sc_is_example_N [v, .int p]) H (.int p) := Evl.ev_var rfl
    have q : (isO 2 d && isX p d) = isX p d := by
      cases d with
      | list ds => exact isX_two (.inl rfl)
      | tuple ds => exact isX_two (.inr rfl)
      | _ => rfl
    refine Evl.s_ret (v := .bl (isX p d)) (Evl.ev_is (Evl.ev_andV (a := isO 2 d) (b := isX p d) (ev_spBpq v0 Evl.ev_c hd hw) fun z => ?_) (congrArg V.bl q)) k
    have main : ∀ (a : Addr) (xs : List V) (ds : List PyData), v = .ref a → (SqL K H a xs ∨ SqT K H a xs) → DqAll K H xs ds → ds.length = 2 → (∀ a b, ds = [a, b] → isX p d = (isP p a && isL b)) → (∀ a b, ds = [a, b] → ∃ n, fits n a) →
        Evl.Ev (tAndV (tCallD (spBp K isP) (tCons (tOp (rIxA K) (tVar 0) (tC (.int 0))) (tCons (tVar 1) tNil))) (tCallD (spB K isL) (tCons (tOp (rIxA K) (tVar 0) (tC (.int 1))) tNil))) (start sc_is_example_N [v, .int p]) H (.bl (isX p d)) := by
      rintro a xs ds rfl hx ha h2 q2 qw
      obtain ⟨d1, d2, e⟩ : ∃ d1 d2, ds = [d1, d2] := by
        match ds, h2 with
        | [a, b], _ => exact ⟨a, b, rfl⟩
      subst e
      cases ha with
      | @cons x1 _ _ _ g1 hr =>
        cases hr with
        | @cons x2 _ _ _ g2 hr2 =>
          cases hr2
          have i0 : atI [x1, x2] 0 = some x1 := rfl
          have i1 : atI [x1, x2] 1 = some x2 := rfl
          rw [q2 d1 d2 rfl]
          exact Evl.ev_andV (ev_spBpq (ev_ixA v0 hx i0) v1 g1 (qw d1 d2 rfl)) fun _ => ev_spBq (ev_ixA v0 hx i1) g2
    cases d with
    | list ds =>
      have h2 : ds.length = 2 := by have := of_decide_eq_true z; omega
      cases hd with
      | lst hs ha => exact main _ _ ds rfl (.inl hs) ha h2 (fun a b e => by rw [e]; rfl) (fun a b e => fits_in (.inl hw) (by rw [e]; simp))
    | tuple ds =>
      have h2 : ds.length = 2 := by have := of_decide_eq_true z; omega
      cases hd with
      | tup hs ha => exact main _ _ ds rfl (.inr hs) ha h2 (fun a b e => by rw [e]; rfl) (fun a b e => fits_in (.inr hw) (by rw [e]; simp))
    | _ => cases z
/-- a row: some whole numbers and a label -/
def rowD (ns : List Int) (b : Bool) : PyData := .tuple [.tuple (ns.map .int), .bool b]
def Sm (ns : List Int) : Prop := ∀ e ∈ ns, -999999 ≤ e ∧ e ≤ 999999
def Rw (p : Int) (d : PyData) : Prop := ∃ ns b, d = rowD ns b ∧ (ns.length : Int) = p ∧ ns.length ≤ 3 ∧ Sm ns
theorem rw_isX {p : Int} {d : PyData} (h : Rw p d) : isX p d = true := by
  obtain ⟨ns, b, rfl, h1, h2, h3⟩ := h
  show (decide (((ns.map PyData.int).length : Int) = p) && (ns.map PyData.int).all isI && true) = true
  rw [List.length_map, h1]
  simp [isI]
theorem rw_fits {p : Int} {d : PyData} (h : Rw p d) : fits 2 d := by
  obtain ⟨ns, b, rfl, h1, h2, h3⟩ := h
  refine ⟨by show 2 ≤ 40000; omega, fun e he => ?_⟩
  rcases List.mem_cons.mp he with z | z
  · subst z
    refine ⟨by rw [List.length_map]; omega, fun e he => ?_⟩
    obtain ⟨i, _, rfl⟩ := List.mem_map.mp he
    trivial
  · rcases List.mem_cons.mp z with z | z
    · subst z
      trivial
    · cases z
def rowL (ns : List Int) (b : Bool) : PyData := .tuple [.list (ns.map .int), .bool b]
/-- .. as a list or a tuple -/
def Rl2 (p : Int) (d : PyData) : Prop := ∃ ns b, (d = rowD ns b ∨ d = rowL ns b) ∧ (ns.length : Int) = p ∧ ns.length ≤ 3 ∧ Sm ns
def normR : PyData → PyData
  | .tuple [.list xs, b] => .tuple [.tuple xs, b]
  | d => d
theorem rl2_isX {p : Int} {d : PyData} (h : Rl2 p d) : isX p d = true := by
  obtain ⟨ns, b, rfl | rfl, h1, h2, h3⟩ := h
  · show (decide (((ns.map PyData.int).length : Int) = p) && (ns.map PyData.int).all isI && true) = true
    rw [List.length_map, h1]
    simp [isI]
  · show (decide (((ns.map PyData.int).length : Int) = p) && (ns.map PyData.int).all isI && true) = true
    rw [List.length_map, h1]
    simp [isI]
theorem rl2_fits {p : Int} {d : PyData} (h : Rl2 p d) : fits 2 d := by
  obtain ⟨ns, b, rfl | rfl, h1, h2, h3⟩ := h
  · exact rw_fits (p := p) ⟨ns, b, rfl, h1, h2, h3⟩
  · refine ⟨by show 2 ≤ 40000; omega, fun e he => ?_⟩
    rcases List.mem_cons.mp he with z | z
    · subst z
      refine ⟨by rw [List.length_map]; omega, fun e he => ?_⟩
      obtain ⟨i, _, rfl⟩ := List.mem_map.mp he
      trivial
    · rcases List.mem_cons.mp z with z | z
      · subst z
        trivial
      · cases z
def spCopy (K : PySem.W.Frag) : Sp := fun vs H Q _ => ∃ v p d L, vs = [v] ∧ Hid L H ∧ Dp K (W L H) v d ∧ Rl2 p d ∧ ∀ v' H', Ex H H' → Dp K (W L H') v' (normR d) → Q v' H'
theorem ok_copied_example {f : Addr} {fd : FuncData} (F : Fun K "copied_example" "copied_example" s_copied_example f fd) (T : TxF mg) : FnOk P w K mg base CX0 1 f fd ["example"] (spCopy K) := by
  refine F.ok sc_copied_example (fun vs H Q E h => ?_) (fun cdv A outer s H vs Q E hr h => ?_)
  · obtain ⟨_, _, _, _, rfl, _⟩ := h
    rfl
  · obtain ⟨v, p, d, L, rfl, hL, hd, hrw, k⟩ := h
    refine ⟨_, (pss_cons (ps_asg (pv 0) (pg_tup (by rfl) (pgs_cons (pg_name (i := 1) sc_copied_example.nd rfl (by first | exact Or.inl rfl | exact Or.inr rfl)) (pgs_cons (pg_name (i := 2) sc_copied_example.nd rfl (by first | exact Or.inl rfl | exact Or.inr rfl)) pgs_nil))))
    (pss_one (ps_ret (pe_tup (pa_cons (pe_callTy call_tuple_of (by rfl) T.m_tuple (by decide +kernel) (pa_cons (pv 1) pa_nil)) (pa_cons (pv 2) pa_nil)))))), ?_⟩
    obtain ⟨ns, b, rfl | rfl, h1, h2, h3⟩ := hrw
    · cases hd with
      | @tup a ys _ hs ha =>
        cases ha with
        | @cons x1 us1 _ _ r1 rr =>
          cases rr with
          | @cons x2 us2 _ _ r2 rr2 =>
            cases rr2
            refine ⟨_, rfl, a, [x1, x2], rfl, Evl.ex_t w_sub hs, rfl, x1, [x2], rfl, x2, [], rfl, rfl, ?_⟩
            refine d_ret (K := K) (L := L) (d := rowD ns b) (evd_tup hL (evds_cons (evd_tupD (ds := ns.map .int) (Evl.ev_var rfl) (.inr r1) hL) (evds_cons (evd_var rfl r2) evds_nil)) (by show 2 ≤ 100000; omega)) (fun v' H' e hv => k v' H' e hv)
    · cases hd with
      | @tup a ys _ hs ha =>
        cases ha with
        | @cons x1 us1 _ _ r1 rr =>
          cases rr with
          | @cons x2 us2 _ _ r2 rr2 =>
            cases rr2
            refine ⟨_, rfl, a, [x1, x2], rfl, Evl.ex_t w_sub hs, rfl, x1, [x2], rfl, x2, [], rfl, rfl, ?_⟩
            refine d_ret (K := K) (L := L) (d := rowD ns b) (evd_tup hL (evds_cons (evd_tupD (ds := ns.map .int) (Evl.ev_var rfl) (.inl r1) hL) (evds_cons (evd_var rfl r2) evds_nil)) (by show 2 ≤ 100000; omega)) (fun v' H' e hv => k v' H' e hv)
end
end U

set_option Elab.async false
set_option linter.all false
set_option maxRecDepth 100000
set_option maxHeartbeats 4000000
namespace U
open PySem PySem.Spec PyProof.Rows L2
open Evl (Ex)
abbrev s_Sample_init : Stmt := inClass (top 19) 0
abbrev sc_Sample_init_N : List Str := ["self", "places", "examples", "index", "thing", "example"]
theorem sc_Sample_init : FnScope sc_Sample_init_N ["self", "places", "examples"] (defScope s_Sample_init) := ⟨rfl, rfl, rfl, by decide +kernel, rfl, by decide +kernel, by decide +kernel⟩
abbrev s_Sample_examples : Stmt := inClass (top 19) 1
abbrev sc_Sample_examples_N : List Str := ["self"]
theorem sc_Sample_examples : FnScope sc_Sample_examples_N ["self"] (defScope s_Sample_examples) := ⟨rfl, rfl, rfl, by decide +kernel, rfl, by decide +kernel, by decide +kernel⟩
abbrev s_Sample_eq : Stmt := inClass (top 19) 11
abbrev sc_Sample_eq_N : List Str := ["self", "other"]
theorem sc_Sample_eq : FnScope sc_Sample_eq_N ["self", "other"] (defScope s_Sample_eq) := ⟨rfl, rfl, rfl, by decide +kernel, rfl, by decide +kernel, by decide +kernel⟩
/-- at x an instance of C: p places, the rows ds -/
def Smp (K : PySem.W.Frag) (L : List Addr) (H : Hp) (x C : Addr) (p : Int) (ds : List PyData) : Prop := ∃ dx v, H x = some (.ins C dx [("places", .int p), ("_pairs", v)]) ∧ Dp K (W L H) v (.tuple ds)
structure SmpC (K : PySem.W.Frag) (C : Addr) : Prop where
  cl : Cls K C
  nP : NoAttr K C "places"
  nQ : NoAttr K C "_pairs"
  kS : PySem.W.kitOne K (.ref C) (.ref C) = some true
  ha : PySem.W.findIn K (.ref C) "__class__" = some (some (.builtin "object.__class__"))
  hn : PySem.W.specialIn K (.builtin "object.__class__") "__get__" = some (some (.builtin "getset_descriptor.__get__"))
  htk : PySem.W.takesIn K (.builtin "object.__class__") = some true
  hm : PySem.W.mroIn K C (.type "object") = some true
/-- an error class without attributes -/
structure UnC (K : PySem.W.Frag) (mg : Str → Option Value) (U : Addr) : Prop where
  gU : mg "UnlikePlaces" = some (.ref U)
  xU : PySem.W.excIn K U [.type "ValueError", .type "Exception", .type "BaseException", .type "object"] "ValueError.__new__" = true
  kU : PySem.W.keepIn K (.ref U) = true
  bU : PySem.W.subIn K (.ref U) (.type "BaseException") = some true
  tU : PySem.W.typeIn K (.ref U) = some (.type "type")
  sU : PySem.W.subIn K (.ref U) (.ref U) = some true
  iU : (PySem.W.clsIn K U).isSome = true
def Rws (p : Int) (ds : List PyData) : Prop := ds.length ≤ 20000 ∧ ∀ d ∈ ds, Rw p d
theorem Rws.fit {p : Int} {ds : List PyData} (h : Rws p ds) : fits 3 (.list ds) ∧ fits 3 (.tuple ds) := ⟨⟨by have := h.1; omega, fun d hd => rw_fits (h.2 d hd)⟩, ⟨by have := h.1; omega, fun d hd => rw_fits (h.2 d hd)⟩⟩
theorem Rws.sel {p : Int} {ds : List PyData} {c : Nat → Bool} (h : Rws p ds) : Rws p (sel c ds ds.length) := ⟨Nat.le_trans (sel_len _) h.1, fun d hd => h.2 d (sel_mem hd)⟩
def flip1 : PyData → PyData
  | .tuple [a, .bool b] => .tuple [a, .bool (!b)]
  | d => d
theorem Rws.flip {p : Int} {ds : List PyData} (h : Rws p ds) : Rws p (ds.map flip1) := ⟨by rw [List.length_map]; exact h.1, fun d hd => by
  obtain ⟨e, he, rfl⟩ := List.mem_map.mp hd
  obtain ⟨ns, b, rfl, h1, h2⟩ := h.2 e he
  exact ⟨ns, !b, rfl, h1, h2⟩⟩
theorem Rws.app {p : Int} {ds es : List PyData} (h : Rws p ds) (h2 : Rws p es) (hz : ds.length + es.length ≤ 20000) : Rws p (ds ++ es) := ⟨by rw [List.length_append]; exact hz, fun d hd => (List.mem_append.mp hd).elim (h.2 d) (h2.2 d)⟩
def RwsL (p : Int) (ds : List PyData) : Prop := ds.length ≤ 20000 ∧ ∀ d ∈ ds, Rl2 p d
theorem Rws.toL {p : Int} {ds : List PyData} (h : Rws p ds) : RwsL p ds ∧ ds.map normR = ds := ⟨⟨h.1, fun d hd => by
  obtain ⟨ns, b, e, h1, h2, h3⟩ := h.2 d hd
  exact ⟨ns, b, .inl e, h1, h2, h3⟩⟩, by
  have e : ∀ d ∈ ds, normR d = id d := fun d hd => by
    obtain ⟨ns, b, e, h1, h2⟩ := h.2 d hd
    rw [e]
    rfl
  rw [List.map_congr_left e, List.map_id]⟩
def spInit (K : PySem.W.Frag) (C : Addr) : Sp := fun vs H Q _ => ∃ x dx v p ds L, vs = [.ref x, .int p, v] ∧ H x = some (.ins C dx []) ∧ 1 ≤ p ∧ p ≤ 3 ∧ Hid (x :: L) H ∧ (Dp K (W (x :: L) H) v (.list ds) ∨ Dp K (W (x :: L) H) v (.tuple ds)) ∧ RwsL p ds ∧
  ∀ H', (∀ a o, a ≠ x → H a = some o → H' a = some o) → Smp K (x :: L) H' x C p (ds.map normR) → Q .non H'
def spExamples (K : PySem.W.Frag) (C : Addr) : Sp := fun vs H Q _ => ∃ x p ds L, vs = [.ref x] ∧ Hid L H ∧ Smp K L H x C p ds ∧ ∀ t H', H t = none → Ex H H' → Gr K L H' t ds → Q (.ref t) H'
def Idx (K : PySem.W.Frag) (H : Hp) (a : Addr) (ns : List Int) (n : Nat) : Prop := (SqL K H a (ns.map .int) ∨ SqT K H a (ns.map .int)) ∧ ns.Nodup ∧ (∀ i ∈ ns, 0 ≤ i ∧ i < (n : Int)) ∧ ns.length ≤ 20000
def spChecked (K : PySem.W.Frag) (C : Addr) : Sp := fun vs H Q _ => ∃ x a p ds ns L, vs = [.ref x, .ref a] ∧ Smp K L H x C p ds ∧ Rws p ds ∧ Idx K H a ns ds.length ∧ ∀ t H', H t = none → Ex H H' → H' t = some (.lst (ns.map .int)) → Q (.ref t) H'
def spPart (K : PySem.W.Frag) (C : Addr) (c : List Int → Nat → Bool) : Sp := fun vs H Q _ => ∃ x a p ds ns L, vs = [.ref x, .ref a] ∧ Hid L H ∧ Smp K L H x C p ds ∧ 1 ≤ p ∧ p ≤ 3 ∧ Rws p ds ∧ Idx K H a ns ds.length ∧ ∀ y H', Ex H H' → Smp K L H' y C p (sel (c ns) ds ds.length) → Q (.ref y) H'
def spTurned (K : PySem.W.Frag) (C : Addr) : Sp := fun vs H Q _ => ∃ x p ds L, vs = [.ref x] ∧ Hid L H ∧ Smp K L H x C p ds ∧ 1 ≤ p ∧ p ≤ 3 ∧ Rws p ds ∧ ∀ y H', Ex H H' → Smp K L H' y C p (ds.map flip1) → Q (.ref y) H'
def spAdd (K : PySem.W.Frag) (C U : Addr) : Sp := fun vs H Q E => ∃ x y p q ds es L, vs = [.ref x, .ref y] ∧ Hid L H ∧ Smp K L H x C p ds ∧ Smp K L H y C q es ∧ 1 ≤ p ∧ p ≤ 3 ∧ Rws p ds ∧ Rws q es ∧ ds.length + es.length ≤ 20000 ∧
  (p = q → ∀ z H', Ex H H' → Smp K L H' z C p (ds ++ es) → Q (.ref z) H') ∧ (p ≠ q → ∀ H', Ex H H' → E (.ref U) none H')
section
variable {P : Program} {w : World} {K : PySem.W.Frag} {mg : Str → Option Value} {base : Heap} {C : Addr}
theorem funD_ok0 {x qual : Str} {params : Arguments} {body : List Stmt} {scope : Scope} {dvs : List V} {kws : List (Str × V)} {f : Addr} {fd : FuncData} {N ps : List Str} {k : Nat} {sp : Sp} (F : FunD K x qual params body scope dvs kws f fd) (S : FnScope N ps scope) (len : ∀ vs H Q E, sp vs H Q E → vs.length = ps.length)
    (hbody : ∀ (cdv : Value) (A : Around) (outer : List Env) (s : Shared) (H : Hp) (vs : List V) (Q : VK) (E : XK), Room k (A.deeper (envOfC qual scope s.heap.objs.size f cdv)) → sp vs H Q E →
      ∃ t, PSs (cxOf CX0 P w K mg base N qual scope f cdv A outer s H E).nox body t ∧ t { nx := fun _ H' => Q .non H', rt := Q } (start N vs) H) : FnOk P w K mg base CX0 (k + 1) f fd ps sp :=
  F.ok S len fun cdv A outer s H vs Q E hr h => by
    obtain ⟨t, h1, h2⟩ := hbody cdv A outer s H vs Q E hr h
    exact ⟨t, h1.nox, h2⟩
theorem ev_spCopy {L : List Addr} {σ : L2.St} {H : Hp} {te : TE} {v : V} {d : PyData} {p : Int} (h : Evl.Ev te σ H v) (hL : Hid L H) (hd : Dp K (W L H) v d) (hr : Rl2 p d) : EvD K L (tCallD (spCopy K) (tCons te tNil)) σ H (normR d) := fun H1 e Q q =>
  h H1 e _ fun H2 e2 => ⟨v, p, d, L, rfl, hid_ex (e.trans e2) hL, hd.up (w_ex (e.trans e2)), hr, fun v' H' e' hv => q v' H' (e2.trans e') hv⟩
theorem Smp.up {L : List Addr} {H H' : Hp} {x : Addr} {p : Int} {ds : List PyData} (h : Smp K L H x C p ds) (e : Ex H H') : Smp K L H' x C p ds := by
  obtain ⟨dx, v, h1, h2⟩ := h
  exact ⟨dx, v, e _ _ h1, h2.up (w_ex e)⟩
theorem Smp.low {L L2 : List Addr} {H : Hp} {x : Addr} {p : Int} {ds : List PyData} (h : Smp K L2 H x C p ds) (s : ∀ a ∈ L, a ∈ L2) : Smp K L H x C p ds := by
  obtain ⟨dx, v, h1, h2⟩ := h
  exact ⟨dx, v, h1, h2.up (w_sub2 s)⟩
theorem sfld_run {ta tv : TE} {f : Str} {D : Ends} {σ : L2.St} {H : Hp} (h : tv σ H fun y H1 => ta σ H1 fun x H2 => ∃ a C dx fs, x = .ref a ∧ H2 a = some (.ins C dx fs) ∧ Cls K C ∧ NoAttr K C f ∧ fs.length < 1000 ∧ D.nx σ (upd H2 a (.ins C dx (putF f y fs)))) : sFld K ta tv f D σ H := h
theorem ok_Sinit {f : Addr} {fd : FuncData} {T0 : Addr} (F : FunD K "__init__" "Sample.__init__" (defArgs s_Sample_init) (defBody s_Sample_init) (defScope s_Sample_init) [.ref T0] [] f fd) (T : TxF mg) (S : SmpC K C)
    (D_is_number_of_places : DefAt P w K mg base "is_number_of_places" 2 ["thing"] (spB K isN)) (D_is_row : DefAt P w K mg base "is_row" 1 ["thing"] (spB K isR)) (D_is_example : DefAt P w K mg base "is_example" 4 ["thing", "places"] (spBp K isX))
    (D_copied_example : DefAt P w K mg base "copied_example" 1 ["example"] (spCopy K)) : FnOk P w K mg base CX0 5 f fd ["self", "places", "examples"] (spInit K C) := by
  refine funD_ok0 F sc_Sample_init (fun vs H Q E h => ?_) (fun cdv A outer s H vs Q E hr h => ?_)
  · obtain ⟨_, _, _, _, _, _, rfl, _⟩ := h
    rfl
  · obtain ⟨x, dx, v, p, ds, L, rfl, hx, p1, p3, hL, hd, hR, k⟩ := h
    refine ⟨_, (pss_cons (ps_if (pt_not (pt_val (pe_callD D_is_number_of_places (by first | exact hr | exact hr.mono (by decide) | exact hr.mono (by omega)) (by rfl) (pa_cons (pv 1) pa_nil)))) (pss_one ps_never) pss_nil)
    (pss_cons (ps_if (pt_not (pt_val (pe_callD D_is_row (by first | exact hr | exact hr.mono (by decide) | exact hr.mono (by omega)) (by rfl) (pa_cons (pv 2) pa_nil)))) (pss_one ps_never) pss_nil)
    (pss_cons (ps_for PassesOwn.never rfl (pi_enumA (by rfl) T.m_enumerate (pa_cons (pv 2) pa_nil)) (pg_tup (by rfl) (pgs_cons (pg_name (i := 3) sc_Sample_init.nd rfl (by first | exact Or.inl rfl | exact Or.inr rfl)) (pgs_cons (pg_name (i := 4) sc_Sample_init.nd rfl (by first | exact Or.inl rfl | exact Or.inr rfl)) pgs_nil)))
      (pss_one (ps_if (pt_not (pt_val (pe_callD D_is_example (by first | exact hr | exact hr.mono (by decide) | exact hr.mono (by omega)) (by rfl) (pa_cons (pv 4) (pa_cons (pv 1) pa_nil))))) (pss_one ps_never) pss_nil)))
    (pss_cons (ps_fld (pv 0) (pv 1) rfl)
    (pss_one (ps_fld (pv 0) (pe_callTy call_tuple_of (by rfl) T.m_tuple (by decide +kernel) (pa_cons (pe_lc (own := [("example", 5)]) (g := gName 5) (tt := tYes) (by rfl) sc_Sample_init.nd (pi_seq (pv 2)) (blkOk_by (N := sc_Sample_init_N) (sc := defScope s_Sample_init) (by decide +kernel)) (fun _ _ _ _ _ => (pg_name (i := 5) sc_Sample_init.nd rfl (by first | exact Or.inl rfl | exact Or.inr rfl))) (fun _ _ _ _ _ => pts_nil) (fun _ _ _ _ _ => (pe_callD D_copied_example (by first | exact hr | exact hr.mono (by decide) | exact hr.mono (by omega)) (by rfl) (pa_cons (pv 5) pa_nil)))) pa_nil)) rfl)))))), ?_⟩
    have v1 : Evl.Ev (tVar 1) (start sc_Sample_init_N [.ref x, .int p, v]) H (.int p) := Evl.ev_var rfl
    have v2 : Evl.Ev (tVar 2) (start sc_Sample_init_N [.ref x, .int p, v]) H v := Evl.ev_var rfl
    have hN : isN (.int p) = true := by
      show (decide (1 ≤ p) && decide (p ≤ 3)) = true
      simp [p1, p3]
    obtain ⟨d0, hd0, hR0⟩ : ∃ d0, Dp K H v d0 ∧ isR d0 = true := hd.elim (fun z => ⟨_, z.up w_sub, rfl⟩) fun z => ⟨_, z.up w_sub, rfl⟩
    refine Evl.q_when (b := false) (Evl.et_is (Evl.et_not (Evl.et_B (ev_spB v1 (.int p)))) (by rw [hN]; rfl)) (fun z => by cases z) (fun _ H1 e1 => ?_)
    refine Evl.q_when (b := false) (Evl.et_is (Evl.et_not (Evl.et_B (ev_spB (v2.mono e1) (hd0.up e1)))) (by rw [hR0]; rfl)) (fun z => by cases z) (fun _ H2 e2 => ?_)
    have e12 := e1.trans e2
    obtain ⟨a, xs, rfl, hs, ha⟩ : ∃ a xs, v = .ref a ∧ (SqL K (W (x :: L) H) a xs ∨ SqT K (W (x :: L) H) a xs) ∧ DpAll K (W (x :: L) H) xs ds := by
      rcases hd with hd | hd
      · cases hd with
        | lst hs ha => exact ⟨_, _, rfl, .inl hs, ha⟩
      · cases hd with
        | tup hs ha => exact ⟨_, _, rfl, .inr hs, ha⟩
    have hs' : SqL K H a xs ∨ SqT K H a xs := hs.imp (Evl.ex_l w_sub) (Evl.ex_t w_sub)
    have hlen := dpa_len ha
    let Pv : Nat → L2.St → Hp → Prop := fun _ σ' H' => Ex H H' ∧ ∃ s3 s4, σ' = [some (.ref x), some (.int p), some (.ref a), s3, s4, none]
    have turn : ∀ (i : Nat) (y : V) (σ' : L2.St) (H3 H4 : Hp) (D : Ends) (u : TS), i < xs.length → Pv i σ' H3 → YPair (fun i => some (.int (i : Nat))) (fun i => xs[i]?) i H3 y H4 → gTup K 2 (gCons (gName 3) (gCons (gName 4) gNil)) y σ' H4 fun σ2 H5 =>
        tIfS (tNot (tB (tCallD (spBp K isX) (tCons (tVar 4) (tCons (tVar 1) tNil))))) tNever tNext { D with nx := Pv (i + 1), ct := Pv (i + 1), bk := D.nx } σ2 H5 := by
      intro i y σ' H3 H4 D u hi pv yp
      obtain ⟨e3, s3, s4, rfl⟩ := pv
      obtain ⟨Tt, u1, u2, rfl, hT, rfl, hu1, hu2⟩ := yp
      have hu2' : xs[i]? = some u2 := hu2
      obtain ⟨d, hd1, hd2⟩ := dpa_get ha hu2'
      have hrw := hR.2 d (List.mem_of_getElem? hd1)
      refine ⟨Tt, [u1, u2], rfl, SqT.of upd_same, rfl, u1, [u2], rfl, u2, [], rfl, rfl, ?_⟩
      have e4 := e3.trans (Ex.new (o := .tup [u1, u2]) hT)
      refine Evl.s_when (b := false) (Evl.et_is (Evl.et_not (Evl.et_B (ev_spBp (d := d) (p := p) (Evl.ev_var rfl) (Evl.ev_var rfl) ((hd2.up w_sub).up e4) ⟨2, rl2_fits hrw⟩))) (by rw [rl2_isX hrw]; rfl)) (fun z => by cases z) (fun _ H6 e6 => ?_)
      exact ⟨e4.trans e6, _, _, rfl⟩
    have fin : ∀ σ' H3, Pv xs.length σ' H3 → tSeq (sFld K (tVar 0) (tVar 1) "places") (sFld K (tVar 0) (tCB (fun xs H Q => ∃ p ys, xs = [.ref p] ∧ ((SqL K H p ys ∧ ∀ l, H l = none → Q (.ref l) (upd H l (.tup ys))) ∨ (SqT K H p ys ∧ Q (.ref p) H)))
        (tCons (tLc (iSeq K (tVar 2)) (gName 5) tYes (tCallD (spCopy K) (tCons (tVar 5) tNil)) [5]) tNil)) "_pairs") { nx := fun _ H' => Q .non H', rt := Q } σ' H3 := by
      rintro σ' H3 ⟨e3, s3, s4, rfl⟩
      refine ⟨_, rfl, _, rfl, x, C, dx, [], rfl, e3 x _ hx, S.cl, S.nP, by decide, ?_⟩
      have hLx : Hid (x :: L) (upd H3 x (.ins C dx (putF "places" (.int p) []))) := hid_upd (hid_ex e3 hL)
      have hW : W (x :: L) (upd H3 x (.ins C dx (putF "places" (.int p) []))) = W (x :: L) H3 := w_upd_in (List.mem_cons_self ..)
      have ha2 : DpAll K (W (x :: L) (upd H3 x (.ins C dx (putF "places" (.int p) [])))) xs ds := by
        rw [hW]
        exact ha.up (w_ex e3)
      have hs2 : SqL K (upd H3 x (.ins C dx (putF "places" (.int p) []))) a xs ∨ SqT K (upd H3 x (.ins C dx (putF "places" (.int p) []))) a xs := by
        have hs3 : SqL K (W (x :: L) (upd H3 x (.ins C dx (putF "places" (.int p) [])))) a xs ∨ SqT K (W (x :: L) (upd H3 x (.ins C dx (putF "places" (.int p) [])))) a xs := by
          rw [hW]
          exact hs.imp (Evl.ex_l (w_ex e3)) (Evl.ex_t (w_ex e3))
        exact hs3.imp (Evl.ex_l w_sub) (Evl.ex_t w_sub)
      have eg := eg_seq (K := K) (L := x :: L) (te := tCallD (spCopy K) (tCons (tVar 5) tNil)) (tl := tVar 2) (j := 5) (vs := [5]) (g := normR) (σ := [some (.ref x), some (.int p), some (.ref a), s3, s4, none]) (Evl.ev_var rfl) hs2 ha2 hLx (by have := hR.1; omega) (fun _ => rfl)
        (fun L' y d H1 hd1 hL' e' hd' => ev_spCopy (Evl.ev_var rfl) hL' hd' (hR.2 d hd1))
      refine sfld_run (evd_tupG eg hLx _ (Ex.refl _) _ fun y H4 e4 hy => ?_)
      refine ⟨_, rfl, x, C, dx, _, rfl, e4 x _ upd_same, S.cl, S.nQ, by show 1 < 1000; omega, ?_⟩
      refine k _ (fun b o nb hb => ?_) ⟨dx, y, upd_same, ?_⟩
      · rw [upd_ne nb]
        refine e4 b o ?_
        rw [upd_ne nb]
        exact e3 b o hb
      · rw [w_upd_in (List.mem_cons_self ..)]
        exact hy
    refine ⟨_, rfl, a, xs, rfl, ?_⟩
    rcases hs' with x1 | x1
    · exact .inl ⟨Evl.ex_l e12 x1, for_it (walk_enum (xs := xs)) Pv ⟨e12, none, none, rfl⟩ (fun i σ' H3 _ pv => Evl.ex_l pv.1 x1) (fun i y σ' H3 H4 hi pv yp => turn i y σ' H3 H4 _ tNext hi pv yp) fin⟩
    · exact .inr ⟨Evl.ex_t e12 x1, for_it (walk_enumT (xs := xs)) Pv ⟨e12, none, none, rfl⟩ (fun i σ' H3 _ pv => Evl.ex_t pv.1 x1) (fun i y σ' H3 H4 hi pv yp => turn i y σ' H3 H4 _ tNext hi pv yp) fin⟩
theorem ok_Sexamples {f : Addr} {fd : FuncData} (F : Fun K "examples" "Sample.examples" s_Sample_examples f fd) (T : TxF mg) (S : SmpC K C) : FnOk P w K mg base CX0 1 f fd ["self"] (spExamples K C) := by
  refine F.ok sc_Sample_examples (fun vs H Q E h => ?_) (fun cdv A outer s H vs Q E hr h => ?_)
  · obtain ⟨_, _, _, _, rfl, _⟩ := h
    rfl
  · obtain ⟨x, p, ds, L, rfl, hL, hS, k⟩ := h
    refine ⟨_, (pss_one (ps_ret (pe_callTy call_list_of (by rfl) T.m_list (by decide +kernel) (pa_cons (pe_fld (pv 0) rfl) pa_nil)))), ?_⟩
    obtain ⟨dx, v, h1, h2⟩ := hS
    exact eg_list (ev_fld (v := v) (Evl.ev_var (v := .ref x) rfl) h1 S.cl S.nQ rfl) (.inr h2) hL _ (Ex.refl _) _ k
end
end U

set_option Elab.async false
set_option linter.all false
set_option maxRecDepth 100000
set_option maxHeartbeats 4000000
/-! samples made and their rows drawn -/
namespace U
open PySem PySem.Spec PyProof.Rows L2
open Evl (Ex)
open C8 (Met Mak pe_mt pe_mt0 pe_mk)
abbrev s_point : Stmt := top 31
abbrev sc_point_N : List Str := ["_law_draws", "_law_places", "_law_wide", "_law_k"]
theorem sc_point : FnScope sc_point_N ["_law_draws", "_law_places", "_law_wide"] (defScope s_point) := ⟨rfl, rfl, rfl, by decide +kernel, rfl, by decide +kernel, by decide +kernel⟩
abbrev s_rows : Stmt := top 32
abbrev sc_rows_N : List Str := ["_law_draws", "_law_places", "_law_most", "_law_wide", "_law_rows_here", "_law_k", "_law_point_here"]
theorem sc_rows : FnScope sc_rows_N ["_law_draws", "_law_places", "_law_most", "_law_wide"] (defScope s_rows) := ⟨rfl, rfl, rfl, by decide +kernel, rfl, by decide +kernel, by decide +kernel⟩
section
def EvS (K : PySem.W.Frag) (L : List Addr) (C : Addr) (p : Int) (ds : List PyData) (te : TE) (σ : L2.St) (H : Hp) : Prop := ∀ H1, Ex H H1 → ∀ Q : VK, (∀ y H2, Ex H1 H2 → Smp K L H2 y C p ds → Q (.ref y) H2) → te σ H1 Q
end
section
variable {P : Program} {w : World} {K : PySem.W.Frag} {mg : Str → Option Value} {base : Heap} {C : Addr} {L : List Addr} {σ : L2.St} {H H1 H' : Hp} {p : Int} {ds es : List PyData} {tp tl te : TE} {x y : Addr}
theorem mk_run (hp : Evl.Ev tp σ H (.int p)) (hd : EvD K L tl σ H (.list ds) ∨ EvD K L tl σ H (.tuple ds)) (hL : Hid L H) (p1 : 1 ≤ p) (p3 : p ≤ 3) (hR : RwsL p ds) : EvS K L C p (ds.map normR) (tMake C (spInit K C) [] E0 (tCons tp (tCons tl tNil))) σ H := fun H1 e Q q => by
  refine hp H1 e _ fun H2 e2 => ?_
  have main : ∀ v H3, Ex H2 H3 → (Dp K (W L H3) v (.list ds) ∨ Dp K (W L H3) v (.tuple ds)) → ∀ x dx, H3 x = none → H3 dx = none → dx ≠ x → spInit K C [.ref x, .int p, v] (upd (upd H3 dx (.own x)) x (.ins C dx [])) (fun v H2 => v = .non ∧ Q (.ref x) H2) E0 := by
    intro v H3 e3 hv x dx hx hdx ne
    have ex2 : (upd H3 dx (.own x)) x = none := by rw [upd_ne (Ne.symm ne)]; exact hx
    have eN : Ex H3 (upd (upd H3 dx (.own x)) x (.ins C dx [])) := (Ex.new hdx).trans (Ex.new ex2)
    have hL3 : Hid L (upd (upd H3 dx (.own x)) x (.ins C dx [])) := hid_upd (hid_upd (hid_ex ((e.trans e2).trans e3) hL))
    refine ⟨x, dx, v, p, ds, L, rfl, upd_same, p1, p3, fun b hb => ?_, hv.imp (fun z => z.up (w_past hx eN)) (fun z => z.up (w_past hx eN)), hR, fun H' hk hS => ⟨rfl, q x H' ?_ (hS.low fun b hb => List.mem_cons_of_mem _ hb)⟩⟩
    · rcases List.mem_cons.mp hb with z | z
      · rw [z, upd_same]
        simp
      · exact hL3 b z
    · intro b o hb
      have hb3 := e3 b o (e2 b o hb)
      exact hk b o (ne_of_none hb3 hx) (eN b o hb3)
  rcases hd with hd | hd
  · exact hd H2 (e.trans e2) _ fun v H3 e3 hv => main v H3 e3 (.inl hv)
  · exact hd H2 (e.trans e2) _ fun v H3 e3 hv => main v H3 e3 (.inr hv)
end
section
variable {P : Program} {w : World} {K : PySem.W.Frag} {mg : Str → Option Value} {base : Heap} {C : Addr} {L : List Addr} {σ : L2.St} {H H1 H' : Hp} {p : Int} {ds es : List PyData} {tp tl te : TE} {x y : Addr}
theorem s_retS {D : Ends} (h : EvS K L C p ds te σ H) (k : ∀ y H1, Ex H H1 → Smp K L H1 y C p ds → D.rt (.ref y) H1) : tRet te D σ H := h H (Ex.refl H) _ k
end
section
variable {P : Program} {w : World} {K : PySem.W.Frag} {mg : Str → Option Value} {base : Heap} {C : Addr} {L : List Addr} {σ : L2.St} {H H1 H' : Hp} {p : Int} {ds es : List PyData} {tp tl te : TE} {x y : Addr}
theorem Smp.inv (h : Smp K L H x C p ds) : ∃ dx t xs, H x = some (.ins C dx [("places", .int p), ("_pairs", .ref t)]) ∧ SqT K H t xs ∧ DpAll K (W L H) xs ds ∧ Dp K (W L H) (.ref t) (.tuple ds) := by
  obtain ⟨dx, v, h1, h2⟩ := h
  have h2' := h2
  cases h2 with
  | @tup t xs _ hs ha => exact ⟨dx, t, xs, h1, Evl.ex_t w_sub hs, ha, h2'⟩
end
section
theorem lay_all : ∀ {ds : List PyData}, (∀ d ∈ ds, d.canLay0 = true ∧ d.depth ≤ 2) → PyData.canLayAll0 ds = true ∧ PyData.depthAll ds ≤ 2
  | [], _ => ⟨rfl, Nat.zero_le _⟩
  | d :: ds, h => by
    obtain ⟨h1, h2⟩ := h d (List.mem_cons_self ..)
    obtain ⟨h3, h4⟩ := lay_all (ds := ds) fun e he => h e (List.mem_cons_of_mem _ he)
    exact ⟨by show (d.canLay0 && PyData.canLayAll0 ds) = true; rw [h1, h3]; rfl, by show max d.depth (PyData.depthAll ds) ≤ 2; omega⟩
end
section
theorem lay_ints : ∀ ns : List Int, PyData.canLayAll0 (ns.map .int) = true ∧ PyData.depthAll (ns.map .int) = 0
  | [] => ⟨rfl, rfl⟩
  | n :: ns => by
    obtain ⟨h1, h2⟩ := lay_ints ns
    exact ⟨by show (true && PyData.canLayAll0 (ns.map .int)) = true; rw [h1]; rfl, by show max 0 (PyData.depthAll (ns.map .int)) = 0; rw [h2]; rfl⟩
end
section
theorem Rws.shaped {p : Int} {ds : List PyData} (h : Rws p ds) : SeqAt.shaped (.tuple ds) = true ∧ SeqAt.shaped (.list ds) = true := by
  have q : ∀ d ∈ ds, d.canLay0 = true ∧ d.depth ≤ 2 := fun d hd => by
    obtain ⟨ns, b, rfl, _⟩ := h.2 d hd
    obtain ⟨h1, h2⟩ := lay_ints ns
    refine ⟨?_, ?_⟩
    · show (PyData.canLayAll0 (ns.map .int) && true) = true
      rw [h1]
      rfl
    · show max (PyData.depthAll (ns.map .int) + 1) 0 + 1 ≤ 2
      rw [h2]
      decide
  obtain ⟨h1, h2⟩ := lay_all q
  have e1 : PyData.canLay0 (.tuple ds) = true := h1
  have e2 : PyData.depth (.tuple ds) ≤ 64 := by show PyData.depthAll ds + 1 ≤ 64; omega
  have e3 : PyData.canLay0 (.list ds) = true := h1
  have e4 : PyData.depth (.list ds) ≤ 64 := by show PyData.depthAll ds + 1 ≤ 64; omega
  exact ⟨Bool.and_eq_true_iff.mpr ⟨e1, decide_eq_true e2⟩, Bool.and_eq_true_iff.mpr ⟨e3, decide_eq_true e4⟩⟩
end
section
variable {P : Program} {w : World} {K : PySem.W.Frag} {mg : Str → Option Value} {base : Heap} {C U : Addr}
theorem ev_isS {σ : L2.St} {H : Hp} {te : TE} {y dx : Addr} {fs : List (Str × V)} (S : SmpC K C) (h : Evl.Ev te σ H (.ref y)) (hy : H y = some (.ins C dx fs)) : Evl.Ev (tCB (rIsi K) (tCons te (tCons (tC (.ref C)) tNil))) σ H (.bl true) := fun H1 e1 Q q =>
  h H1 e1 _ fun H2 e2 => ⟨.ref y, .ref C, .ref C, .ref C, true, rfl, .own C, .base (.ins ((e1.trans e2) y _ hy) S.cl S.ha S.hn S.htk S.hm), S.kS, q H2 e2⟩
end
section
def spPoint (K : PySem.W.Frag) : Sp := fun vs H Q _ => ∃ (l : Addr) (p w : Int) (n : Nat) (L : List Addr), vs = [.ref l, .int p, .int w] ∧ Dr n H l ∧ n < 900000 ∧ l ∈ L ∧ Hid L H ∧ 1 ≤ p ∧ p ≤ 3 ∧ 0 ≤ w ∧ w ≤ 1000 ∧
  ∀ v ns H', ExB l H H' → Dr (n + 3) H' l → ((ns : List Int).length : Int) = p → (∀ e ∈ ns, -w ≤ e ∧ e ≤ w) → Dp K (W L H') v (.tuple (ns.map .int)) → Q v H'
end
section
def spRows (K : PySem.W.Frag) : Sp := fun vs H Q _ => ∃ (l : Addr) (p m w : Int) (n : Nat) (L : List Addr), vs = [.ref l, .int p, .int m, .int w] ∧ Dr n H l ∧ n < 800000 ∧ l ∈ L ∧ Hid L H ∧ 1 ≤ p ∧ p ≤ 3 ∧ 0 ≤ m ∧ m ≤ 100 ∧ 0 ≤ w ∧ w ≤ 99 ∧
  ∀ t ds H', ExB l H H' → Dr (n + 701) H' l → Gr K L H' t ds → (ds.length : Int) ≤ m → (∀ d ∈ ds, Rw p d) → Q (.ref t) H'
end
section
theorem dpa_ints {K : PySem.W.Frag} {H : Hp} : ∀ ns : List Int, DpAll K H (ns.map V.int) (ns.map PyData.int)
  | [] => .nil
  | n :: ns => .cons (.int n) (dpa_ints ns)
end
section
variable {P : Program} {w : World} {K : PySem.W.Frag} {mg : Str → Option Value} {base : Heap}
theorem draw_run {σ : L2.St} {H : Hp} {tm : TE} {l : Addr} {n : Nat} {many : Int} {Q : VK} (h0 : σ[0]? = some (some (.ref l))) (hd : Dr n H l) (hn : n < 1000000) (hm : Evl.Ev tm σ H (.int many)) (m0 : 0 < many) (m1 : many < 1073741824)
    (k : ∀ r H', 0 ≤ r → r < many → Dr (n + 1) H' l → ExB l H H' → Q (.int r) H') : tCallD spDraw (tCons (tVar 0) (tCons tm tNil)) σ H Q :=
  ⟨_, h0, hm H (Ex.refl H) _ fun H1 e1 => ⟨l, many, n, rfl, hd.ex e1, hn, m0, m1, fun r o r0 r1 hd' => k r _ r0 r1 hd' ((ExB.of e1).trans ExB.upd)⟩⟩
end
section
variable {P : Program} {w : World} {K : PySem.W.Frag} {mg : Str → Option Value} {base : Heap}
theorem ok_point {f : Addr} {fd : FuncData} (F : Fun K "_law_point" "_law_point" s_point f fd) (T : TxF mg) (D_draw : DefAt P w K mg base "_law_draw" 1 ["_law_draws", "_law_many"] spDraw) : FnOk P w K mg base CX0 2 f fd ["_law_draws", "_law_places", "_law_wide"] (spPoint K) := by
  refine F.ok sc_point (fun vs H Q E h => ?_) (fun cdv A outer s H vs Q E hr h => ?_)
  · obtain ⟨_, _, _, _, _, rfl, _⟩ := h
    rfl
  · obtain ⟨l, p, w, n, L, rfl, hd, hn, hl, hL, p1, p3, w0, w1, k⟩ := h
    refine ⟨_, (pss_one (ps_ret (pe_callTy call_tuple_of (by rfl) T.m_tuple (by decide +kernel) (pa_cons (pe_lc (own := [("_law_k", 3)]) (g := gName 3) (tt := tYes) (by rfl) sc_point.nd (pi_range1 (by rfl) T.m_range (pa_cons (pv 1) pa_nil)) (blkOk_by (N := sc_point_N) (sc := defScope s_point) (by decide +kernel)) (fun _ _ _ _ _ => (pg_name (i := 3) sc_point.nd rfl (by first | exact Or.inl rfl | exact Or.inr rfl))) (fun _ _ _ _ _ => pts_nil) (fun _ _ _ _ _ => (pe_op op_sub (pe_callD D_draw (by first | exact hr | exact hr.mono (by decide) | exact hr.mono (by omega)) (by rfl) (pa_cons (pv 0) (pa_cons (pe_op op_add (pe_op op_mul pe_int (pv 2)) pe_int) pa_nil))) (pv 2)))) pa_nil)))), ?_⟩
    refine ⟨_, rfl, p, rfl, by omega, by omega, fun Dl hD => ?_⟩
    have hDl : Dl ≠ l := fun e => hd.ne (by rw [← e]; exact hD)
    let Pv : Nat → Hp → Prop := fun i H' => ExB l H H' ∧ Dr (n + i) H' l ∧ ∃ ns : List Int, ns.length = i ∧ (∀ e ∈ ns, -w ≤ e ∧ e ≤ w) ∧ H' Dl = some (.lst (ns.map V.int))
    refine lc_range (lo := 0) (n := p.toNat) Pv ⟨ExB.of (Ex.new hD), hd.ex (Ex.new hD), [], rfl, (fun _ z => nomatch z), upd_same⟩ (fun i H2 hi pv => ?_) (fun H2 pv => ?_)
    · obtain ⟨e2, hd2, ns, hns, hb, hl2⟩ := pv
      refine ⟨rfl, ?_⟩
      refine yes_lc (B := fun H3 => Pv (i + 1) H3) ?_
      refine draw_run (n := n + i) (many := 2 * w + 1) (by rfl) hd2 (by omega) (Evl.ev_op (Evl.ev_op Evl.ev_c (Evl.ev_var rfl) (Evl.rv_I (C := CMul) (g := fun i j => .int (i * j)) (i := 2) (j := w) (.inl ⟨by decide, by decide⟩))) Evl.ev_c (Evl.rv_I0 (g := fun i j => .int (i + j)))) (by omega) (by omega) fun r H3 r0 r1 hd3 e3 => ?_
      have h3 : H3 Dl = some (.lst (ns.map V.int)) := e3 Dl _ hDl hl2
      refine ⟨_, rfl, _, _, rfl, rfl, ns.map V.int, h3, Evl.sz_lt (by rw [List.length_map]; omega), ?_, ?_, ns ++ [r - w], ?_, (fun e he => (List.mem_append.mp he).elim (hb e) fun q => by
        rw [List.mem_singleton.mp q]
        omega), ?_⟩
      · intro b o hb hbo
        have nb : b ≠ Dl := ne_of_none hbo hD
        rw [upd_ne nb]
        exact e3 b o hb (e2 b o hb hbo)
      · obtain ⟨x, y, z, q1, q2⟩ := hd3
        exact ⟨x, y, z, by rw [upd_ne (Ne.symm hDl)]; exact q1, q2⟩
      · rw [List.length_append, hns]
        rfl
      · rw [upd_same, List.map_append]
        rfl
    · obtain ⟨e2, hd2, ns, hns, hb, hl2⟩ := pv
      have hDL : Dl ∉ L := hid_not hL hD
      refine ⟨Dl, ns.map V.int, rfl, .inl ⟨SqL.of hl2, fun r hr => ?_⟩⟩
      have hLr : r ∉ L := fun m => (e2.hid hd2.ne hL) r m hr
      refine k _ ns _ (e2.trans (ExB.of (Ex.new hr))) ((hd2.ex (Ex.new hr)).up (by omega)) (by omega) hb (.tup (SqT.of (w_of hLr upd_same)) (dpa_ints ns))
end
section
variable {P : Program} {w : World} {K : PySem.W.Frag} {mg : Str → Option Value} {base : Heap}
theorem Dr.upd_ne {n : Nat} {H : Hp} {l t : Addr} {o : HO} (h : Dr n H l) (ne : t ≠ l) : Dr n (upd H t o) l := by
  obtain ⟨x, y, z, q1, q2⟩ := h
  exact ⟨x, y, z, by rw [L2.upd_ne (Ne.symm ne)]; exact q1, q2⟩
end
section
variable {P : Program} {w : World} {K : PySem.W.Frag} {mg : Str → Option Value} {base : Heap}
theorem Gr.exB {L : List Addr} {H H' : Hp} {l t : Addr} {ds : List PyData} (h : Gr K L H t ds) (e : ExB l H H') (m : l ∈ L) : Gr K L H' t ds := by
  obtain ⟨n, xs, h1, h2⟩ := h
  exact ⟨n, xs, e t _ (fun z => n (by rw [z]; exact m)) h1, h2.up (e.w (List.mem_cons_of_mem _ m))⟩
end
section
variable {P : Program} {w : World} {K : PySem.W.Frag} {mg : Str → Option Value} {base : Heap}
def spPickV (K : PySem.W.Frag) : Sp := fun vs H Q _ => ∃ (l t : Addr) (xs : List V) (n : Nat) (L : List Addr), vs = [.ref l, .ref t] ∧ Dr n H l ∧ n < 1000000 ∧ l ∈ L ∧ SqL K (W L H) t xs ∧ 0 < xs.length ∧ xs.length < 1073741824 ∧
  ∀ v o, v ∈ xs → Dr (n + 1) (upd H l o) l → Q v (upd H l o)
end
section
variable {P : Program} {w : World} {K : PySem.W.Frag} {mg : Str → Option Value} {base : Heap}
theorem ok_pickV {f : Addr} {fd : FuncData} (F : Fun K "_law_pick" "_law_pick" s_pick f fd) (T : TxB mg) (D_draw : DefAt P w K mg base "_law_draw" 1 ["_law_draws", "_law_many"] spDraw) : FnOk P w K mg base CX0 2 f fd ["_law_draws", "_law_things"] (spPickV K) := by
  refine F.ok sc_pick (fun vs H Q E h => ?_) (fun cdv A outer s H vs Q E hr h => ?_)
  · obtain ⟨_, _, _, _, _, rfl, _⟩ := h
    rfl
  · obtain ⟨l, t, xs, n, L, rfl, hd, hn, hL, hs, h0, h1, k⟩ := h
    refine ⟨_, (pss_one (ps_ret (pe_ix ix_list (pv 1) (pe_callD D_draw (by first | exact hr | exact hr.mono (by decide) | exact hr.mono (by omega)) (by rfl) (pa_cons (pv 0) (pa_cons (pe_callB call_len_seq (by rfl) T.m_len (by decide +kernel) (pa_cons (pv 1) pa_nil)) pa_nil))) (fun _ _ => rfl)))), ?_⟩
    refine ⟨_, rfl, _, rfl, _, rfl, t, xs, rfl, .inl (Evl.ex_l w_sub hs), ?_⟩
    refine ⟨l, _, n, rfl, hd, hn, by omega, by omega, fun r o r0 r1 hd' => ?_⟩
    have hr' : r.toNat < xs.length := by omega
    have er : ((r.toNat : Nat) : Int) = r := by omega
    refine ⟨t, xs, r, xs[r.toNat], rfl, rfl, Evl.ex_l (w_sub (L := L)) (by rw [w_upd_in hL]; exact hs), ?_, ?_⟩
    · have q := atI_nat (List.getElem?_eq_getElem hr')
      rw [er] at q
      exact q
    · exact k _ o (List.getElem_mem hr') hd'
end
section
variable {P : Program} {w : World} {K : PySem.W.Frag} {mg : Str → Option Value} {base : Heap}
theorem ok_rows {f : Addr} {fd : FuncData} (F : Fun K "_law_rows" "_law_rows" s_rows f fd) (T : TxF mg) (D_draw : DefAt P w K mg base "_law_draw" 1 ["_law_draws", "_law_many"] spDraw) (D_pick : DefAt P w K mg base "_law_pick" 2 ["_law_draws", "_law_things"] (spPickV K))
    (D_point : DefAt P w K mg base "_law_point" 2 ["_law_draws", "_law_places", "_law_wide"] (spPoint K)) : FnOk P w K mg base CX0 3 f fd ["_law_draws", "_law_places", "_law_most", "_law_wide"] (spRows K) := by
  refine F.ok sc_rows (fun vs H Q E h => ?_) (fun cdv A outer s H vs Q E hr h => ?_)
  · obtain ⟨_, _, _, _, _, _, rfl, _⟩ := h
    rfl
  · obtain ⟨l, p, m, wd, n, L, rfl, hd, hn, hl, hL, p1, p3, m0, m1, w0, w1, k⟩ := h
    refine ⟨_, (pss_cons (ps_set (i := 4) sc_rows.nd rfl (by first | exact Or.inl rfl | exact Or.inr rfl) (pe_lst pa_nil))
    (pss_cons (ps_for PassesOwn.never rfl (pi_range1 (by rfl) T.m_range (pa_cons (pe_callD D_draw (by first | exact hr | exact hr.mono (by decide) | exact hr.mono (by omega)) (by rfl) (pa_cons (pv 0) (pa_cons (pe_op op_add (pv 2) pe_int) pa_nil))) pa_nil)) (pg_name (i := 5) sc_rows.nd rfl (by first | exact Or.inl rfl | exact Or.inr rfl))
      (pss_cons (ps_set (i := 6) sc_rows.nd rfl (by first | exact Or.inl rfl | exact Or.inr rfl) (pe_callD D_point (by first | exact hr | exact hr.mono (by decide) | exact hr.mono (by omega)) (by rfl) (pa_cons (pv 0) (pa_cons (pv 1) (pa_cons (pv 3) pa_nil)))))
      (pss_cons (ps_if (PW.pt (pw_and (pt_cmpR (op_neD hr.units) (pv 4) (pe_lst pa_nil) (nomark _)) (pw_and1 (pt_cmpR op_eq (pe_callD D_draw (by first | exact hr | exact hr.mono (by decide) | exact hr.mono (by omega)) (by rfl) (pa_cons (pv 0) (pa_cons pe_int pa_nil))) pe_int (nomark _))))) (pss_one (ps_set (i := 6) sc_rows.nd rfl (by first | exact Or.inl rfl | exact Or.inr rfl) (pe_ix ix_tup (pe_callD D_pick (by first | exact hr | exact hr.mono (by decide) | exact hr.mono (by omega)) (by rfl) (pa_cons (pv 0) (pa_cons (pv 4) pa_nil))) pe_int (fun _ _ => rfl)))) pss_nil)
      (pss_one (ps_expr (pe_bm PySem.F.plainAttrs_list PySem.F.slot_list_append PySem.F.type_list_append mt_append (pv 4) (pa_cons (pe_tup (pa_cons (pv 6) (pa_cons (pe_cmpR op_eq (pe_callD D_draw (by first | exact hr | exact hr.mono (by decide) | exact hr.mono (by omega)) (by rfl) (pa_cons (pv 0) (pa_cons pe_int pa_nil))) pe_int (nomark _)) pa_nil))) pa_nil)))))))
    (pss_one (ps_ret (pv 4))))), ?_⟩
    refine Evl.q_asgL (xs := []) (Evl.el_lst Evl.ea_nil (by decide)) fun t H1 ht e1 ht1 => ?_
    have htl : t ≠ l := fun e => hd.ne (by rw [← e]; exact ht)
    have htL : t ∉ L := hid_not hL ht
    have lt : l ∈ t :: L := List.mem_cons_of_mem _ hl
    let Pv : Nat → L2.St → Hp → Prop := fun i σ' H' => ExB l H H' ∧ Dr (n + 1 + 7 * i) H' l ∧ (∃ ds : List PyData, ds.length = i ∧ Gr K L H' t ds ∧ ∀ d ∈ ds, Rw p d) ∧ ∃ s5 s6, σ' = [some (.ref l), some (.int p), some (.int m), some (.int wd), some (.ref t), s5, s6]
    refine draw_run (n := n) (many := m + 1) (by rfl) (hd.ex e1) (by omega) (Evl.ev_op (Evl.ev_var rfl) Evl.ev_c (Evl.rv_I0 (g := fun i j => .int (i + j)))) (by omega) (by omega) fun r H2 r0 r1 hd2 e2 => ⟨r, rfl, by omega, by omega, for_range (lo := 0) (n := r.toNat) Pv ?_ (fun i σ' H3 hi pv => ?_) (fun σ' H3 pv => ?_)⟩
    · refine ⟨(ExB.of e1).trans e2, hd2, ⟨[], rfl, ?_, fun _ z => nomatch z⟩, none, none, rfl⟩
      exact ⟨htL, [], e2 t _ htl ht1, .nil⟩
    · obtain ⟨e3, hd3, ⟨ds, hds, hg, hrw⟩, s5, s6, rfl⟩ := pv
      have hi100 : i < 101 := by omega
      -- the row is made and kept
      have app : ∀ (s5 : Option V) (v6 : V) (ns : List Int) (N : Nat) (H5 : Hp) (D : Ends), D.nx = Pv (i + 1) → ExB l H3 H5 → Dr N H5 l → N ≤ n + 1 + 7 * i + 6 → Gr K L H5 t ds → Dp K (W (t :: L) H5) v6 (.tuple (ns.map .int)) → (ns.length : Int) = p → Sm ns →
          tDrop (tBM K "list" rAppend (tVar 4) (tCons (tTup (tCons (tVar 6) (tCons (tOp rEq (tCallD spDraw (tCons (tVar 0) (tCons (tC (.int 2)) tNil))) (tC (.int 0))) tNil))) tNil)) D [some (.ref l), some (.int p), some (.int m), some (.int wd), some (.ref t), s5, some v6] H5 := by
        intro s5 v6 ns N H5 D hD e5 hd5 hN hg5 hv hns hsm
        obtain ⟨_, xs, hx, hxs⟩ := id hg5
        have hlen := dpa_len hxs
        refine ⟨_, rfl, Or.inl ⟨rfl, xs, SqL.of hx⟩, _, rfl, ?_⟩
        refine draw_run (n := N) (many := 2) (by rfl) hd5 (by omega) Evl.ev_c (by omega) (by omega) fun q H6 q0 q1 hd6 e6 => ?_
        refine ⟨rfl, by show 2 ≤ sizeLine; decide, fun a ha => ?_⟩
        have g6 : Gr K L H6 t ds := hg5.exB e6 hl
        obtain ⟨_, xs6, hx6, hxs6⟩ := id g6
        have hlen6 := dpa_len hxs6
        have eN : Ex H6 (upd H6 a (.tup [v6, .bl (decide (V.int q = V.int 0))])) := Ex.new ha
        have hid6 : Hid (t :: L) H6 := fun b hb => by
          rcases List.mem_cons.mp hb with z | z
          · rw [z]
            exact g6.ne
          · exact (((e3.trans e5).trans e6).hid hd6.ne hL) b z
        refine ⟨t, xs6, .ref a, rfl, rfl, eN t _ hx6, Evl.sz_lt (by omega), ?_⟩
        show D.nx _ _
        rw [hD]
        refine ⟨?_, ?_, ⟨ds ++ [rowD ns (decide (V.int q = V.int 0))], by rw [List.length_append, hds]; rfl, ?_, ?_⟩, s5, some v6, rfl⟩
        · intro b o hb hbo
          have nb : b ≠ t := ne_of_none hbo ht
          rw [L2.upd_ne nb]
          exact eN b o (((e3.trans e5).trans e6) b o hb hbo)
        · exact ((hd6.ex eN).upd_ne htl).up (by omega)
        · refine gr_app htL (eN t _ hx6) (hxs6.up (w_ex eN)) (.tup (SqT.of (w_new hid6 ha)) (.cons ?_ (.cons (.bl _) .nil)))
          exact (hv.up (e6.w lt)).up (w_ex eN)
        · intro d hd
          rcases List.mem_append.mp hd with z | z
          · exact hrw d z
          · have : d = rowD ns (decide (V.int q = V.int 0)) := by simpa using z
            exact ⟨ns, _, this, hns, by omega, hsm⟩
      have hidt : ∀ {H5 : Hp}, ExB l H3 H5 → Dr 1000000 H5 l → Gr K L H5 t ds → Hid (t :: L) H5 := fun e5 hd5 g5 b hb => by
        rcases List.mem_cons.mp hb with z | z
        · rw [z]
          exact g5.ne
        · exact ((e3.trans e5).hid hd5.ne hL) b z
      refine ⟨_, rfl, _, rfl, _, rfl, l, p, wd, n + 1 + 7 * i, t :: L, rfl, hd3, by omega, lt, hidt (ExB.refl _ _) (hd3.up (by omega)) hg, p1, p3, w0, by omega, fun v ns H4 e4 hd4 hns hbd hv => ?_⟩
      have hsm : Sm ns := fun e he => by
        have := hbd e he
        omega
      have g4 : Gr K L H4 t ds := hg.exB e4 hl
      refine ⟨_, rfl, by show 0 ≤ sizeLine; exact Nat.zero_le _, fun q hq => ?_⟩
      have eq : Ex H4 (upd H4 q (.lst [])) := Ex.new hq
      have hRws : Rws p ds := ⟨by omega, hrw⟩
      refine ⟨.list ds, .list [], (g4.dp.up w_sub).up eq, .lst (SqL.of upd_same) .nil, hRws.shaped.2, by decide, _, rfl, ?_⟩
      have hdq : Dr (n + 1 + 7 * i + 3) (upd H4 q (.lst [])) l := hd4.ex eq
      refine ite2 (fun hb => ?_) (fun hb => ite2 (fun z => by cases z) fun _ => ?_)
      · have hne : 0 < ds.length := by
          rcases Nat.eq_zero_or_pos ds.length with z | z
          · have : ds = [] := List.eq_nil_of_length_eq_zero z
            subst this
            rw [PySem.SeqAt.eqv_refl _ (SeqAt.canLay_of_shaped hRws.shaped.2)] at hb
            cases hb
          · exact z
        refine draw_run (n := n + 1 + 7 * i + 3) (many := 6) (by rfl) hdq (by omega) Evl.ev_c (by omega) (by omega) fun c H5 c0 c1 hd5 e5 => ⟨rfl, _, rfl, ?_⟩
        have e45 : ExB l H3 H5 := (e4.trans (ExB.of eq)).trans e5
        have g5 : Gr K L H5 t ds := (g4.up eq).exB e5 hl
        refine ite2 (fun hc => ?_) (fun hc => ?_)
        · obtain ⟨_, ys, hy, hys⟩ := id g5
          have ylen := dpa_len hys
          refine ⟨_, rfl, _, rfl, l, t, ys, n + 1 + 7 * i + 3 + 1, L, rfl, hd5, by omega, hl, SqL.of (w_of htL hy), by omega, by omega, fun u o hum hd6 => ?_⟩
          obtain ⟨j, hj, rfl⟩ := List.getElem_of_mem hum
          obtain ⟨d, hd1, hd2⟩ := dpa_get hys (List.getElem?_eq_getElem hj)
          obtain ⟨ns2, b2, rfl, hns2, _, hsm2⟩ := hrw d (List.mem_of_getElem? hd1)
          have e6 : ExB l H5 (upd H5 l o) := ExB.upd
          have hd3 := hd2.up (e6.w lt)
          generalize ys[j] = u at hd3 ⊢
          cases hd3 with
          | @tup a6 zs _ hs6 ha6 =>
            cases ha6 with
            | @cons v6 _ _ _ r6 rr6 =>
              cases rr6 with
              | @cons v7 _ _ _ r7 rr7 =>
                cases rr7
                refine ⟨a6, [v6, v7], 0, v6, rfl, rfl, Evl.ex_t w_sub hs6, rfl, ?_⟩
                exact app _ v6 ns2 (n + 1 + 7 * i + 3 + 1 + 1) _ _ rfl (e45.trans e6) hd6 (by omega) (g5.exB e6 hl) r6 hns2 hsm2
        · exact app _ v ns (n + 1 + 7 * i + 3 + 1) H5 _ rfl e45 hd5 (by omega) g5 ((hv.up (w_ex eq)).up (e5.w lt)) hns hsm
      · exact app _ v ns (n + 1 + 7 * i + 3) (upd H4 q (.lst [])) _ rfl (e4.trans (ExB.of eq)) hdq (by omega) (g4.up eq) (hv.up (w_ex eq)) hns hsm
    · obtain ⟨e3, hd3, ⟨ds, hds, hg, hrw⟩, s5, s6, rfl⟩ := pv
      exact Evl.s_ret (Evl.ev_var rfl) fun H4 e4 => k t ds H4 (e3.trans (ExB.of e4)) ((hd3.ex e4).up (by omega)) (hg.up e4) (by omega) hrw
end
end U

set_option Elab.async false
set_option linter.all false
set_option maxRecDepth 100000
set_option maxHeartbeats 2000000
/-! *rows, rest = a list -/
namespace UXS
open PySem PySem.W PySem.Calls PyProof.Rows
section
variable {prog : Program} {w : World} {A : Around} {E : Value → Shared → Prop} {s : Shared} {env : Env}
theorem star_items {l : Addr} {items : Array Value} {mids : List Value} {last : Value} {Q : List Value → Shared → Prop} (hl : s.heap.IsList l items) (hh : A.handled = none) (hi : items.toList = mids ++ [last]) (hz : items.size ≤ 16384)
    (h : ∀ (h' : Heap) (tk : Nat), (∀ b o, s.heap.get? b = some o → h'.get? b = some o) → Q [.ref h'.objs.size, last] { s with heap := h'.push { cls := .type "list", data := .seq mids.toArray }, toks := tk }) : wpAny (model prog w) A (unpackItems (.ref l) 2 (some 0)) Q E s := by
  have hlt : l ≠ s.heap.objs.size := by obtain ⟨o, ho, _⟩ := hl; exact Nat.ne_of_lt (Heap.lt_size ho)
  have hsz : items.size = mids.length + 1 := by
    have := congrArg List.length hi
    simpa using this
  unfold unpackItems
  refine wpAny_bind ?_
  unfold notIterableAtAll
  refine wpAny_bind (wpAny_specialOf hl.typeIs slot_list_iter.lookup ?_)
  refine wpAny_pure ?_
  simp only [Bool.false_eq_true, if_false]
  refine wpAny_bind (wpAny_holding (wpAny_pyIter_list hl ?_))
  refine wpAny_bind (wpAny_holding (kun_draw hlt 0 0 _ _ ⟨_, Heap.get?_push_size _ rfl, rfl, rfl⟩ (hl.push _) (by omega) fun h₁ hit₁ hs₁ => ?_))
  have hl₁ : h₁.IsList l items := (hl.push _).extBut hs₁.extBut hlt
  have hit₁' := hit₁
  obtain ⟨oi, hoi, _⟩ := hit₁'
  have hl₁' := hl₁
  obtain ⟨ol, hol, _⟩ := hl₁'
  rw [List.drop_zero, List.take_zero]
  rw [if_neg (show ¬ (([] : List Value).length < 0) by simp)]
  refine wpAny_bind (wpAny_holding (kun_collect (s := { s with heap := h₁ }) (T := "list_iterator") (.inr (.inr (.inl rfl))) (Walks.list (A := A.in1) hh s.heap.objs.size l hlt items) (fun j u st => st.1.typeIs) (k := 0) (by omega) ⟨hit₁, hl₁⟩ (Heap.lt_size hoi) (Heap.lt_size hol) (fun h₂ tk hk => ?_) (by rw [sizeLine_eq]; omega)))
  rw [List.drop_zero, hi]
  show wpAny _ _ (if (mids ++ [last]).length < 2 - 1 - 0 then _ else _) _ _ _
  rw [if_neg (by simp)]
  show wpAny _ _ (newList ((mids ++ [last]).take ((mids ++ [last]).length - 1)) >>= fun d => pure ([] ++ [d] ++ (mids ++ [last]).drop ((mids ++ [last]).length - 1))) _ _ _
  have e1 : (mids ++ [last]).length - 1 = mids.length := by simp
  rw [e1, List.take_left, List.drop_left]
  have he : ∀ b o, b ≠ s.heap.objs.size → s.heap.get? b = some o → h₂.get? b = some o := fun b o hb e => hk b o hb (hs₁.extBut b o hb (Heap.get?_push_of_some _ e))
  refine wpAny_bind (wpAny_newList (wpAny_pure (h _ tk fun b o e => he b o (Nat.ne_of_lt (Heap.lt_size e)) e)) (by rw [sizeLine_eq]; omega))
end
end UXS
namespace U
open PySem PySem.Spec PyProof.Rows L2
theorem vals_snoc : ∀ {xs : List V} {x : V} {its : List Value}, Vals (xs ++ [x]) its → ∃ us l1, its = us ++ [l1] ∧ Vals xs us ∧ RelV x l1
  | [], _, _, r => by
    obtain ⟨u, rfl, r1⟩ := Vals.one r
    exact ⟨[], u, rfl, .nil, r1⟩
  | y :: xs, x, _, r => by
    cases r with
    | cons r1 r2 =>
      obtain ⟨us, l1, rfl, q1, q2⟩ := vals_snoc r2
      exact ⟨_ :: us, l1, rfl, .cons r1 q1, q2⟩
def gStarL (K : PySem.W.Frag) (t : TGs) : TG := fun v σ H Q => ∃ (a : Addr) (xs : List V) (x : V), v = .ref a ∧ SqL K H a (xs ++ [x]) ∧ xs.length ≤ 16000 ∧ ∀ D, H D = none → t [.ref D, x] σ (upd H D (.lst xs)) Q
theorem pg_star {X : Cx} {e1 e2 : Expr} {p pos : Pos} {k : Nat} {t : TGs} (hc : X.calm = true) (h : PGs X [e1, e2] t) (hl : (assignEach [.Starred e1 p, e2] X.env).length = 2 := by rfl) (hs : (assignEach [.Starred e1 p, e2] X.env).findIdx? (·.1) = some 0 := by rfl)
    (hm : (assignEach [.Starred e1 p, e2] X.env).map (·.2) = (assignEach [e1, e2] X.env).map (·.2) := by rfl) : PG X (.Tuple [.Starred e1 p, e2] k pos) (gStarL X.K t) := by
  refine ⟨fun pins s σ H v u Q I r hw => ?_⟩
  obtain ⟨a, xs, x, e, hq, hz, hw⟩ := hw
  subst e
  cases r
  obtain ⟨its, rv, pl, hz2⟩ := I.list hq
  obtain ⟨us, l1, rfl, r1, r2⟩ : ∃ us l1, its = us ++ [l1] ∧ Vals xs us ∧ RelV x l1 := vals_snoc rv
  rw [assign_Tuple]
  refine wpAny_bind (wpAny_standAt ?_)
  unfold unpack
  rw [hl, hs, hm]
  refine wpAny_bind (wpAny_holding (UXS.star_items pl.isList (I.ok.hd hc) (mids := us) (last := l1) (by simp) (by have := r1.length; simp; omega) fun h' tk kp => ?_))
  have I1 : Inv X pins σ H { s with heap := h', toks := tk } := I.kept kp
  have hf : H h'.objs.size = none := I1.hok.fresh (Nat.le_refl _)
  have I2 : Inv X pins σ (upd H h'.objs.size (.lst xs)) { s with heap := h'.push { cls := .type "list", data := .seq us.toArray }, toks := tk } := I1.laid (t' := tk) (fun b u e => Heap.get?_push_of_some _ e) (Nat.le_refl _) ⟨by rw [sizeLine_eq]; omega, us, 0, r1, Heap.get?_push_size _ rfl⟩
  exact h.run pins _ σ _ [.ref h'.objs.size, x] [.ref h'.objs.size, l1] Q I2 (.cons rfl (.cons r2 .nil)) (hw _ hf)
end U

set_option Elab.async false
set_option linter.all false
set_option maxRecDepth 100000
set_option maxHeartbeats 2000000
/-! enumerate(a list, start=k) -/
namespace UXK
open PySem PyProof.Rows
section
variable {M : Model} {A : Around} {E : Value → Shared → Prop} {s : Shared} {env : Env}
theorem callWith_typeKwB {pos : Pos} {T : String} {first : List Value} {args : List (Bool × Sem Value)} {keywords : List (Option Str × Sem Value)} {Q : Value → Shared → Prop}
    (hplain : args.any (·.1) = false) (hkw : keywords.any (·.1.isNone) = false)
    (h : wpAny M A (evalArgs (.type T) true args keywords) (fun a s₁ => wpAny M A (call (.type T) (first ++ a.pos) a.kw) Q E s₁) E s) :
    wpAny M A (callWith pos (.type T) first args keywords) Q E s := by
  unfold callWith
  refine wpAny_bind (wpAny_holding (wpAny_mono h (fun a s₁ h₁ => wpAny_bind (wpAny_standAt ?_)) fun _ _ x => x))
  simp only [hplain, hkw, Bool.or_false]
  refine wpAny_bind (wpAny_pure ?_)
  exact wpAny_bind (wpAny_mono h₁ (fun r s₂ hr => wpAny_bind (wpAny_holding (wpAny_point (wpAny_pure hr)))) fun _ _ x => x)
theorem callWith_typeKw {pos : Pos} {T : String} {e : Expr} {rest : List Expr} {kws : List Keyword} {Q : Value → Shared → Prop}
    (h : wpAny M A (spliced (backTo pos (starEach (e :: rest) env))) (fun vs s₁ => wpAny M A (evalAll ((backToKw pos (keywordEach kws env)).map (·.2)))
      (fun kvs s₂ => wpAny M A (call (.type T) vs (((backToKw pos (keywordEach kws env)).filterMap (·.1)).zip kvs)) Q E s₂) E s₁) E s)
    (he : backTo pos (starEach (e :: rest) env) = (false, eval e env) :: backTo pos (starEach rest env) := by rfl)
    (hplain : (backTo pos (starEach (e :: rest) env)).any (·.1) = false := by rfl)
    (hall : (backToKw pos (keywordEach kws env)).all (·.1.isSome) = true := by rfl)
    (hkw : (backToKw pos (keywordEach kws env)).any (·.1.isNone) = false := by rfl) :
    wpAny M A (callWith pos (.type T) [] (backTo pos (starEach (e :: rest) env)) (backToKw pos (keywordEach kws env))) Q E s := by
  refine callWith_typeKwB hplain hkw ?_
  rw [he] at h ⊢
  exact evalArgs_kwB hall h
end
end UXK
namespace U
open PySem PySem.Spec PyProof.Rows L2
/-- the list at a as it stands at each turn, each item in a new pair, counted from k -/
def IteK (K : PySem.W.Frag) (a : Addr) (k : Int) : It :=
  ⟨fun i H => ∃ (xs : List V) (x : V), SqL K H a xs ∧ xs[i]? = some x, fun i H v H' => ∃ T x, v = .ref T ∧ H T = none ∧ H' = upd H T (.tup [.int (k + (i : Nat)), x]) ∧ ∀ xs, SqL K H a xs → xs[i]? = some x, fun i H => ∃ xs : List V, SqL K H a xs ∧ xs.length = i⟩
theorem turn_enumK {P : Program} {w : World} {K : PySem.W.Frag} {elts : List Expr} {kk : Nat} {tpos : Pos} (a e it : Addr) (k : Int) :
    Turn P w K (.Tuple elts kk tpos) (IteK K a k) [e, it] e (fun i h => (∃ old, IsEnum h e it (k + ((i : Nat) : Int)) old) ∧ h.IsListIter it a i ∧ e ≠ it) where
  mem := by simp
  obj := fun i h st b hb => by
    obtain ⟨⟨old, he⟩, ⟨o, ho, hc, hd⟩, _⟩ := st
    have e' : b = e ∨ b = it := by simpa using hb
    rcases e' with z | z
    · rw [z]; exact ⟨_, he, fun v q => nomatch q⟩
    · rw [z]; exact ⟨o, ho, fun v q => by rw [hd] at q; cases q⟩
  keep := fun i h h' st k => let ⟨⟨old, he⟩, hi, hne⟩ := st; ⟨⟨old, k e (by simp) _ he⟩, hi.at fun o q => k it (by simp) o q, hne⟩
  item := by
    intro X hP hw hK hc i pins s σ H E I hf st hg
    subst hP hw hK
    obtain ⟨⟨old, he⟩, hit, hne⟩ := st
    obtain ⟨xs, x, hq, hx⟩ := hg
    obtain ⟨its, rv, p, hz⟩ := I.list hq
    obtain ⟨u, hu, ru⟩ := rv.get hx
    have hel : e < s.heap.objs.size := Heap.lt_size he
    have hil : it < s.heap.objs.size := by obtain ⟨_, q, _⟩ := hit; exact Heap.lt_size q
    have hal : a ≠ it := fun z => by
      obtain ⟨o1, q1, c1, _⟩ := p.isList
      obtain ⟨o2, q2, c2, _⟩ := hit
      rw [z, q2] at q1
      cases q1
      rw [c2] at c1
      simp at c1
    have hae : e ≠ a := fun z => by
      obtain ⟨o1, q1, c1, _⟩ := p.isList
      have he' : s.heap.get? e = some _ := he
      rw [z, q1] at he'
      cases he'
      simp at c1
    have hlen : i < its.toArray.size := by have := (List.getElem?_eq_some_iff.mp hu).1; simpa using this
    refine wpAny_pyNext_enum_itemC (Draws.list (prog := X.prog) (w := X.w) (A := X.A.in1) (I.ok.hd hc) it a hal its.toArray) he ⟨hit, p.isList⟩ hlen hne (by simp [hne, hae]) fun u' h' tk hu' ho hit' hT hsz hk => ?_
    obtain rfl : u' = u := by
      have h1 : its.toArray[i]? = some u := by simpa using hu
      exact Option.some.inj (hu'.symm.trans h1)
    refine ⟨_, rfl, wpAny_letOwnedTupleGo_enum (s := { s with heap := h', toks := tk + 1 }) ho fun h'' he' sb => ?_⟩
    have hT2 : h''.get? s.heap.objs.size = some { cls := .type "tuple", data := .seq #[.int (k + (i : Nat)) tk, u'] } := (sb.2 _ (Nat.ne_of_gt hel)).trans hT
    have new : ObjOk X.prog X.w (upd H s.heap.objs.size (.tup [.int (k + (i : Nat)), x])) h'' s.heap.objs.size (.tup [.int (k + (i : Nat)), x]) :=
      ⟨by show 2 ≤ sizeLine; decide, [.int (k + (i : Nat)) tk, u'], .cons ⟨_, rfl⟩ (.cons ru .nil), ⟨_, hT2, rfl, _, rfl⟩⟩
    have I1 : Inv X pins σ (upd H s.heap.objs.size (.tup [.int (k + (i : Nat)), x])) { s with heap := h'', toks := tk + 1 } :=
      I.turnedNew (ch := [e, it]) (fun b ob hb q => (sb.2 b (fun z => hb (by simp [z]))).trans (hk b ob (fun z => hb (by simp [z])) (fun z => hb (by simp [z])) q)) hf (Nat.le_refl _) new
    refine ⟨.ref s.heap.objs.size, _, I1, rfl, ⟨_, x, rfl, I.hok.fresh (Nat.le_refl _), rfl, fun ys hy => by rw [I.list_inj hy hq]; exact hx⟩, ⟨⟨u', ?_⟩, hit'.1.at fun o q => (sb.2 it (Ne.symm hne)).trans q, hne⟩, fun b hb => ?_⟩
    · have e1 : k + ((i + 1 : Nat) : Int) = k + (i : Int) + 1 := by omega
      rw [e1]; exact he'
    · have hb' : b < s.heap.objs.size := by
        have e' : b = e ∨ b = it := by simpa using hb
        rcases e' with z | z
        · rw [z]; exact hel
        · rw [z]; exact hil
      rw [upd_ne (Nat.ne_of_lt hb')]
      exact (hf b hb).1
  done := by
    intro X hP hw hK hc i pins s σ H E I hf st hg
    subst hP hw hK
    obtain ⟨⟨old, he⟩, hit, hne⟩ := st
    obtain ⟨xs, hq, hx⟩ := hg
    obtain ⟨its, rv, p, hz⟩ := I.list hq
    obtain ⟨f0, f1, f2, f3, f4, f5⟩ := hf it (by simp)
    have hl := rv.length
    have hal : a ≠ it := fun z => by
      obtain ⟨o1, q1, c1, _⟩ := p.isList
      obtain ⟨o2, q2, c2, _⟩ := hit
      rw [z, q2] at q1
      cases q1
      rw [c2] at c1
      simp at c1
    have hi : its.toArray.size = i := by simp; omega
    refine wpAny_pyNext_enum_endD (Draws.list (prog := X.prog) (w := X.w) (A := X.A.in1) (I.ok.hd hc) it a hal its.toArray) he ⟨by rw [hi]; exact hit, p.isList⟩ fun h' eb => ⟨rfl, I.turned (t' := s.toks) (fun b o hb q => eb b o hb q) f0 f1 f3 f4 f5⟩
  self := fun A i s Q E st h => let ⟨⟨_, he⟩, _⟩ := st; wpAny_pyIter_enum he h
def iEnumK (K : PySem.W.Frag) (k : Int) (ta : TA) : TI := fun σ H R => ta σ H fun vs H1 => ∃ a xs, vs = [.ref a] ∧ SqL K H1 a xs ∧ R (IteK K a k) H1
theorem pi_enumK {X : Cx} {e : Expr} {ta : TA} {p pos tpos kp : Pos} {elts : List Expr} {kk : Nat} {n : Nat} {j : Nat} {cp : Pos} (hg : Gl X "enumerate") (hm : X.mg "enumerate" = none) (ha : PA X [e] ta) (hn : (n : Int) < 2 ^ 63) (hs : starEach [e] X.env = [(false, eval e X.env)] := by rfl) :
    PI X (.Tuple elts kk tpos) (.Call (.Name "enumerate" p) [e] [⟨some "start", .Constant (.int n) j cp, kp⟩] pos) (iEnumK X.K n ta) := by
  refine ⟨fun pins s σ H R I h => ?_⟩
  have he : backTo pos (starEach [e] X.env) = (false, eval e X.env) :: backTo pos (starEach [] X.env) := by rw [hs]; rfl
  have hpl : (backTo pos (starEach [e] X.env)).any (·.1) = false := by rw [hs]; rfl
  refine wpAny_Call_Name_kw (ld_blt I hg hm boot_enumerate (UXK.callWith_typeKw (thn (ha.run pos pins s σ H _ I h) fun us s1 ⟨vs, H1, I1, r1, q1⟩ => ?_) he hpl))
  obtain ⟨a, xs, ex, hq, q⟩ := q1
  subst ex
  cases r1 with
  | cons r rr =>
    cases rr
    cases r
    obtain ⟨its, rv, p', hz⟩ := I1.list hq
    refine kws_cons (wpAny_Constant_int (kws_nil ?_))
    show wpAny _ _ (call (.type "enumerate") [.ref a] [(Str.ofString "start", .int (n : Int) s1.toks)]) _ _ _
    refine enum_begins_start (begins_list a its.toArray) p'.isList (by omega) hn fun h' he' hit hsz hk => wpAny_pyIter_enum he' ?_
    have I2 : Inv X pins σ H1 { s1 with heap := h', toks := s1.toks + 1 } := I1.kept hk
    refine ⟨s1.heap.objs.size + 1, [s1.heap.objs.size + 1, s1.heap.objs.size], _, _, H1, rfl, I2, turn_enumK a (s1.heap.objs.size + 1) s1.heap.objs.size n, ⟨⟨.none, by simpa using he'⟩, ⟨_, hit, rfl, rfl⟩, Nat.succ_ne_self _⟩, fun b hb => ?_, q⟩
    have e' : b = s1.heap.objs.size + 1 ∨ b = s1.heap.objs.size := by simpa using hb
    have hle : s1.heap.objs.size ≤ b := by
      rcases e' with z | z
      · rw [z]; exact Nat.le_add_right _ _
      · rw [z]; exact Nat.le_refl _
    exact I1.fpOk hle (I1.hok.fresh hle)
end U

set_option Elab.async false
set_option linter.all false
set_option maxRecDepth 100000
set_option maxHeartbeats 4000000
/-! samples read from lines -/
namespace U
open PySem PySem.Spec PyProof.Rows L2
open Evl (Ex)
open C8 (Met Mak pe_mt pe_mt0 pe_mk)
abbrev s_is_written_integer : Stmt := top 25
abbrev sc_is_written_integer_N : List Str := ["word"]
theorem sc_is_written_integer : FnScope sc_is_written_integer_N ["word"] (defScope s_is_written_integer) := ⟨rfl, rfl, rfl, by decide +kernel, rfl, by decide +kernel, by decide +kernel⟩
abbrev s_Pis_example : Stmt := top 24
abbrev sc_Pis_example_N : List Str := ["words", "places", "word"]
theorem sc_Pis_example : FnScope sc_Pis_example_N ["words", "places"] (defScope s_Pis_example) := ⟨rfl, rfl, rfl, by decide +kernel, rfl, by decide +kernel, by decide +kernel⟩
abbrev s_places_in : Stmt := top 23
abbrev sc_places_in_N : List Str := ["rows", "places"]
theorem sc_places_in : FnScope sc_places_in_N ["rows"] (defScope s_places_in) := ⟨rfl, rfl, rfl, by decide +kernel, rfl, by decide +kernel, by decide +kernel⟩
abbrev s_read_sample : Stmt := top 22
abbrev sc_read_sample_N : List Str := ["text", "rows", "rest", "places", "examples", "number", "row", "words", "word"]
theorem sc_read_sample : FnScope sc_read_sample_N ["text"] (defScope s_read_sample) := ⟨rfl, rfl, rfl, by decide +kernel, rfl, by decide +kernel, by decide +kernel⟩
theorem wi_all : ∀ n : Fin 199, (Str.ofString (toString ((n.val : Int) - 99))).length ≤ 3 ∧ Txt.isdecimal (Txt.removeprefix (Str.ofString (toString ((n.val : Int) - 99))) "-") = true ∧ PySem.intText? (Str.ofString (toString ((n.val : Int) - 99))) = some ((n.val : Int) - 99) ∧ (32 : Nat) ∉ TL.tl (Str.ofString (toString ((n.val : Int) - 99))) ∧ (10 : Nat) ∉ TL.tl (Str.ofString (toString ((n.val : Int) - 99))) ∧ PyData.strOk (Str.ofString (toString ((n.val : Int) - 99))) = true ∧ ((n.val : Int) - 99).natAbs.log2 < 1920 := by decide +kernel
structure WiF (e : Int) : Prop where
  len : (Str.ofString (toString e)).length ≤ 3
  dec : Txt.isdecimal (Txt.removeprefix (Str.ofString (toString e)) "-") = true
  int : PySem.intText? (Str.ofString (toString e)) = some e
  sp : (32 : Nat) ∉ TL.tl (Str.ofString (toString e))
  nl : (10 : Nat) ∉ TL.tl (Str.ofString (toString e))
  ok : PyData.strOk (Str.ofString (toString e)) = true
  lg : e.natAbs.log2 < 1920
theorem wi_of {e : Int} (h : -99 ≤ e ∧ e ≤ 99) : WiF e := by
  have hn : (e + 99).toNat < 199 := by omega
  have := wi_all ⟨(e + 99).toNat, hn⟩
  have e1 : (((⟨(e + 99).toNat, hn⟩ : Fin 199).val : Nat) : Int) - 99 = e := by show ((e + 99).toNat : Int) - 99 = e; omega
  rw [e1] at this
  exact ⟨this.1, this.2.1, this.2.2.1, this.2.2.2.1, this.2.2.2.2.1, this.2.2.2.2.2.1, this.2.2.2.2.2.2⟩
theorem int_inj {a b : Int} (ha : -99 ≤ a ∧ a ≤ 99) (hb : -99 ≤ b ∧ b ≤ 99) (h : Str.ofString (toString a) = Str.ofString (toString b)) : a = b := by
  have := (wi_of ha).int
  rw [h, (wi_of hb).int] at this
  exact (Option.some.inj this).symm
structure TxZ (mg : Str → Option Value) : Prop extends TxF mg where
  m_str : mg "str" = none
section
variable {P : Program} {w : World} {K : PySem.W.Frag} {mg : Str → Option Value} {base : Heap} {C : Addr}
def spWI : Sp := fun vs H Q _ => ∃ e : Int, vs = [.str (toString e)] ∧ -99 ≤ e ∧ e ≤ 99 ∧ ∀ H', Ex H H' → Q (.bl true) H'
theorem ok_wi {f : Addr} {fd : FuncData} (F : Fun K "_is_written_integer" "_is_written_integer" s_is_written_integer f fd) (T : TxZ mg) (c_LONG : ∃ t, mg "LONGEST_INTEGER" = some (.int 6 t)) : FnOk P w K mg base CX0 1 f fd ["word"] spWI := by
  refine F.ok sc_is_written_integer (fun vs H Q E h => ?_) (fun cdv A outer s H vs Q E hr h => ?_)
  · obtain ⟨_, rfl, _⟩ := h
    rfl
  · obtain ⟨e, rfl, e0, e1, k⟩ := h
    refine ⟨_, (pss_cons (ps_if (PW.pt (pw_or (pt_cmpR op_gt (pe_callB call_len_str (by rfl) T.m_len (by decide +kernel) (pa_cons (pv 0) pa_nil)) (pe_glob (v := .int 6) (by rfl) c_LONG.choose_spec (by exact ⟨_, rfl⟩)) (nomark _)) (pw_or1 (pt_not (pt_val (pe_m0 PySem.F.slot_str_isdecimal PySem.F.type_str_isdecimal mt_isdecimal (pe_m1 PySem.F.slot_str_removeprefix PySem.F.type_str_removeprefix mt_removeprefix (pv 0) pe_str))))))) (pss_one (ps_ret pe_bl)) pss_nil)
    (pss_one (ps_ret (pe_cmpR op_eq (pe_callTy call_str_int (by rfl) T.m_str (by decide +kernel) (pa_cons (pe_callTy call_int_str (by rfl) T.m_int (by decide +kernel) (pa_cons (pv 0) pa_nil)) pa_nil)) (pv 0) (nomark _))))), ?_⟩
    have F1 := wi_of ⟨e0, e1⟩
    have ln : ∀ H1, Evl.Ev (tCB (fun xs H Q => ∃ z, xs = [V.str z] ∧ z.length ≤ sizeLine ∧ Q (V.int z.length) H) (tCons (tVar 0) tNil)) (start sc_is_written_integer_N [.str (toString e)]) H1 (.int ((Str.ofString (toString e)).length : Int)) := fun H1 H2 e2 Q q => ⟨_, rfl, _, rfl, by rw [sizeLine_eq]; have := F1.len; omega, q H2 (Ex.refl _)⟩
    refine Evl.q_when (b := false) (Evl.et_is (Evl.et_or (a := false) (b := false) (Evl.et_is (Evl.et_test (Evl.ev_op (ln H) Evl.ev_c (Evl.rv_I0 (g := fun i j => .bl (decide (j < i)))))) (decide_eq_false (by have := F1.len; omega))) fun _ => Evl.et_is (Evl.et_not (a := true) (Evl.et_B fun H2 e2 Q q => ?_)) rfl) rfl) (fun z => nomatch z) (fun _ H1 e1 => ?_)
    · refine ⟨_, rfl, ⟨_, rfl⟩, _, _, rfl, rfl, by rw [sizeLine_eq]; have := F1.len; omega, ⟨_, rfl⟩, _, rfl, rfl, trivial, ?_⟩
      rw [F1.dec]
      exact q H2 (Ex.refl _)
    · refine Evl.s_ret (v := .bl true) (Evl.ev_is (Evl.ev_op (x := .str (toString e)) (y := .str (toString e)) (fun H2 e2 Q q => ?_) (Evl.ev_var rfl) (Evl.rv_eq rfl)) (congrArg V.bl (decide_eq_true rfl))) fun H2 e2 => k H2 (e1.trans e2)
      exact ⟨_, rfl, _, e, rfl, F1.int, by have := F1.len; omega, e, rfl, F1.lg, q H2 (Ex.refl _)⟩
end
end U

set_option Elab.async false
set_option linter.all false
set_option maxRecDepth 100000
set_option maxHeartbeats 2000000
/-! defs that may raise an own error with one field -/
namespace U
open PySem PySem.Spec PyProof.Rows L2
open Evl (Ex)
/-- a def that may raise, with its promise -/
structure DefX (P : Program) (w : World) (K : PySem.W.Frag) (mg : Str → Option Value) (base : Heap) (x : Str) (k : Nat) (ps : List Str) (sp : Sp) : Prop where
  ex : ∃ (f : Addr) (fd : FuncData), FnOk P w K mg base (CX P w) k f fd ps sp ∧ mg x = some (.ref f) ∧ PySem.W.keepIn K (.ref f) = true ∧ Binds K fd ps []
/-- f(e, ..): what it raises is E -/
def tCallX (sp : Sp) (E : XK) (t : TA) : TE := fun σ H Q => t σ H fun vs H1 => sp vs H1 Q E
theorem pe_callX {X : Cx} {x : Str} {k : Nat} {ps : List Str} {sp : Sp} {p pos : Pos} {e : Expr} {es : List Expr} {t : TA} {E : XK} (D : DefX X.prog X.w X.K X.mg X.base x k ps sp) (hr : Room k X.A) (hx : Passes (CX X.prog X.w) X E) (hg : Gl X x) (ha : PA X (e :: es) t)
    (hdb : (x == ("__debug__" : Str)) = false := by decide) (he : starEach (e :: es) X.env = (false, eval e X.env) :: starEach es X.env := by rfl) (hpl : (backTo pos (starEach es X.env)).any (·.1) = false := by rfl) :
    PE X (.Call (.Name x p) (e :: es) [] pos) (tCallX sp E t) := by
  obtain ⟨f, fd, F, hm, hk, hb⟩ := D.ex
  refine ⟨fun pins s σ H Q I h => (pe_call (E := E) F hr hg hm hk hb .nil hx ha hdb he hpl).run pins s σ H Q I ?_⟩
  have e1 : (fun (vs : List V) (H1 : Hp) => sp (vs ++ []) H1 Q E) = fun vs H1 => sp vs H1 Q E := by
    funext vs H1
    rw [List.append_nil]
  show t σ H fun vs H1 => sp (vs ++ []) H1 Q E
  rw [e1]
  exact h
/-- nothing leaves -/
theorem passX0 {X : Cx} : Passes (CX X.prog X.w) X E0 := fun _ _ _ _ _ _ _ c => by
  obtain ⟨_, _, _, _, _, _, _, _, _, _, _, _, z⟩ := c
  exact z.elim
theorem Passes.of {X : Cx} {E : XK} (tk : Takes X (fun cls d _ H => E cls d H)) : Passes (CX X.prog X.w) X E := passes_call tk fun _ _ _ _ h => h
/-- what an own __init__(self, f) promises -/
def spErrI (C : Addr) (f : Str) : Sp := fun vs H Q _ => ∃ (a : Addr) (v : V), vs = [.ref a, v] ∧ H a = some (exo a C none) ∧ ∀ dx, H dx = none → dx ≠ a → Q .non (upd (upd H dx (exd dx [(f, v)])) a (exo a C (some dx)))
theorem pmk_err {X : Cx} {x f : Str} {C : Addr} {e : Expr} {te : TE} {p pos : Pos} (R : ErrC X.prog X.w X.K X.mg X.base x C f) (hr : Room 2 X.A) (hg : Gl X x) (he : PE X e te) (hdb : (x == ("__debug__" : Str)) = false := by decide)
    (hs : starEach [e] X.env = (false, eval e X.env) :: starEach [] X.env := by rfl) : PMk X (.Call (.Name x p) [e] [] pos) (tMkO C (spErrI C f) [] (tCons te tNil)) := by
  obtain ⟨fI, fd, iC, tI, F1, hb, _⟩ := R.init
  exact pmk_oex R.T iC tI F1 hr hb .nil pass0 hg R.gC (pa_cons he pa_nil hs) hdb hs (by rfl)
theorem mk_err_run {C : Addr} {f : Str} {te : TE} {σ : L2.St} {H : Hp} {v : V} {Q : XK} (h : Evl.Ev te σ H v) (k : ∀ d H2, H d = none → Ex H H2 → H2 d = some (.xd [(f, v)]) → Q (.ref C) (some d) H2) : tMkO C (spErrI C f) [] (tCons te tNil) σ H Q :=
  h H (Ex.refl _) _ fun H1 e1 => ⟨by simp, fun a ha => ⟨a, v, rfl, upd_same, fun dx hdx nx => by
    have hd1 : H1 dx = none := by
      rw [upd_ne nx] at hdx
      exact hdx
    refine ⟨rfl, dx, [(f, v)], upd_same, by rw [upd_ne nx, upd_same], hd1, k dx _ (Evl.fresh_back e1 hd1) (fun b o e => ?_) upd_same⟩
    have e' := e1 b o e
    have n1 : b ≠ a := ne_of_none e' ha
    have n2 : b ≠ dx := ne_of_none e' hd1
    rw [upd_ne n2]
    show del _ a b = _
    rw [del_ne n1, upd_ne n1, upd_ne n2, upd_ne n1]
    exact e'⟩⟩
/-- an error whose field is v was made and raised -/
def ErrE (C : Addr) (f : Str) (v : V) (H : Hp) (E : XK) : Prop := ∀ d H2, H d = none → Ex H H2 → H2 d = some (.xd [(f, v)]) → E (.ref C) (some d) H2
theorem ErrE.ex {C : Addr} {f : Str} {v : V} {H H1 : Hp} {E : XK} (h : ErrE C f v H E) (e : Ex H H1) : ErrE C f v H1 E := fun d H2 hd e2 hx => h d H2 (Evl.fresh_back e hd) (e.trans e2) hx
end U

set_option Elab.async false
set_option linter.all false
set_option maxRecDepth 100000
set_option maxHeartbeats 4000000
/-! words of any signs below 128 -/
namespace U
open PySem PySem.Spec PyProof.Rows L2 PySem.NumText
open Evl (Ex)
def Ascii (z : Str) : Prop := ∀ c ∈ TL.tl z, c < 128
theorem dec_cls : ∀ c, c < 128 → Unicode.isDecimal c = decide (48 ≤ c ∧ c ≤ 57) := by decide +kernel
theorem dec_digits {x : Str} (ha : Ascii x) : Txt.isdecimal x = true ↔ AllDigits (TL.tl x) ∧ TL.tl x ≠ [] := by
  unfold Txt.isdecimal
  rw [Bool.and_eq_true, decide_eq_true_iff, Array.all_eq_true']
  constructor
  · intro ⟨h1, h2⟩
    refine ⟨fun c hc => ?_, fun h => ?_⟩
    · have := h2 c (Array.mem_toList_iff.mp hc)
      rw [dec_cls c (ha c hc)] at this
      exact of_decide_eq_true this
    · have : x.cps.size = 0 := by rw [← Array.length_toList, show x.cps.toList = [] from h]; rfl
      have h3 : x.length = x.cps.size := rfl
      omega
  · intro ⟨h1, h2⟩
    refine ⟨?_, fun c hc => ?_⟩
    · have h3 : x.length = x.cps.toList.length := by rw [Array.length_toList]; rfl
      have : 0 < x.cps.toList.length := List.length_pos_iff.mpr h2
      omega
    · have hc := Array.mem_toList_iff.mpr hc
      rw [dec_cls c (ha c hc)]
      exact decide_eq_true (h1 c hc)
theorem rp_minus {x : Str} {cs : List Nat} (h : TL.tl x = 45 :: cs) : TL.tl (Txt.removeprefix x "-") = cs := by
  have h0 : x.cps.toList = 45 :: cs := h
  have hm : ("-" : Str).cps.toList = [45] := by decide +kernel
  have hl : ("-" : Str).length = 1 := by decide +kernel
  have hx : x.length = cs.length + 1 := by
    have : x.length = x.cps.toList.length := by rw [Array.length_toList]; rfl
    rw [this, h0]
    rfl
  have hs : Builtin.Str.subAt x "-" 0 = true := by
    rw [StrLaws.subAt_eq, h0, hm, hl]
    rfl
  rw [StrLaws.removeprefix_eq, if_pos (by rw [hs, hl, decide_eq_true (by omega)]; rfl), h0, hl, hx]
  show ((cs).take (cs.length + 1 - 1)) = cs
  exact List.take_of_length_le (by omega)
theorem rp_other {x : Str} (h : ∀ cs, TL.tl x ≠ 45 :: cs) : Txt.removeprefix x "-" = x := by
  have hm : ("-" : Str).cps.toList = [45] := by decide +kernel
  have hl : ("-" : Str).length = 1 := by decide +kernel
  have hs : Builtin.Str.subAt x "-" 0 = false := by
    rw [StrLaws.subAt_eq, hm, hl]
    cases hc : x.cps.toList with
    | nil => rfl
    | cons c cs =>
      have : c ≠ 45 := fun e => h cs (by rw [← e]; exact hc)
      simp [this]
  rw [StrLaws.removeprefix_eq, if_neg (by rw [hs]; simp)]
theorem digitsVal_lt : ∀ (cs : List Nat) (a : Nat), AllDigits cs → cs.foldl (fun acc c => acc * 10 + (c - 48)) a < (a + 1) * 10 ^ cs.length
  | [], a, _ => by show a < (a + 1) * 1; omega
  | c :: cs, a, h => by
    have h1 := digitsVal_lt cs (a * 10 + (c - 48)) h.tail
    have h2 := h.head
    have h3 : (a * 10 + (c - 48) + 1) * 10 ^ cs.length ≤ (a + 1) * 10 * 10 ^ cs.length := Nat.mul_le_mul_right _ (by omega)
    show cs.foldl _ (a * 10 + (c - 48)) < (a + 1) * 10 ^ (cs.length + 1)
    rw [Nat.pow_succ, Nat.mul_comm (10 ^ cs.length) 10, ← Nat.mul_assoc]
    omega
theorem dv_small {cs : List Nat} (h : AllDigits cs) (hl : cs.length ≤ 6) : digitsVal cs < 1000000 := by
  have h1 := digitsVal_lt cs 0 h
  have h2 : (10 : Nat) ^ cs.length ≤ 10 ^ 6 := Nat.pow_le_pow_right (by decide) hl
  unfold digitsVal
  omega
/-- a word that passes the first test is the text of a number -/
theorem dec_int {x : Str} (ha : Ascii x) (h6 : x.length ≤ 6) (h : Txt.isdecimal (Txt.removeprefix x "-") = true) : ∃ n : Int, PySem.intText? x = some n ∧ n.natAbs < 1000000 := by
  have hx : x.length = (TL.tl x).length := by show _ = x.cps.toList.length; rw [Array.length_toList]; rfl
  cases hc : TL.tl x with
  | nil =>
    have e := rp_other (x := x) fun cs => by rw [hc]; simp
    rw [e] at h
    exact absurd hc ((dec_digits ha).mp h).2
  | cons c cs =>
    by_cases hm : c = 45
    · subst hm
      have e := rp_minus hc
      have ha2 : Ascii (Txt.removeprefix x "-") := fun d hd => ha d (by rw [hc]; rw [e] at hd; exact List.mem_cons_of_mem _ hd)
      have hd := (dec_digits ha2).mp h
      rw [e] at hd
      have hl : cs.length ≤ 6 := by rw [hc, List.length_cons] at hx; omega
      refine ⟨_, intText_neg hc hd.1 hd.2 (by omega), ?_⟩
      have := dv_small hd.1 hl
      omega
    · have e := rp_other (x := x) fun cs' => by rw [hc]; simp [hm]
      rw [e] at h
      have hd := (dec_digits ha).mp h
      refine ⟨_, intText_digits hd.1 hd.2 (by omega), ?_⟩
      have := dv_small hd.1 (by omega)
      show (digitsVal (TL.tl x) : Int).natAbs < _
      omega
/-- what the program's test of a word says -/
def isW (x : Str) : Bool := decide (x.length ≤ 6) && (Txt.isdecimal (Txt.removeprefix x "-") && match PySem.intText? x with
  | some n => decide (Str.ofString (toString n) = x)
  | none => false)
end U

set_option Elab.async false
set_option linter.all false
set_option maxRecDepth 100000
set_option maxHeartbeats 4000000
/-! the program's test of a word, any word -/
namespace U
open PySem PySem.Spec PyProof.Rows L2 PySem.NumText
open Evl (Ex)
section
variable {P : Program} {w : World} {K : PySem.W.Frag} {mg : Str → Option Value} {base : Heap} {C : Addr}
def spWIg : Sp := fun vs H Q _ => ∃ z : Str, vs = [.str z] ∧ Ascii z ∧ z.length ≤ 100000 ∧ ∀ H', Ex H H' → Q (.bl (isW z)) H'
theorem ok_wig {f : Addr} {fd : FuncData} (F : Fun K "_is_written_integer" "_is_written_integer" s_is_written_integer f fd) (T : TxZ mg) (c_LONG : ∃ t, mg "LONGEST_INTEGER" = some (.int 6 t)) : FnOk P w K mg base CX0 1 f fd ["word"] spWIg := by
  refine F.ok sc_is_written_integer (fun vs H Q E h => ?_) (fun cdv A outer s H vs Q E hr h => ?_)
  · obtain ⟨_, rfl, _⟩ := h
    rfl
  · obtain ⟨z, rfl, hz, hl, k⟩ := h
    refine ⟨_, (pss_cons (ps_if (PW.pt (pw_or (pt_cmpR op_gt (pe_callB call_len_str (by rfl) T.m_len (by decide +kernel) (pa_cons (pv 0) pa_nil)) (pe_glob (v := .int 6) (by rfl) c_LONG.choose_spec (by exact ⟨_, rfl⟩)) (nomark _)) (pw_or1 (pt_not (pt_val (pe_m0 PySem.F.slot_str_isdecimal PySem.F.type_str_isdecimal mt_isdecimal (pe_m1 PySem.F.slot_str_removeprefix PySem.F.type_str_removeprefix mt_removeprefix (pv 0) pe_str))))))) (pss_one (ps_ret pe_bl)) pss_nil)
    (pss_one (ps_ret (pe_cmpR op_eq (pe_callTy call_str_int (by rfl) T.m_str (by decide +kernel) (pa_cons (pe_callTy call_int_str (by rfl) T.m_int (by decide +kernel) (pa_cons (pv 0) pa_nil)) pa_nil)) (pv 0) (nomark _))))), ?_⟩
    have ln : ∀ H1, Evl.Ev (tCB (fun xs H Q => ∃ z, xs = [V.str z] ∧ z.length ≤ sizeLine ∧ Q (V.int z.length) H) (tCons (tVar 0) tNil)) (start sc_is_written_integer_N [.str z]) H1 (.int (z.length : Int)) := fun H1 H2 e2 Q q => ⟨_, rfl, _, rfl, by rw [sizeLine_eq]; omega, q H2 (Ex.refl _)⟩
    refine Evl.q_when (b := decide (6 < z.length) || !Txt.isdecimal (Txt.removeprefix z "-")) (Evl.et_or (a := decide (6 < z.length)) (b := !Txt.isdecimal (Txt.removeprefix z "-")) (Evl.et_is (Evl.et_test (Evl.ev_op (ln H) Evl.ev_c (Evl.rv_I0 (g := fun i j => .bl (decide (j < i)))))) (decide_eq_decide.mpr (by omega))) fun _ => Evl.et_not (a := Txt.isdecimal (Txt.removeprefix z "-")) (Evl.et_B fun H2 e2 Q q => ?_)) (fun hb H1 e1 => ?_) (fun hb H1 e1 => ?_)
    · exact ⟨_, rfl, ⟨_, rfl⟩, _, _, rfl, rfl, by rw [sizeLine_eq]; omega, ⟨_, rfl⟩, _, rfl, rfl, trivial, q H2 (Ex.refl _)⟩
    · have e : isW z = false := by
        unfold isW
        rcases Bool.or_eq_true_iff.mp hb with h | h
        · rw [decide_eq_false (by have := of_decide_eq_true h; omega)]
          rfl
        · have : Txt.isdecimal (Txt.removeprefix z "-") = false := by simpa using h
          rw [this, Bool.false_and, Bool.and_false]
      rw [e] at k
      exact Evl.s_ret (v := .bl false) Evl.ev_c fun H2 e2 => k H2 (e1.trans e2)
    · obtain ⟨h1, h2⟩ := Bool.or_eq_false_iff.mp hb
      have h6 : z.length ≤ 6 := by have := of_decide_eq_false h1; omega
      have hd : Txt.isdecimal (Txt.removeprefix z "-") = true := by simpa using h2
      obtain ⟨n, hn, hs⟩ := dec_int hz h6 hd
      have e : isW z = decide (Str.ofString (toString n) = z) := by
        unfold isW
        rw [decide_eq_true h6, hd, hn]
        rfl
      rw [e] at k
      have lg : n.natAbs.log2 < 1920 := by
        by_cases z0 : n.natAbs = 0
        · rw [z0]
          decide
        · have := (Nat.log2_lt z0).mpr (show n.natAbs < 2 ^ 20 by omega)
          omega
      refine Evl.s_ret (v := .bl (decide (Str.ofString (toString n) = z))) (Evl.ev_is (Evl.ev_op (x := .str (Str.ofString (toString n))) (y := .str z) (fun H2 e2 Q q => ?_) (Evl.ev_var rfl) (Evl.rv_eq rfl)) (congrArg V.bl (decide_eq_decide.mpr ⟨fun h => by injection h, fun h => by rw [h]⟩))) fun H2 e2 => k H2 (e1.trans e2)
      exact ⟨_, rfl, _, n, rfl, hn, by omega, n, rfl, lg, q H2 (Ex.refl _)⟩
end
end U

set_option Elab.async false
set_option linter.all false
set_option maxRecDepth 100000
set_option maxHeartbeats 4000000
/-! the program's test of a row of words, any words -/
namespace U
open PySem PySem.Spec PyProof.Rows L2 PySem.NumText
open Evl (Ex)
theorem empty_app (x : Str) : Str.empty ++ x = x := Str.append_left_empty rfl
theorem join_app (y : Str) : ∀ a b : List Str, a ≠ [] → b ≠ [] → Str.join y (a ++ b) = Str.join y a ++ y ++ Str.join y b
  | [x], b, _, hb => by
    cases b with
    | nil => exact absurd rfl hb
    | cons z r => rfl
  | x :: z :: r, b, _, hb => by
    show x ++ y ++ Str.join y ((z :: r) ++ b) = x ++ y ++ Str.join y (z :: r) ++ y ++ Str.join y b
    rw [join_app y (z :: r) b (by simp) hb]
    simp only [Str.append_assoc]
  | [], b, ha, _ => absurd rfl ha
theorem join_cons (y x : Str) {b : List Str} (hb : b ≠ []) : Str.join y (x :: b) = x ++ y ++ Str.join y b := join_app y [x] b (by simp) hb
/-- the parts of an f-string -/
inductive EvJ : List TE → List Str → L2.St → Hp → Prop where
  | nil {σ : L2.St} {H : Hp} : EvJ [] [] σ H
  | cons {t : TE} {ts : List TE} {x : Str} {xs : List Str} {σ : L2.St} {H : Hp} (h : ∀ H1, Ex H H1 → Evl.Ev t σ H1 (.str x)) (r : EvJ ts xs σ H) : EvJ (t :: ts) (x :: xs) σ H
def gluedJ : List Str → Str → Str
  | [], acc => acc
  | x :: xs, acc => gluedJ xs (acc ++ x)
theorem gluedJ_len : ∀ (xs : List Str) (acc : Str), (gluedJ xs acc).length = acc.length + (xs.map (·.length)).sum
  | [], acc => by simp [gluedJ]
  | x :: xs, acc => by
    show (gluedJ xs (acc ++ x)).length = _
    rw [gluedJ_len xs, Str.length_append, List.map_cons, List.sum_cons]
    omega
theorem evj_run {ts : List TE} {xs : List Str} {σ : L2.St} {H : Hp} (h : EvJ ts xs σ H) : ∀ (acc : Str) (H1 : Hp) (Q : Str → Hp → Prop), Ex H H1 → acc.length + (xs.map (·.length)).sum ≤ sizeLine → (∀ H2, Ex H1 H2 → Q (gluedJ xs acc) H2) → tJs ts acc σ H1 Q := by
  induction h with
  | nil => exact fun acc H1 Q e hz q => q H1 (Ex.refl _)
  | @cons t ts x xs σ H h r ih =>
    intro acc H1 Q e hz q
    rw [List.map_cons, List.sum_cons] at hz
    refine h H1 e H1 (Ex.refl _) _ fun H2 e2 => ⟨x, rfl, by rw [Str.length_append]; omega, ih (acc ++ x) H2 Q (e.trans e2) (by rw [Str.length_append]; omega) fun H3 e3 => q H3 (e2.trans e3)⟩
theorem ev_joined {ts : List TE} {xs : List Str} {σ : L2.St} {H : Hp} (h : EvJ ts xs σ H) (hz : (xs.map (·.length)).sum ≤ sizeLine) : Evl.Ev (fun σ H Q => tJs ts Str.empty σ H fun out H1 => Q (.str out) H1) σ H (.str (gluedJ xs Str.empty)) := fun H1 e Q q =>
  evj_run h Str.empty H1 _ e (by show 0 + _ ≤ _; omega) fun H2 e2 => q H2 e2
theorem ev_fmtI {te : TE} {σ : L2.St} {H : Hp} {i : Int} (h : Evl.Ev te σ H (.int i)) (hi : 0 ≤ i ∧ i ≤ 9) : Evl.Ev (tFmt te) σ H (.str (toString i)) := fun H1 e Q q => h H1 e _ fun H2 e2 => .inr ⟨i, rfl, by
  have : i = 0 ∨ i = 1 ∨ i = 2 ∨ i = 3 ∨ i = 4 ∨ i = 5 ∨ i = 6 ∨ i = 7 ∨ i = 8 ∨ i = 9 := by omega
  rcases this with rfl | rfl | rfl | rfl | rfl | rfl | rfl | rfl | rfl | rfl <;> decide, q H2 e2⟩
theorem depth_strs : ∀ ws : List Str, PyData.depthAll (ws.map .str) = 0
  | [] => rfl
  | _ :: ws => by
    show max 0 (PyData.depthAll (ws.map .str)) = 0
    rw [depth_strs ws]
    rfl
theorem eqv_strs : ∀ a b : List Str, PyData.eqvAll (a.map .str) (b.map .str) = decide (a = b)
  | [], [] => rfl
  | [], _ :: _ => rfl
  | _ :: _, [] => rfl
  | x :: a, y :: b => by
    show ((x == y) && PyData.eqvAll (a.map .str) (b.map .str)) = _
    rw [eqv_strs a b]
    by_cases h1 : x = y <;> by_cases h2 : a = b <;> simp [h1, h2]
theorem shaped_strs {ws : List Str} (h : ∀ z ∈ ws, PyData.strOk z = true) : SeqAt.shaped (.list (ws.map .str)) = true := by
  refine Bool.and_eq_true_iff.mpr ⟨?_, decide_eq_true ?_⟩
  · show PyData.canLayAll0 (ws.map .str) = true
    rw [canLayAll_strs']
    exact List.all_eq_true.mpr h
  · show PyData.depthAll (ws.map .str) + 1 ≤ 64
    rw [depth_strs]
    decide
theorem dpa_strs {K : PySem.W.Frag} {H : Hp} : ∀ ws : List Str, DpAll K H (ws.map V.str) (ws.map PyData.str)
  | [] => .nil
  | z :: ws => .cons (.str z) (dpa_strs ws)

section
variable {K : PySem.W.Frag} {σ : L2.St} {H : Hp} {a l p : Addr} {xs ys : List V} {ta tb ti : TE} {n : Nat}
theorem cut_to {xs : List V} {n : Nat} : cutV xs none (some (n : Int)) = xs.take n := by
  unfold cutV
  rw [HT.sIx_nat]
  show (xs.drop 0).take (min n xs.length - 0) = _
  rw [List.drop_zero, Nat.sub_zero]
  by_cases h : n ≤ xs.length
  · rw [Nat.min_eq_left h]
  · rw [Nat.min_eq_right (by omega), List.take_of_length_le (by omega), List.take_of_length_le (by omega)]
theorem cut_from {xs : List V} {n : Nat} : cutV xs (some (n : Int)) none = xs.drop n := by
  unfold cutV
  rw [HT.sIx_nat]
  show (xs.drop (min n xs.length)).take (xs.length - min n xs.length) = _
  by_cases h : n ≤ xs.length
  · rw [Nat.min_eq_left h, List.take_of_length_le (by rw [List.length_drop]; omega)]
  · rw [Nat.min_eq_right (by omega), List.drop_of_length_le (by omega), List.drop_of_length_le (by omega), List.take_nil]

theorem el_to (h : Evl.Ev ta σ H (.ref a)) (hx : SqL K H a xs) (hi : Evl.Ev ti σ H (.int (n : Int))) : Evl.EvL (tSl (rSlL K) ta tNoPart (tPart ti)) σ H (xs.take n) := fun H1 e Q q => h H1 e _ fun H2 e2 => by
  unfold tNoPart
  refine hi H2 (e.trans e2) _ fun H3 e3 => ⟨n, rfl, a, xs, rfl, Evl.ex_l ((e.trans e2).trans e3) hx, fun p hp => q p _ (Evl.fresh_back (e2.trans e3) hp) ((e2.trans e3).trans (Ex.new hp)) (by rw [upd_same, cut_to])⟩
theorem el_from (h : Evl.Ev ta σ H (.ref a)) (hx : SqL K H a xs) (hi : Evl.Ev ti σ H (.int (n : Int))) : Evl.EvL (tSl (rSlL K) ta (tPart ti) tNoPart) σ H (xs.drop n) := fun H1 e Q q => h H1 e _ fun H2 e2 => by
  refine hi H2 (e.trans e2) _ fun H3 e3 => ⟨n, rfl, ?_⟩
  unfold tNoPart
  exact ⟨a, xs, rfl, Evl.ex_l ((e.trans e2).trans e3) hx, fun p hp => q p _ (Evl.fresh_back (e2.trans e3) hp) ((e2.trans e3).trans (Ex.new hp)) (by rw [upd_same, cut_from])⟩
theorem given_all {n : Nat} {v : Nat → V} : Evl.given n (fun _ => true) v = (List.range n).map v := by
  unfold Evl.given
  rw [List.filter_eq_self.mpr fun _ _ => rfl]
theorem walk_enumK {k : Int} : Walk (IteK K a k) xs.length (fun H => SqL K H a xs) (YPair (fun i => some (.int (k + (i : Nat)))) (fun i => xs[i]?)) := by
  refine ⟨fun i _ hi q => ⟨xs, xs[i], q, by simp [hi]⟩, fun _ q => ⟨xs, q, rfl⟩, fun i H v H' _ q y => ?_⟩
  obtain ⟨T, x, h1, h2, h3, h4⟩ := y
  exact ⟨T, .int (k + (i : Nat)), x, h1, h2, h3, rfl, h4 xs q⟩
end
theorem sum_le {α : Type} (f : α → Nat) (n : Nat) : ∀ l : List α, (∀ x ∈ l, f x ≤ n) → (l.map f).sum ≤ n * l.length
  | [], _ => by simp
  | x :: l, h => by
    have h1 := h x (List.mem_cons_self ..)
    have h2 := sum_le f n l fun y hy => h y (List.mem_cons_of_mem _ hy)
    rw [List.map_cons, List.sum_cons, List.length_cons, Nat.mul_succ]
    omega


/-- what the program's test of the words of a row says -/
def exB (ws : List Str) (p : Int) : Bool := decide (ws[0]? = some ("yes" : Str) ∨ ws[0]? = some ("no" : Str)) && (decide ((ws.length : Int) = p + 1) && (ws.drop 1).all isW)
section
variable {P : Program} {w : World} {K : PySem.W.Frag} {mg : Str → Option Value} {base : Heap} {C : Addr}
def spPExg (K : PySem.W.Frag) : Sp := fun vs H Q _ => ∃ (a : Addr) (ws : List Str) (p : Int), vs = [.ref a, .int p] ∧ SqL K H a (ws.map V.str) ∧ ws ≠ [] ∧ ws.length ≤ 30000 ∧ (∀ z ∈ ws, Ascii z ∧ z.length ≤ 100000) ∧ ∀ H', Ex H H' → Q (.bl (exB ws p)) H'
theorem eqS (a b : Str) : eqV (.str a) (.str b) = decide (a = b) := by
  by_cases e : a = b
  · subst e
    simp [eqV]
  · simp [eqV, e]
theorem inS2 (z a b : Str) : inV (.str z) [.str a, .str b] = decide (z = a ∨ z = b) := by
  show (eqV (.str a) (.str z) || (eqV (.str b) (.str z) || false)) = _
  rw [eqS, eqS, Bool.or_false, ← Bool.decide_or]
  exact decide_eq_decide.mpr ⟨fun h => h.imp Eq.symm Eq.symm, fun h => h.imp Eq.symm Eq.symm⟩
theorem ok_pexg {f : Addr} {fd : FuncData} (F : Fun K "_is_example" "_is_example" s_Pis_example f fd) (T : TxZ mg) (D_is_written_integer : DefAt P w K mg base "_is_written_integer" 1 ["word"] spWIg) : FnOk P w K mg base CX0 2 f fd ["words", "places"] (spPExg K) := by
  refine F.ok sc_Pis_example (fun vs H Q E h => ?_) (fun cdv A outer s H vs Q E hr h => ?_)
  · obtain ⟨_, _, _, rfl, _⟩ := h
    rfl
  · obtain ⟨a, ws, p, rfl, hx, hne, hl, hs, k⟩ := h
    refine ⟨_, (pss_one (ps_ret (pe_and (pe_cmpR op_in_seq (pe_ix ix_list (pv 0) pe_int (fun _ _ => rfl)) (pe_tup (pa_cons pe_str (pa_cons pe_str pa_nil))) (by rfl)) (pe_and (pe_cmpR op_eq (pe_callB call_len_seq (by rfl) T.m_len (by decide +kernel) (pa_cons (pv 0) pa_nil)) (pe_op op_add (pv 1) pe_int) (nomark _)) (pe_one (pe_callB (cr_all rfl) (by rfl) T.m_all (by decide +kernel) (pa_cons (pe_lc (own := [("word", 2)]) (g := gName 2) (tt := tYes) (by rfl) sc_Pis_example.nd (pi_list (pe_slice sl_list (pv 0) (po_some pe_int) po_none)) (blkOk_by (N := sc_Pis_example_N) (sc := defScope s_Pis_example) (by decide +kernel)) (fun _ _ _ _ _ => (pg_name (i := 2) sc_Pis_example.nd rfl (by first | exact Or.inl rfl | exact Or.inr rfl))) (fun _ _ _ _ _ => pts_nil) (fun _ _ _ _ _ => (pe_callD D_is_written_integer (by first | exact hr | exact hr.mono (by decide) | exact hr.mono (by omega)) (by rfl) (pa_cons (pv 2) pa_nil)))) pa_nil))))))), ?_⟩
    obtain ⟨z0, r, rfl⟩ : ∃ z0 r, ws = z0 :: r := by
      cases ws with
      | nil => exact absurd rfl hne
      | cons z0 r => exact ⟨z0, r, rfl⟩
    have hx0 : ((z0 :: r).map V.str)[0]? = some (.str z0) := rfl
    refine Evl.s_ret (v := .bl (exB (z0 :: r) p)) (Evl.ev_is (Evl.ev_andV (a := decide (z0 = "yes" ∨ z0 = "no")) (b := decide (((z0 :: r).length : Int) = p + 1) && r.all isW) (Evl.ev_is (Evl.ev_inU (x := .str z0) (Evl.ev_op (Evl.ev_var (v := .ref a) rfl) Evl.ev_c (Evl.rv_ixL hx (atI_nat (j := 0) hx0))) (Evl.eu_tup (Evl.ea_cons Evl.ev_c (Evl.ea_cons Evl.ev_c Evl.ea_nil)) (by show 2 ≤ 100000; omega)) rfl rfl) (congrArg V.bl (inS2 _ _ _)))
      fun _ => Evl.ev_andV (a := decide (((z0 :: r).length : Int) = p + 1)) (b := r.all isW) (Evl.ev_is (Evl.ev_op (ev_lenS (xs := (z0 :: r).map V.str) (Evl.ev_var (v := .ref a) rfl) (.inl hx)) (Evl.ev_op (Evl.ev_var (v := .int p) rfl) Evl.ev_c (Evl.rv_I0 (g := fun i j => .int (i + j)))) (Evl.rv_eq rfl)) (congrArg V.bl (decide_eq_decide.mpr (by rw [List.length_map]; exact ⟨fun h => by injection h, fun h => by rw [h]⟩))))
      fun _ => ?_) (congrArg V.bl ?_)) k
    · refine Evl.ev_is (ev_all (bs := r.map isW) ?_) (congrArg V.bl (by rw [List.all_map]; rfl))
      have gv : Evl.given (((z0 :: r).map V.str).drop 1).length (fun _ => true) (fun j => V.bl (isW (r.getD j ""))) = (r.map isW).map V.bl := by
        rw [given_all]
        show (List.range (r.map V.str).length).map _ = _
        rw [List.length_map]
        refine List.ext_getElem? fun j => ?_
        rw [List.map_map, List.getElem?_map, List.getElem?_map]
        by_cases hj : j < r.length
        · rw [List.getElem?_range hj, List.getElem?_eq_getElem hj]
          simp [List.getD_eq_getElem?_getD, List.getElem?_eq_getElem hj]
        · rw [List.getElem?_eq_none (by rw [List.length_range]; omega), List.getElem?_eq_none (by omega)]
          rfl
      rw [← gv]
      refine Evl.el_lcNL (fun _ => true) (fun j => V.bl (isW (r.getD j ""))) (el_from (n := 1) (Evl.ev_var (v := .ref a) rfl) hx Evl.ev_c) (by show (r.map V.str).length ≤ 40000; rw [List.length_map]; rw [List.length_cons] at hl; omega) (fun _ => rfl) (fun i z H1 e1 hz H2 e2 Q q => q H2 (Ex.refl _)) (fun j z H1 e1 hz _ => ?_)
      have hz : (r.map V.str)[j]? = some z := hz
      rw [List.getElem?_map] at hz
      obtain ⟨y, hy, rfl⟩ := Option.map_eq_some_iff.mp hz
      have hsy := hs y (List.mem_cons_of_mem _ (List.mem_of_getElem? hy))
      have eg : r.getD j "" = y := by rw [List.getD_eq_getElem?_getD, hy]; rfl
      rw [eg]
      exact ev_callD (Evl.ea_cons (Evl.ev_var rfl) Evl.ea_nil) fun H2 e2 Q q => ⟨y, rfl, hsy.1, hsy.2, q⟩
    · unfold exB
      show _ = (decide (some z0 = some ("yes" : Str) ∨ some z0 = some ("no" : Str)) && _)
      rw [show decide (some z0 = some ("yes" : Str) ∨ some z0 = some ("no" : Str)) = decide (z0 = "yes" ∨ z0 = "no") from decide_eq_decide.mpr ⟨fun h => h.imp Option.some.inj Option.some.inj, fun h => h.imp (congrArg some) (congrArg some)⟩]
      rfl
end
end U

set_option Elab.async false
set_option linter.all false
set_option maxRecDepth 100000
set_option maxHeartbeats 4000000
/-! the number of places that the first line tells, or the error -/
namespace U
open PySem PySem.Spec PyProof.Rows L2 PySem.NumText
open Evl (Ex)
abbrev BadL (P : Program) (w : World) (K : PySem.W.Frag) (mg : Str → Option Value) (base : Heap) (BL : Addr) : Prop := ErrC P w K mg base "BadLine" BL "line"
def nW (e : Int) : Str := Str.ofString (toString e)
def placesT (p : Int) : Str := ("places " : Str) ++ nW p
theorem lst_one {te : TE} {σ : L2.St} {H : Hp} {Q : VK} {v : V} (h : Evl.Ev te σ H v) (k : ∀ H1 t, Ex H H1 → H1 t = none → Q (.ref t) (upd H1 t (.lst [v]))) : tLst (tCons te tNil) σ H Q := h H (Ex.refl _) _ fun H1 e => ⟨by show 1 ≤ sizeLine; decide, fun t ht => k H1 t e ht⟩
theorem placesT_ok {p : Int} (h : 1 ≤ p ∧ p ≤ 3) : PyData.strOk (placesT p) = true ∧ (10 : Nat) ∉ TL.tl (placesT p) := by
  have cp : p = 1 ∨ p = 2 ∨ p = 3 := by omega
  rcases cp with rfl | rfl | rfl <;> decide +kernel
theorem placesT_inj {p q : Int} (h : 1 ≤ p ∧ p ≤ 3) (h2 : 1 ≤ q ∧ q ≤ 3) (e : placesT p = placesT q) : p = q := by
  have cp : p = 1 ∨ p = 2 ∨ p = 3 := by omega
  have cq : q = 1 ∨ q = 2 ∨ q = 3 := by omega
  rcases cp with rfl | rfl | rfl <;> rcases cq with rfl | rfl | rfl <;> first | rfl | exact absurd e (by decide +kernel)

def plcOf (rows : List Str) : Option Int := if rows.take 1 = [placesT 1] then some 1 else if rows.take 1 = [placesT 2] then some 2 else if rows.take 1 = [placesT 3] then some 3 else none
theorem ascii_ok {z : Str} (h : Ascii z) : PyData.strOk z = true := by
  unfold PyData.strOk
  rw [Array.all_eq_true']
  intro c hc
  have := h c (Array.mem_toList_iff.mpr hc)
  exact decide_eq_true (by omega)
section
variable {P : Program} {w : World} {K : PySem.W.Frag} {mg : Str → Option Value} {base : Heap} {C BL : Addr}
def spPlcg (K : PySem.W.Frag) (BL : Addr) : Sp := fun vs H Q E => ∃ (a : Addr) (rows : List Str), vs = [.ref a] ∧ SqL K H a (rows.map V.str) ∧ (∀ z ∈ rows, Ascii z) ∧ rows.length ≤ 30000 ∧ match plcOf rows with
  | some p => ∀ H', Ex H H' → Q (.int p) H'
  | none => ErrE BL "line" (.int 1) H E
theorem ok_plcg {f : Addr} {fd : FuncData} (F : Fun K "_places_in" "_places_in" s_places_in f fd) (T : TxZ mg) (R : BadL P w K mg base BL) : FnOk P w K mg base (CX P w) 4 f fd ["rows"] (spPlcg K BL) := by
  refine F.okX sc_places_in (fun vs H Q E h => ?_) (fun cdv A outer s H vs Q E hr h => ?_)
  · obtain ⟨_, _, rfl, _⟩ := h
    rfl
  · obtain ⟨a, rows, rfl, hx, hr0, hl, k⟩ := h
    refine ⟨_, (pss_cons (ps_for (passes_of rfl) rfl (pi_range2 (by rfl) T.m_range (pa_cons (pe_glob (v := .int 1) (by rfl) T.c_LEAST_PLACES.choose_spec (by exact ⟨_, rfl⟩)) (pa_cons (pe_op op_add (pe_glob (v := .int 3) (by rfl) T.c_MOST_PLACES.choose_spec (by exact ⟨_, rfl⟩)) pe_int) pa_nil))) (pg_name (i := 1) sc_places_in.nd rfl (by first | exact Or.inl rfl | exact Or.inr rfl))
      (pss_one (ps_if (pt_cmpR (op_eqD hr.units) (pe_slice sl_list (pv 0) po_none (po_some pe_int)) (pe_lst (pa_cons (pe_joined (PJ.cons pe_str (PJ.cons (pe_fmt (pv 1)) PJ.nil))) pa_nil)) (nomark _)) (pss_one (ps_ret (pv 1))) pss_nil)))
    (pss_one (ps_raise rfl (takes_of rfl rfl rfl rfl) (pmk_err R (hr.mono (by omega)) (by rfl) pe_int)))), ?_⟩
    refine Evl.q_forR2 (lo := 1) (n := 4) (Evl.ea_cons Evl.ev_c (Evl.ea_cons (Evl.ev_is (Evl.ev_op Evl.ev_c Evl.ev_c (Evl.rv_I0 (g := fun i j => .int (i + j)))) rfl) Evl.ea_nil)) (by decide) (fun i σ' H' => Ex H H' ∧ (∀ j : Nat, j < i → rows.take 1 ≠ [placesT (1 + j)]) ∧ ∃ o1, σ' = [some (.ref a), o1]) (fun H1 e => ⟨e, fun _ h => absurd h (Nat.not_lt_zero _), _, rfl⟩) ?_ ?_
    · rintro i σ' H1 hi ⟨e1, hip, o1, rfl⟩
      have hq : (1 : Int) ≤ 1 + i ∧ (1 : Int) + i ≤ 3 := ⟨by omega, by omega⟩
      have ep : (placesT (1 + i)) = gluedJ [("places " : Str), nW (1 + i)] Str.empty := by
        show _ = (Str.empty ++ ("places " : Str)) ++ nW (1 + i)
        rw [empty_app]
        rfl
      have hz7 : (([("places " : Str), nW (1 + i)] : List Str).map (·.length)).sum ≤ sizeLine := by
        have h1 : (nW (1 + i)).length ≤ 3 := (wi_of (e := 1 + i) ⟨by omega, by omega⟩).len
        have h2 : ("places " : Str).length = 7 := by decide
        show ("places " : Str).length + ((nW (1 + i)).length + 0) ≤ _
        rw [sizeLine_eq]
        omega
      refine Evl.s_when (b := decide (rows.take 1 = [placesT (1 + i)])) (Evl.et_test fun H2 e2 Q q => ?_) (fun hz H2 e2 => ?_) (fun hz H2 e2 => ?_)
      · refine el_to (n := 1) (Evl.ev_var (v := .ref a) rfl) (Evl.ex_l (e1.trans e2) hx) Evl.ev_c H2 (Ex.refl _) _ fun pz H3 _ e3 hx3 => ?_
        refine lst_one (v := .str (placesT (1 + i))) (by
          rw [ep]
          exact ev_joined (xs := [("places " : Str), nW (1 + i)]) (.cons (fun H4 _ => Evl.ev_c) (.cons (fun H4 _ => ev_fmtI (Evl.ev_var rfl) ⟨by omega, by omega⟩) .nil)) hz7) fun H4 t e4 ht => ?_
        have e5 := Ex.new (o := .lst [.str (placesT (1 + i))]) ht
        rw [← List.map_take] at hx3
        refine ⟨.list ((rows.take 1).map .str), .list ([placesT (1 + i)].map .str), .lst (SqL.of ((e4.trans e5) _ _ hx3)) (dpa_strs _), .lst (SqL.of upd_same) (dpa_strs [placesT (1 + i)]), shaped_strs fun z hz => ?_, shaped_strs fun z hz => ?_, ?_⟩
        · exact ascii_ok (hr0 z (List.mem_of_mem_take hz))
        · rw [List.mem_singleton.mp hz]; exact (placesT_ok hq).1
        · show Q (.bl (PyData.eqvAll ((rows.take 1).map .str) ([placesT (1 + i)].map .str))) _
          rw [eqv_strs]
          exact q _ ((e3.trans e4).trans e5)
      · have hz := of_decide_eq_true hz
        have hk : plcOf rows = some ((1 : Int) + (i : Int)) := by
          have ci : i = 0 ∨ i = 1 ∨ i = 2 := by omega
          unfold plcOf
          rcases ci with rfl | rfl | rfl
          · have z0 : rows.take 1 = [placesT 1] := hz
            rw [if_pos z0]
            rfl
          · have z0 : rows.take 1 ≠ [placesT 1] := hip 0 (by decide)
            have z1 : rows.take 1 = [placesT 2] := hz
            rw [if_neg z0, if_pos z1]
            rfl
          · have z0 : rows.take 1 ≠ [placesT 1] := hip 0 (by decide)
            have z1 : rows.take 1 ≠ [placesT 2] := hip 1 (by decide)
            have z2 : rows.take 1 = [placesT 3] := hz
            rw [if_neg z0, if_neg z1, if_pos z2]
            rfl
        rw [hk] at k
        exact Evl.s_ret (v := .int (1 + i)) (Evl.ev_var rfl) fun H3 e3 => k H3 ((e1.trans e2).trans e3)
      · have hz := of_decide_eq_false hz
        exact ⟨e1.trans e2, fun j hj => (Nat.lt_succ_iff_lt_or_eq.mp hj).elim (hip j) fun e => by rw [e]; exact hz, _, rfl⟩
    · rintro σ' H1 ⟨e1, hip, o1, rfl⟩
      have hk : plcOf rows = none := by
        have z0 : rows.take 1 ≠ [placesT 1] := hip 0 (by decide)
        have z1 : rows.take 1 ≠ [placesT 2] := hip 1 (by decide)
        have z2 : rows.take 1 ≠ [placesT 3] := hip 2 (by decide)
        unfold plcOf
        rw [if_neg z0, if_neg z1, if_neg z2]
      rw [hk] at k
      exact mk_err_run Evl.ev_c fun d H4 hd e4 hx4 => k d H4 (Evl.fresh_back e1 hd) (e1.trans e4) hx4
end
end U

set_option Elab.async false
set_option linter.all false
set_option maxRecDepth 100000
set_option maxHeartbeats 4000000
/-! the lines and words of any text; what is read of them -/
namespace U
open PySem PySem.Spec PyProof.Rows L2 PySem.NumText
open Evl (Ex)
theorem joinL_has {y q : List Nat} {c : Nat} (hc : c ∈ q) : ∀ {ps : List (List Nat)}, q ∈ ps → c ∈ TL.joinL y ps
  | [p], h => by
    rw [List.mem_singleton.mp h] at hc
    exact hc
  | p :: p2 :: ps, h => by
    show c ∈ p ++ (y ++ TL.joinL y (p2 :: ps))
    rcases List.mem_cons.mp h with h | h
    · rw [h] at hc
      exact List.mem_append_left _ hc
    · exact List.mem_append_right _ (List.mem_append_right _ (joinL_has hc h))
theorem joinL_len {y q : List Nat} : ∀ {ps : List (List Nat)}, q ∈ ps → q.length ≤ (TL.joinL y ps).length
  | [p], h => by
    rw [List.mem_singleton.mp h]
    exact Nat.le_refl _
  | p :: p2 :: ps, h => by
    show q.length ≤ (p ++ (y ++ TL.joinL y (p2 :: ps))).length
    rw [List.length_append, List.length_append]
    rcases List.mem_cons.mp h with h | h
    · rw [h]
      omega
    · have := joinL_len (y := y) h
      omega
theorem joinL_many {y : List Nat} (hy : 1 ≤ y.length) : ∀ (ps : List (List Nat)), ps.length ≤ (TL.joinL y ps).length + 1
  | [] => by simp
  | [p] => by simp
  | p :: p2 :: ps => by
    have := joinL_many hy (p2 :: ps)
    show _ ≤ (p ++ (y ++ TL.joinL y (p2 :: ps))).length + 1
    rw [List.length_append, List.length_append, List.length_cons]
    omega
theorem split_join_tl (x y : Str) : TL.tl x = TL.joinL (TL.tl y) ((Txt.split x y).map TL.tl) := by
  rw [← TL.tl_join, StrLaws.join_split]
theorem len_tl (x : Str) : x.length = (TL.tl x).length := by show _ = x.cps.toList.length; rw [Array.length_toList]; rfl
theorem part_ascii {x y z : Str} (h : Ascii x) (hz : z ∈ Txt.split x y) : Ascii z := fun c hc => h c (by
  rw [split_join_tl x y]
  exact joinL_has hc (List.mem_map.mpr ⟨z, hz, rfl⟩))
theorem part_len {x y z : Str} (hz : z ∈ Txt.split x y) : z.length ≤ x.length := by
  rw [len_tl x, len_tl z, split_join_tl x y]
  exact joinL_len (List.mem_map.mpr ⟨z, hz, rfl⟩)
theorem parts_many {x y : Str} (hy : 1 ≤ (TL.tl y).length) : (Txt.split x y).length ≤ x.length + 1 := by
  have := joinL_many hy ((Txt.split x y).map TL.tl)
  rw [← split_join_tl, List.length_map] at this
  rw [len_tl x]
  exact this
theorem spl_ne (S : List Nat) : ∀ (n : Nat) (l : List Nat), l.length ≤ n → ∀ acc, TL.spl S 0 acc l ≠ []
  | _, [], _, acc => by rw [TL.spl_nil]; simp
  | 0, _ :: _, h, _ => absurd h (by simp)
  | n + 1, c :: r, h, acc => by
    cases hp : TL.pre S (c :: r) with
    | true => rw [TL.spl_hit hp]; simp
    | false => rw [TL.spl_miss hp]; exact spl_ne S n r (by rw [List.length_cons] at h; omega) _
theorem parts_ne (x y : Str) (hy : TL.tl y ≠ []) (hk : y.cps.all (· < 256) = true) : Txt.split x y ≠ [] := fun h => by
  have := TL.split_spl x y hy (TL.kind_ok hk)
  rw [h] at this
  exact spl_ne _ _ _ (Nat.le_refl _) _ this.symm
/-- the words of a line -/
def wordsOf (r : Str) : List Str := Txt.split r " "
def intOf (z : Str) : Int := (PySem.intText? z).getD 0
def rowOf (r : Str) : List Int × Bool := (((wordsOf r).drop 1).map intOf, decide ((wordsOf r)[0]? = some ("yes" : Str)))
/-- the first line that can't stand -/
def firstBad (p : Int) : List Str → Int → Option Int
  | [], _ => none
  | r :: rs, n => if exB (wordsOf r) p then firstBad p rs (n + 1) else some n
def readL (rows : List Str) (rest : Str) : Except Int (Int × List (List Int × Bool)) := match plcOf rows with
  | none => .error 1
  | some p => match firstBad p (rows.drop 1) 2 with
    | some n => .error n
    | none => if rest = "" then .ok (p, (rows.drop 1).map rowOf) else .error (rows.length + 1)
end U

set_option Elab.async false
set_option linter.all false
set_option maxRecDepth 100000
set_option maxHeartbeats 4000000
/-! a sample read from any text, or the error -/
namespace U
open PySem PySem.Spec PyProof.Rows L2 PySem.NumText
open Evl (Ex)
open C8 (Met Mak pe_mt pe_mt0 pe_mk)
theorem tup2_run {t1 t2 : TE} {σ : L2.St} {H : Hp} {Q : List V → Hp → Prop} {xs : List V} {v : V} (h1 : Evl.EvL t1 σ H xs) (h2 : ∀ H1, Ex H H1 → Evl.Ev t2 σ H1 v) (k : ∀ c H1 t, H c = none → Ex H H1 → H1 c = some (.lst xs) → H1 t = none → Q [.ref t] (upd H1 t (.tup [.ref c, v]))) : tCons (tTup (tCons t1 (tCons t2 tNil))) tNil σ H Q := h1 H (Ex.refl _) _ fun c H1 hc e1 hcx => h2 H1 e1 H1 (Ex.refl _) _ fun H2 e2 => ⟨by show 2 ≤ sizeLine; decide, fun t ht => k c H2 t hc (e1.trans e2) (e2 _ _ hcx) ht⟩

theorem evx_run {sp : Sp} {E : XK} {ta : TA} {vs : List V} {σ : L2.St} {H : Hp} {Q : VK} (h : Evl.EvA ta σ H vs) (hs : ∀ H1, Ex H H1 → sp vs H1 Q E) : tCallX sp E ta σ H Q := h H (Ex.refl _) _ hs
theorem firstBad_at {p : Int} {r : Str} : ∀ {rs : List Str} {i : Nat} {n : Int}, (∀ q ∈ rs.take i, exB (wordsOf q) p = true) → rs[i]? = some r → exB (wordsOf r) p = false → firstBad p rs n = some (n + i)
  | [], _, _, _, h, _ => nomatch h
  | q :: rs, 0, n, _, h, hb => by
    obtain rfl := Option.some.inj h
    show (if exB (wordsOf q) p = true then _ else some n) = _
    rw [hb, if_neg Bool.false_ne_true]
    simp
  | q :: rs, i + 1, n, ha, h, hb => by
    have hq : exB (wordsOf q) p = true := ha q (by simp)
    show (if exB (wordsOf q) p = true then firstBad p rs (n + 1) else _) = _
    rw [if_pos hq, firstBad_at (i := i) (fun z hz => ha z (by simp; exact .inr hz)) (by simpa using h) hb]
    congr 1
    omega
theorem firstBad_none {p : Int} : ∀ {rs : List Str} {n : Int}, (∀ q ∈ rs, exB (wordsOf q) p = true) → firstBad p rs n = none
  | [], _, _ => rfl
  | q :: rs, n, ha => by
    show (if exB (wordsOf q) p = true then firstBad p rs (n + 1) else _) = _
    rw [if_pos (ha q (List.mem_cons_self ..)), firstBad_none fun z hz => ha z (List.mem_cons_of_mem _ hz)]
theorem plcOf_in {rows : List Str} {p : Int} (h : plcOf rows = some p) : 1 ≤ p ∧ p ≤ 3 := by
  unfold plcOf at h
  split at h
  · cases h; decide
  · split at h
    · cases h; decide
    · split at h
      · cases h; decide
      · cases h
theorem isW_int {z : Str} (ha : Ascii z) (h : isW z = true) : PySem.intText? z = some (intOf z) ∧ (-999999 ≤ intOf z ∧ intOf z ≤ 999999) ∧ z.length ≤ 6 := by
  unfold isW at h
  obtain ⟨h1, h2⟩ := Bool.and_eq_true_iff.mp h
  obtain ⟨h2, h3⟩ := Bool.and_eq_true_iff.mp h2
  have h6 := of_decide_eq_true h1
  obtain ⟨n, hn, hs⟩ := dec_int ha h6 h2
  have e : intOf z = n := by unfold intOf; rw [hn]; rfl
  rw [e]
  exact ⟨hn, ⟨by omega, by omega⟩, h6⟩
theorem good_row {ws : List Str} {p : Int} (ha : ∀ z ∈ ws, Ascii z) (h : exB ws p = true) (p1 : 1 ≤ p ∧ p ≤ 3) : ((ws.drop 1).length : Int) = p ∧ ∀ z ∈ ws.drop 1, PySem.intText? z = some (intOf z) ∧ (-999999 ≤ intOf z ∧ intOf z ≤ 999999) ∧ z.length ≤ 6 := by
  unfold exB at h
  obtain ⟨_, h⟩ := Bool.and_eq_true_iff.mp h
  obtain ⟨h1, h2⟩ := Bool.and_eq_true_iff.mp h
  have h1 := of_decide_eq_true h1
  exact ⟨by rw [List.length_drop]; omega, fun z hz => isW_int (ha z (List.mem_of_mem_drop hz)) (List.all_eq_true.mp h2 z hz)⟩
section
variable {P : Program} {w : World} {K : PySem.W.Frag} {mg : Str → Option Value} {base : Heap} {C BL : Addr}
def spReadG (K : PySem.W.Frag) (C BL : Addr) : Sp := fun vs H Q E => ∃ (x : Str) (rows : List Str) (rest : Str) (L : List Addr), vs = [.str x] ∧ Ascii x ∧ x.length ≤ 10000 ∧ Txt.split x "\n" = rows ++ [rest] ∧ Hid L H ∧ match readL rows rest with
  | .ok pr => ∀ y H', Ex H H' → Smp K L H' y C pr.1 (pr.2.map fun r => rowD r.1 r.2) → Q (.ref y) H'
  | .error n => ErrE BL "line" (.int n) H E
theorem ok_readg {f : Addr} {fd : FuncData} (F : Fun K "read_sample" "read_sample" s_read_sample f fd) (T : TxZ mg) (R : BadL P w K mg base BL) (D_Pis_example : DefAt P w K mg base "_is_example" 2 ["words", "places"] (spPExg K)) (D_places_in : DefX P w K mg base "_places_in" 4 ["rows"] (spPlcg K BL)) (N_Sample : Mak P w K mg base 5 "Sample" C (spInit K C) []) : FnOk P w K mg base (CX P w) 7 f fd ["text"] (spReadG K C BL) := by
  refine F.okX sc_read_sample (fun vs H Q E h => ?_) (fun cdv A outer s H vs Q E hr h => ?_)
  · obtain ⟨_, _, _, _, rfl, _⟩ := h
    rfl
  · obtain ⟨x, rows, rest, L, rfl, hx, hl, hsp, hL, k⟩ := h
    refine ⟨_, (pss_cons (ps_asg (pe_m1 PySem.F.slot_str_split PySem.F.type_str_split mt_split (pv 0) pe_str) (pg_star rfl (pgs_cons (pg_name (i := 1) sc_read_sample.nd rfl (by first | exact Or.inl rfl | exact Or.inr rfl)) (pgs_cons (pg_name (i := 2) sc_read_sample.nd rfl (by first | exact Or.inl rfl | exact Or.inr rfl)) pgs_nil))))
    (pss_cons (ps_set (i := 3) sc_read_sample.nd rfl (by first | exact Or.inl rfl | exact Or.inr rfl) (pe_callX D_places_in (hr.mono (by omega)) (Passes.of (takes_of rfl rfl rfl rfl)) (by rfl) (pa_cons (pv 1) pa_nil)))
    (pss_cons (ps_set (i := 4) sc_read_sample.nd rfl (by first | exact Or.inl rfl | exact Or.inr rfl) (pe_lst pa_nil))
    (pss_cons (ps_for (passes_of rfl) rfl (pi_enumK (n := 2) (by rfl) T.m_enumerate (pa_cons (pe_slice sl_list (pv 1) (po_some pe_int) po_none) pa_nil) (by decide)) (pg_tup (by rfl) (pgs_cons (pg_name (i := 5) sc_read_sample.nd rfl (by first | exact Or.inl rfl | exact Or.inr rfl)) (pgs_cons (pg_name (i := 6) sc_read_sample.nd rfl (by first | exact Or.inl rfl | exact Or.inr rfl)) pgs_nil)))
      (pss_cons (ps_set (i := 7) sc_read_sample.nd rfl (by first | exact Or.inl rfl | exact Or.inr rfl) (pe_m1 PySem.F.slot_str_split PySem.F.type_str_split mt_split (pv 6) pe_str))
      (pss_cons (ps_if (pt_not (pt_val (pe_callD D_Pis_example (by first | exact hr | exact hr.mono (by decide) | exact hr.mono (by omega)) (by rfl) (pa_cons (pv 7) (pa_cons (pv 3) pa_nil))))) (pss_one (ps_raise rfl (takes_of rfl rfl rfl rfl) (pmk_err R (hr.mono (by omega)) (by rfl) (pv 5)))) pss_nil)
      (pss_one (ps_expr (pe_bm PySem.F.plainAttrs_list PySem.F.slot_list_append PySem.F.type_list_append mt_append (pv 4) (pa_cons (pe_tup (pa_cons (pe_lc (own := [("word", 8)]) (g := gName 8) (tt := tYes) (by rfl) sc_read_sample.nd (pi_list (pe_slice sl_list (pv 7) (po_some pe_int) po_none)) (blkOk_by (N := sc_read_sample_N) (sc := defScope s_read_sample) (by decide +kernel)) (fun _ _ _ _ _ => (pg_name (i := 8) sc_read_sample.nd rfl (by first | exact Or.inl rfl | exact Or.inr rfl))) (fun _ _ _ _ _ => pts_nil) (fun _ _ _ _ _ => (pe_callTy call_int_str (by rfl) T.m_int (by decide +kernel) (pa_cons (pv 8) pa_nil)))) (pa_cons (pe_cmpR op_eq (pe_ix ix_list (pv 7) pe_int (fun _ _ => rfl)) pe_str (nomark _)) pa_nil))) pa_nil)))))))
    (pss_cons (ps_if (pt_cmpR op_ne (pv 2) pe_str (nomark _)) (pss_one (ps_raise rfl (takes_of rfl rfl rfl rfl) (pmk_err R (hr.mono (by omega)) (by rfl) (pe_op op_add (pe_callB call_len_seq (by rfl) T.m_len (by decide +kernel) (pa_cons (pv 1) pa_nil)) pe_int)))) pss_nil)
    (pss_one (ps_ret (pe_mk N_Sample hr (by decide) (by rfl) (pa_cons (pv 3) (pa_cons (pv 4) pa_nil)))))))))), ?_⟩
    have hk : Builtin.Str.strKind x = Builtin.Str.strKind x := rfl
    have hlx := parts_many (x := x) (y := "\n") (by decide +kernel)
    rw [hsp, List.length_append, List.length_singleton] at hlx
    have hin : ∀ z ∈ rows ++ [rest], z ∈ Txt.split x "\n" := fun z hz => by rw [hsp]; exact hz
    have hasc : ∀ z ∈ rows, Ascii z ∧ z.length ≤ 10000 := fun z hz => ⟨part_ascii hx (hin z (List.mem_append_left _ hz)), Nat.le_trans (part_len (hin z (List.mem_append_left _ hz))) hl⟩
    refine ⟨_, rfl, ⟨_, rfl⟩, _, _, rfl, rfl, by decide +kernel, by rw [sizeLine_eq]; omega, fun a ha => ?_⟩
    have e1 := Ex.new (o := .lst ((Txt.split x "\n").map V.str)) ha
    have h1a : upd H a (.lst ((Txt.split x "\n").map V.str)) a = some (.lst (rows.map V.str ++ [.str rest])) := by
      rw [upd_same, hsp, List.map_append]
      rfl
    generalize upd H a (.lst ((Txt.split x "\n").map V.str)) = H1 at e1 h1a ⊢
    refine ⟨a, rows.map V.str, .str rest, rfl, SqL.of h1a, by rw [List.length_map]; omega, fun D hD => ?_⟩
    have e2 := e1.trans (Ex.new (o := .lst (rows.map V.str)) hD)
    have hDx : upd H1 D (.lst (rows.map V.str)) D = some (.lst (rows.map V.str)) := upd_same
    generalize upd H1 D (.lst (rows.map V.str)) = H2 at e2 hDx ⊢
    refine ⟨_, _, rfl, _, _, rfl, rfl, ?_⟩
    unfold readL at k
    cases hp : plcOf rows with
    | none =>
      rw [hp] at k
      exact evx_run (Evl.ea_cons (Evl.ev_var (v := .ref D) rfl) Evl.ea_nil) fun H3 e3 => ⟨D, rows, rfl, SqL.of (e3 _ _ hDx), fun z hz => (hasc z hz).1, by omega, by rw [hp]; exact ErrE.ex k (e2.trans e3)⟩
    | some p =>
      have P1 := plcOf_in hp
      rw [hp] at k
      dsimp only at k
      refine evx_run (Evl.ea_cons (Evl.ev_var (v := .ref D) rfl) Evl.ea_nil) fun H3 e3 => ⟨D, rows, rfl, SqL.of (e3 _ _ hDx), fun z hz => (hasc z hz).1, by omega, ?_⟩
      rw [hp]
      dsimp only
      intro H3' e3'
      refine Evl.q_asgL (xs := []) (Evl.el_lst Evl.ea_nil (by show 0 ≤ 100000; omega)) fun G H4 hG e4 hGx => ?_
      have e23 := (e2.trans e3).trans e3'
      have hD4 := ((e3.trans e3').trans e4) _ _ hDx
      have e04 := e23.trans e4
      have hGL : G ∉ L := hid_not (hid_ex e23 hL) hG
      refine el_from (n := 1) (Evl.ev_var (v := .ref D) rfl) (SqL.of hD4) Evl.ev_c H4 (Ex.refl _) _ fun B H5 hB e5 hBx => ?_
      rw [← List.map_drop] at hBx
      have e05 := e04.trans e5
      have hG5 := e5 _ _ hGx
      have hBG : B ≠ G := fun z => by rw [z, hGx] at hB; cases hB
      refine ⟨B, (rows.drop 1).map V.str, rfl, SqL.of hBx, ?_⟩
      have hG0 : H G = none := Evl.fresh_back e23 hG
      have hn : ((rows.drop 1).map V.str).length = (rows.drop 1).length := by rw [List.length_map]
      let rs := rows.drop 1
      let mk : Str → PyData := fun r => rowL (rowOf r).1 (rowOf r).2
      have hrl : rs.length ≤ 10001 := by show (rows.drop 1).length ≤ _; rw [List.length_drop]; omega
      have hra : ∀ z ∈ rs, Ascii z ∧ z.length ≤ 10000 := fun z hz => hasc z (List.mem_of_mem_drop hz)
      have hwa : ∀ r ∈ rs, ∀ z ∈ wordsOf r, Ascii z ∧ z.length ≤ 100000 := fun r hr z hz => ⟨part_ascii (hra r hr).1 hz, Nat.le_trans (part_len hz) (by have := (hra r hr).2; omega)⟩
      refine for_it (walk_enumK (xs := (rows.drop 1).map V.str)) (fun i σ' H' => ExB G H5 H' ∧ (Gr K L H' G ((rs.take i).map mk)) ∧ (∀ q ∈ rs.take i, exB (wordsOf q) p = true) ∧ ∃ o5 o6 o7 o8, σ' = [some (.str x), some (.ref D), some (.str rest), some (.int p), some (.ref G), o5, o6, o7, o8]) ⟨ExB.refl _ _, ⟨hGL, [], hG5, .nil⟩, (fun q hq => nomatch hq), _, _, _, _, rfl⟩ (fun i σ' H' _ pv => SqL.of (pv.1 _ _ hBG hBx)) ?_ ?_
      · rintro i X σ' H6 H7 hi ⟨b6, g6, hgood, o5, o6, o7, o8, rfl⟩ ⟨T0, u, w', rfl, hT, rfl, hu, hw'⟩
        obtain rfl := Option.some.inj hu
        have hw' : (rs.map V.str)[i]? = some w' := hw'
        rw [List.getElem?_map] at hw'
        obtain ⟨r, hr, rfl⟩ := Option.map_eq_some_iff.mp hw'
        have hrm := List.mem_of_getElem? hr
        have hi' : i < rs.length := (List.getElem?_eq_some_iff.mp hr).1
        refine ⟨T0, [_, .str r], rfl, SqT.of upd_same, rfl, _, [.str r], rfl, .str r, [], rfl, rfl, ?_⟩
        have e7 := Ex.new (o := .tup [V.int (((2 : Nat) : Int) + (i : Nat)), .str r]) hT
        generalize upd H6 T0 (.tup [V.int (((2 : Nat) : Int) + (i : Nat)), .str r]) = H7 at e7 ⊢
        refine ⟨_, rfl, ⟨_, rfl⟩, _, _, rfl, rfl, by decide +kernel, by rw [sizeLine_eq]; have := (hra r hrm).2; omega, fun Wd hWd => ?_⟩
        have e8 := e7.trans (Ex.new (o := .lst ((Txt.split r " ").map V.str)) hWd)
        have hWx : upd H7 Wd (.lst ((Txt.split r " ").map V.str)) Wd = some (.lst ((wordsOf r).map V.str)) := upd_same
        generalize upd H7 Wd (.lst ((Txt.split r " ").map V.str)) = H8 at e8 hWx ⊢
        have hwn : wordsOf r ≠ [] := parts_ne r " " (by decide +kernel) (by decide +kernel)
        have hwl : (wordsOf r).length ≤ 10001 := by
          have := parts_many (x := r) (y := " ") (by decide +kernel)
          have := (hra r hrm).2
          show (Txt.split r " ").length ≤ _
          omega
        have back : ∀ {H9}, Ex H8 H9 → Ex H H9 := fun e9 a o h => e9 a o (e8 a o (b6 a o (ne_of_none h hG0) (e05 a o h)))
        have tst : ∀ o5 o6 o8, Evl.EvT (tNot (tB (tCallD (spPExg K) (tCons (tVar 7) (tCons (tVar 3) tNil))))) [some (.str x), some (.ref D), some (.str rest), some (.int p), some (.ref G), o5, o6, some (.ref Wd), o8] H8 (!exB (wordsOf r) p) := fun o5 o6 o8 => Evl.et_not (a := exB (wordsOf r) p) (Evl.et_B (ev_callD (z := .bl (exB (wordsOf r) p)) (Evl.ea_cons (Evl.ev_var (v := .ref Wd) rfl) (Evl.ea_cons (Evl.ev_var (v := .int p) rfl) Evl.ea_nil)) fun H9 e9 Q q => ⟨Wd, wordsOf r, p, rfl, SqL.of (e9 _ _ hWx), hwn, by omega, hwa r hrm, q⟩))
        dsimp only [gName, List.set]
        refine Evl.q_when (b := !exB (wordsOf r) p) (tst _ _ _) (fun hb H9 e9 => ?_) (fun hb H9 e9 => ?_)
        · have hb : exB (wordsOf r) p = false := by simpa using hb
          have hf : firstBad p (rows.drop 1) 2 = some (2 + (i : Int)) := firstBad_at hgood hr hb
          rw [hf] at k
          exact mk_err_run (Evl.ev_var rfl) fun d H10 hd e10 hx10 => k d H10 (Evl.fresh_back (back e9) hd) ((back e9).trans e10) hx10
        have hb : exB (wordsOf r) p = true := by simpa using hb
        obtain ⟨gl, gi⟩ := good_row (fun z hz => (hwa r hrm z hz).1) hb P1
        have hW9 := e9 _ _ hWx
        have g9 := g6.up (e8.trans e9)
        obtain ⟨_, xs, hx9, hxs9⟩ := id g9
        have hxl := dpa_len hxs9
        refine ⟨_, rfl, Or.inl ⟨rfl, xs, SqL.of hx9⟩, ?_⟩
        obtain ⟨z0, wr, hz0⟩ : ∃ z0 wr, wordsOf r = z0 :: wr := by
          cases h : wordsOf r with
          | nil => exact absurd h hwn
          | cons z0 wr => exact ⟨z0, wr, rfl⟩
        have hd1 : (wordsOf r).drop 1 = wr := by rw [hz0]; rfl
        have hro : (rowOf r).1 = wr.map intOf := by show ((wordsOf r).drop 1).map intOf = _; rw [hd1]
        have hro2 : decide (V.str z0 = V.str "yes") = (rowOf r).2 := by
          show _ = decide ((wordsOf r)[0]? = some ("yes" : Str))
          rw [hz0]
          exact decide_eq_decide.mpr ⟨fun h => by injection h with h; rw [h]; rfl, fun h => by have h : some z0 = some ("yes" : Str) := h; rw [Option.some.inj h]⟩
        rw [hd1] at gi
        have hdw : ((wordsOf r).map V.str).drop 1 = wr.map V.str := by rw [← List.map_drop, hd1]
        have hwrl : wr.length ≤ 10000 := by rw [hz0, List.length_cons] at hwl; omega
        have comp : ∀ o5 o6 o8, Evl.EvL (tLc (iList K (tSl (rSlL K) (tVar 7) (tPart (tC (.int 1))) tNoPart)) (gName 8) tYes (tCB (fun xs H Q => ∃ a n, xs = [V.str a] ∧ PySem.intText? a = some n ∧ a.length ≤ 640 ∧ Q (V.int n) H) (tCons (tVar 8) tNil)) [8]) [some (.str x), some (.ref D), some (.str rest), some (.int p), some (.ref G), o5, o6, some (.ref Wd), o8] H9 ((rowOf r).1.map V.int) := by
          intro o5 o6 o8
          have gv : Evl.given (((wordsOf r).map V.str).drop 1).length (fun _ => true) (fun j => V.int (intOf (wr.getD j ""))) = (rowOf r).1.map V.int := by
            rw [given_all, hdw, List.length_map, hro]
            refine List.ext_getElem? fun j => ?_
            rw [List.map_map, List.getElem?_map, List.getElem?_map]
            by_cases hj : j < wr.length
            · rw [List.getElem?_range hj, List.getElem?_eq_getElem hj]
              simp [List.getD_eq_getElem?_getD, List.getElem?_eq_getElem hj]
            · rw [List.getElem?_eq_none (by rw [List.length_range]; omega), List.getElem?_eq_none (by omega)]
              rfl
          rw [← gv]
          refine Evl.el_lcNL (fun _ => true) (fun j => V.int (intOf (wr.getD j ""))) (el_from (n := 1) (Evl.ev_var (v := .ref Wd) rfl) (SqL.of hW9) Evl.ev_c) (by rw [hdw, List.length_map]; omega) (fun _ => rfl) (fun i z H1 e1 hz H2 e2 Q q => q H2 (Ex.refl _)) (fun j z H1 e1 hz _ => ?_)
          rw [hdw, List.getElem?_map] at hz
          obtain ⟨y, hy, rfl⟩ := Option.map_eq_some_iff.mp hz
          have gy := gi y (List.mem_of_getElem? hy)
          have eg : wr.getD j "" = y := by rw [List.getD_eq_getElem?_getD, hy]; rfl
          rw [eg]
          exact fun H2 e2 Q q => ⟨_, rfl, y, intOf y, rfl, gy.1, by have := gy.2.2; omega, q H2 (Ex.refl _)⟩
        refine tup2_run (v := .bl (rowOf r).2) (comp _ _ _) (fun H10 e10 => Evl.ev_is (Evl.ev_op (Evl.ev_op (Evl.ev_var (v := .ref Wd) rfl) Evl.ev_c (Evl.rv_ixL (v := .str z0) (SqL.of (e10 _ _ hW9)) (atI_nat (j := 0) (by rw [hz0]; rfl)))) Evl.ev_c (Evl.rv_eq rfl)) (congrArg V.bl hro2)) fun c H11 t hc e11 hcx ht => ?_
        have e9t := e11.trans (Ex.new (o := .tup [.ref c, .bl (rowOf r).2]) ht)
        have hxG := e9t _ _ hx9
        refine ⟨G, xs, .ref t, rfl, rfl, hxG, by rw [hxl, List.length_map, List.length_take, sizeLine_eq]; omega, ?_⟩
        have hidG : ∀ {H12}, Ex H8 H12 → H12 G ≠ none → Hid (G :: L) H12 := fun e12 hg b hb => by
          rcases List.mem_cons.mp hb with z | z
          · rw [z]
            exact hg
          · have h5 := hid_ex e05 hL b z
            have nb : b ≠ G := fun q => hGL (by rw [← q]; exact z)
            cases h5' : H5 b with
            | none => exact absurd h5' h5
            | some o => rw [e12 b o (e8 b o (b6 b o nb h5'))]; simp
        have hcL : c ∉ G :: L := hid_not (hidG e9 g9.ne) hc
        refine ⟨fun b o hb hbo => ?_, ?_, ?_, _, _, _, _, rfl⟩
        · rw [upd_ne hb]
          exact e9t b o (e9 b o (e8 b o (b6 b o hb hbo)))
        · have hsx : (rs.take (i + 1)).map mk = (rs.take i).map mk ++ [rowL (rowOf r).1 (rowOf r).2] := by
            rw [List.take_succ, hr, List.map_append]
            rfl
          rw [hsx]
          refine gr_app hGL hxG ((hxs9.up (w_ex e9t))) (.tup (SqT.of (w_new (hidG (e9.trans e11) (g9.up e11).ne) ht)) (.cons (.lst (SqL.of (w_of hcL (Ex.new ht _ _ hcx))) ?_) (.cons (.bl _) .nil)))
          exact dpa_ints _
        · intro q hq
          rw [List.take_succ, hr] at hq
          rcases List.mem_append.mp hq with hq | hq
          · exact hgood q hq
          · have : q = r := by simpa using hq
            rw [this]
            exact hb
      · rintro σ' H6 ⟨b6, g6, hgood, o5, o6, o7, o8, rfl⟩
        rw [List.take_of_length_le (by rw [hn]; exact Nat.le_refl _)] at g6 hgood
        have hf : firstBad p (rows.drop 1) 2 = none := firstBad_none hgood
        rw [hf] at k
        dsimp only at k
        have back : ∀ {H7}, Ex H6 H7 → Ex H H7 := fun e7 a o h => e7 a o (b6 a o (ne_of_none h hG0) (e05 a o h))
        have hne : (!decide (V.str rest = V.str "")) = decide (rest ≠ "") := by
          by_cases hz : rest = ""
          · simp [hz]
          · have : ¬ V.str rest = V.str "" := fun h => hz (by injection h)
            simp [hz, this]
        dsimp only
        refine Evl.q_when (b := decide (rest ≠ "")) (Evl.et_is (Evl.et_test (Evl.ev_op (x := .str rest) (y := .str "") (Evl.ev_var rfl) Evl.ev_c (Evl.rv_ne rfl))) hne) (fun hb H7 e7 => ?_) (fun hb H7 e7 => ?_)
        · rw [if_neg (of_decide_eq_true hb)] at k
          have hD7 : H7 D = some (.lst (rows.map V.str)) := by
            have hDG : D ≠ G := fun z => by
              have h9 := (e3.trans e3') _ _ hDx
              rw [z, hG] at h9
              cases h9
            exact e7 _ _ (b6 D _ hDG (e5 _ _ hD4))
          refine mk_err_run (v := .int (rows.length + 1)) (Evl.ev_is (Evl.ev_op (ev_lenS (xs := rows.map V.str) (Evl.ev_var (v := .ref D) rfl) (.inl (SqL.of hD7))) Evl.ev_c (Evl.rv_I0 (g := fun i j => .int (i + j)))) (congrArg V.int (by rw [List.length_map]))) fun d H10 hd e10 hx10 => k d H10 (Evl.fresh_back (back e7) hd) ((back e7).trans e10) hx10
        · have hz : rest = "" := Decidable.not_not.mp (of_decide_eq_false hb)
          rw [if_pos hz] at k
          dsimp only at k
          have hL7 : Hid L H7 := hid_ex (back e7) hL
          have hRL : RwsL p (rs.map mk) := ⟨by rw [List.length_map]; omega, fun d hd => by
            obtain ⟨r, hr, rfl⟩ := List.mem_map.mp hd
            obtain ⟨gl, gi⟩ := good_row (fun z hz => (hwa r hr z hz).1) (hgood r hr) P1
            refine ⟨(rowOf r).1, (rowOf r).2, .inr rfl, ?_, ?_, ?_⟩
            · show ((((wordsOf r).drop 1).map intOf).length : Int) = p
              rw [List.length_map]
              exact gl
            · show (((wordsOf r).drop 1).map intOf).length ≤ 3
              rw [List.length_map]
              omega
            · intro e he
              obtain ⟨z, hz, rfl⟩ := List.mem_map.mp he
              exact (gi z hz).2.1⟩
          refine s_retS (mk_run (L := L) (Evl.ev_var (v := .int p) rfl) (.inl (evd_of (Evl.ev_var (v := .ref G) rfl) (g6.up e7).dp)) hL7 P1.1 P1.2 hRL) fun y H8 e8 hS => ?_
          refine k y H8 ((back e7).trans e8) (by
            rw [List.map_map] at hS
            rw [List.map_map]
            exact hS)
end
end U

set_option Elab.async false
set_option linter.all false
set_option maxRecDepth 100000
set_option maxHeartbeats 4000000
/-! the law's reading of an entry -/
namespace U
open PySem PySem.Spec PyProof.Rows L2 PySem.NumText
open Evl (Ex)
abbrev s_entry : Stmt := top 33
abbrev sc_entry_N : List Str := ["_law_word", "_law_signs", "_law_sign"]
theorem sc_entry : FnScope sc_entry_N ["_law_word"] (defScope s_entry) := ⟨rfl, rfl, rfl, by decide +kernel, rfl, by decide +kernel, by decide +kernel⟩

theorem tl_eq {a b : Str} (h : TL.tl a = TL.tl b) : a = b := by
  cases a with | mk x => cases b with | mk y => exact congrArg Str.mk (Array.toList_inj.mp h)
theorem tl_len (z : Str) : z.length = (TL.tl z).length := by show _ = z.cps.toList.length; rw [Array.length_toList]; rfl
theorem cut_head (z : Str) : cutS z none (some 1) = ("-" : Str) ↔ ∃ cs, TL.tl z = 45 :: cs := by
  have hm : TL.tl ("-" : Str) = [45] := by decide +kernel
  have e : TL.tl (cutS z none (some 1)) = (TL.tl z).take (min 1 z.length) := by
    show ((z.cps.toList.drop 0).take (HT.sIx z.length z.length (some ((1 : Nat) : Int)) - 0)).toArray.toList = _
    rw [HT.sIx_nat]
    rfl
  have hl := tl_len z
  constructor
  · intro h
    have h := congrArg TL.tl h
    rw [e, hm] at h
    cases hc : TL.tl z with
    | nil => rw [hc] at h; simp at h
    | cons c cs =>
      rw [hc] at h hl
      rw [hl, List.length_cons, show min 1 (cs.length + 1) = 1 by omega] at h
      exact ⟨cs, by simpa using h⟩
  · rintro ⟨cs, hc⟩
    refine tl_eq ?_
    rw [e, hm, hl, hc, List.length_cons, show min 1 (cs.length + 1) = 1 by omega]
    rfl
theorem cut_tail {z : Str} {cs : List Nat} (hc : TL.tl z = 45 :: cs) : cutS z (some 1) none = Txt.removeprefix z "-" := by
  refine tl_eq ?_
  rw [rp_minus hc]
  have hl := tl_len z
  rw [hc, List.length_cons] at hl
  show ((z.cps.toList.drop (HT.sIx z.length 0 (some ((1 : Nat) : Int)))).take (z.length - HT.sIx z.length 0 (some ((1 : Nat) : Int)))).toArray.toList = _
  rw [HT.sIx_nat, show min 1 z.length = 1 by omega, show z.cps.toList = 45 :: cs from hc]
  show cs.take (z.length - 1) = cs
  exact List.take_of_length_le (by omega)
def digC (c : Nat) : Bool := decide (48 ≤ c ∧ c ≤ 57)
theorem occ_dig : ∀ c, c < 128 → (!!(Builtin.Str.occurrences ("0123456789" : Str) ⟨#[c]⟩ 0 ("0123456789" : Str).length 1).isEmpty) = !digC c := by decide +kernel
theorem given_mapS {n : Nat} {α : Type} {g : α → V} {l : List α} {v : Nat → V} (hn : l.length = n) (hv : ∀ i (h : i < l.length), v i = g l[i]) : Evl.given n (fun _ => true) v = l.map g := by
  unfold Evl.given
  rw [List.filter_eq_self.mpr (fun _ _ => rfl)]
  apply List.ext_getElem
  · simp [hn]
  · intro i h1 h2
    have hi : i < l.length := by simpa using h2
    simp [hv i hi]
theorem el_lcS {z : Str} {tl te : TE} {t : TT} {σ : L2.St} {H : Hp} {j : Nat} {vs : List Nat} (f : Nat → Bool) (v : Nat → V) (h : Evl.Ev tl σ H (.str z)) (hz : z.cps.size ≤ 40000) (hw : ∀ x, wipe ((wipe σ vs).set j (some x)) vs = wipe σ vs)
    (ht : ∀ (i : Nat) (c : Nat) H1, Ex H H1 → z.cps[i]? = some c → Evl.EvT t ((wipe σ vs).set j (some (.str ⟨#[c]⟩))) H1 (f i)) (he : ∀ (i : Nat) (c : Nat) H1, Ex H H1 → z.cps[i]? = some c → f i = true → Evl.Ev te ((wipe σ vs).set j (some (.str ⟨#[c]⟩))) H1 (v i)) :
    Evl.EvL (tLc (iStr tl) (gName j) t te vs) σ H (Evl.given z.cps.size f v) := fun H0 e Q q => h H0 e _ fun H1 e1 => ⟨z, rfl, fun Dl hD =>
  ⟨fun i m H' => m = z.cps.size - i ∧ i ≤ z.cps.size ∧ Evl.Cw H1 f v Dl i H', ⟨_, rfl, Nat.zero_le _, hD, Ex.new hD, upd_same⟩, by
    rintro i m H' ⟨rfl, hi, p⟩
    by_cases hlt : i < z.cps.size
    · refine Or.inr ⟨hlt, fun H2 => Evl.Cw H1 f v Dl (i + 1) H2, fun H2 p2 => ⟨_, by omega, rfl, hlt, p2⟩, ?_⟩
      rintro x H2 ⟨rfl, c, hc, rfl⟩
      exact ⟨hw _, Evl.cw_turn p (by omega) (ht i c H1 (e.trans e1) hc) (fun hf => he i c H1 (e.trans e1) hc hf)⟩
    · have hie : i = z.cps.size := by omega
      subst hie
      exact Or.inl ⟨Nat.le_refl _, q Dl H' (Evl.fresh_back e1 p.1) (e1.trans p.2.1) p.2.2⟩⟩⟩
section
variable {P : Program} {w : World} {K : PySem.W.Frag} {mg : Str → Option Value} {base : Heap} {C BL : Addr}
structure TxE (mg : Str → Option Value) : Prop extends TxZ mg where
  m_any : mg "any" = none
def entV (z : Str) : List V := if isW z then [.int (intOf z)] else []
def spEntry (K : PySem.W.Frag) : Sp := fun vs H Q _ => ∃ z : Str, vs = [.str z] ∧ Ascii z ∧ z.length ≤ 100000 ∧ ∀ t H', H t = none → Ex H H' → H' t = some (.lst (entV z)) → Q (.ref t) H'
theorem ok_entry {f : Addr} {fd : FuncData} (F : Fun K "_law_entry" "_law_entry" s_entry f fd) (T : TxE mg) : FnOk P w K mg base CX0 1 f fd ["_law_word"] (spEntry K) := by
  refine F.ok sc_entry (fun vs H Q E h => ?_) (fun cdv A outer s H vs Q E hr h => ?_)
  · obtain ⟨_, rfl, _⟩ := h
    rfl
  · obtain ⟨z, rfl, hz, hl, k⟩ := h
    refine ⟨_, (pss_cons (ps_set (i := 1) sc_entry.nd rfl (by first | exact Or.inl rfl | exact Or.inr rfl) (pe_ifExp (pt_cmpR op_eq (pe_slice sl_str (pv 0) po_none (po_some pe_int)) pe_str (nomark _)) (pe_slice sl_str (pv 0) (po_some pe_int) po_none) (pv 0)))
    (pss_cons (ps_if (PW.pt (pw_or (pt_cmpR op_eq (pv 1) pe_str (nomark _)) (pw_or (pt_cmpR op_gt (pe_callB call_len_str (by rfl) T.m_len (by decide +kernel) (pa_cons (pv 0) pa_nil)) pe_int (nomark _)) (pw_or1 (pt_val (pe_callB (cr_any rfl) (by rfl) T.m_any (by decide +kernel) (pa_cons (pe_lc (own := [("_law_sign", 2)]) (g := gName 2) (tt := tYes) (by rfl) sc_entry.nd (pi_str (pv 1)) (blkOk_by (N := sc_entry_N) (sc := defScope s_entry) (by decide +kernel)) (fun _ _ _ _ _ => (pg_name (i := 2) sc_entry.nd rfl (by first | exact Or.inl rfl | exact Or.inr rfl))) (fun _ _ _ _ _ => pts_nil) (fun _ _ _ _ _ => (pe_cmpR op_notIn_str (pv 2) pe_str (by rfl)))) pa_nil))))))) (pss_one (ps_ret (pe_lst pa_nil))) pss_nil)
    (pss_one (ps_ret (pe_ifExp (pt_cmpR op_eq (pv 0) (pe_callTy call_str_int (by rfl) T.m_str (by decide +kernel) (pa_cons (pe_callTy call_int_str (by rfl) T.m_int (by decide +kernel) (pa_cons (pv 0) pa_nil)) pa_nil)) (nomark _)) (pe_lst (pa_cons (pe_callTy call_int_str (by rfl) T.m_int (by decide +kernel) (pa_cons (pv 0) pa_nil)) pa_nil)) (pe_lst pa_nil)))))), ?_⟩
    have sgl : (Txt.removeprefix z "-").length ≤ z.length := by
      by_cases hm : ∃ cs, TL.tl z = 45 :: cs
      · obtain ⟨cs, hc⟩ := hm
        rw [tl_len, tl_len z, rp_minus hc, hc, List.length_cons]
        omega
      · rw [rp_other fun cs h => hm ⟨cs, h⟩]
        omega
    have sga : Ascii (Txt.removeprefix z "-") := by
      by_cases hm : ∃ cs, TL.tl z = 45 :: cs
      · obtain ⟨cs, hc⟩ := hm
        intro d hd
        rw [rp_minus hc] at hd
        exact hz d (by rw [hc]; exact List.mem_cons_of_mem _ hd)
      · rw [rp_other fun cs h => hm ⟨cs, h⟩]
        exact hz
    have hlz : z.length ≤ sizeLine := by rw [sizeLine_eq]; omega
    refine Evl.q_asg (v := .str (Txt.removeprefix z "-")) (Evl.ev_if (b := decide (cutS z none (some 1) = ("-" : Str))) (Evl.et_test (Evl.ev_is (Evl.ev_op (x := .str (cutS z none (some 1))) (y := .str "-") (fun H2 e2 Q q => ⟨.str z, rfl, 1, rfl, z, rfl, hlz, q H2 (Ex.refl _)⟩) Evl.ev_c (Evl.rv_eq rfl)) (congrArg V.bl (decide_eq_decide.mpr ⟨fun h => by injection h, fun h => by rw [h]⟩)))) (fun hb => ?_) (fun hb => ?_)) fun H1 e1 => ?_
    · obtain ⟨cs, hc⟩ := (cut_head z).mp (of_decide_eq_true hb)
      rw [← cut_tail hc]
      exact fun H2 e2 Q q => ⟨.str z, rfl, 1, rfl, z, rfl, hlz, q H2 (Ex.refl _)⟩
    · have := of_decide_eq_false hb
      rw [rp_other fun cs h => this ((cut_head z).mpr ⟨cs, h⟩)]
      exact Evl.ev_var rfl
    · generalize hsg : Txt.removeprefix z "-" = sg at *
      refine Evl.q_when (b := decide (sg = "") || (decide (6 < z.length) || (TL.tl sg).any fun c => !digC c)) (Evl.et_or (Evl.et_test (Evl.ev_is (Evl.ev_op (x := .str sg) (y := .str "") (Evl.ev_var rfl) Evl.ev_c (Evl.rv_eq rfl)) (congrArg V.bl (decide_eq_decide.mpr ⟨fun h => by injection h, fun h => by rw [h]⟩)))) fun _ => Evl.et_or (Evl.et_is (Evl.et_test (Evl.ev_op (x := .int (z.length : Int)) (fun H2 e2 Q q => ⟨_, rfl, _, rfl, hlz, q H2 (Ex.refl _)⟩) Evl.ev_c (Evl.rv_I0 (g := fun i j => .bl (decide (j < i)))))) (decide_eq_decide.mpr (by omega))) fun h6 => Evl.et_B (Evl.ev_is (ev_any (bs := (TL.tl sg).map fun c => !digC c) ?_) (congrArg V.bl (by rw [List.any_map]; rfl)))) (fun hb H2 e2 => ?_) (fun hb H2 e2 => ?_)
      · have h6 := of_decide_eq_false h6
        have hs6 : sg.cps.size ≤ 6 := by have : sg.length = sg.cps.size := rfl; omega
        rw [← given_mapS (n := sg.cps.size) (l := (TL.tl sg).map fun c => !digC c) (g := V.bl) (v := fun i => V.bl (!digC ((TL.tl sg).getD i 0))) (by rw [List.length_map]; exact Array.length_toList) (fun i h => by rw [List.length_map] at h; simp [List.getD_eq_getElem?_getD, List.getElem?_eq_getElem h])]
        refine el_lcS (fun _ => true) _ (Evl.ev_var rfl) (by omega) (fun _ => rfl) (fun i c H3 e3 hc H4 e4 Q q => q H4 (Ex.refl _)) (fun i c H3 e3 hc _ H4 e4 Q q => ?_)
        have hc2 : (TL.tl sg)[i]? = some c := by show sg.cps.toList[i]? = _; rw [Array.getElem?_toList]; exact hc
        have hq : (TL.tl sg).getD i 0 = c := by rw [List.getD_eq_getElem?_getD, hc2]; rfl
        have hm := sga c (List.mem_of_getElem? hc2)
        refine ⟨_, rfl, ⟨#[c]⟩, "0123456789", rfl, rfl, ?_⟩
        have q := q H4 (Ex.refl _)
        rw [hq, ← occ_dig c hm] at q
        exact q
      · have e : entV z = [] := by
          have : isW z = false := by
            unfold isW
            rw [hsg]
            rcases Bool.or_eq_true_iff.mp hb with h | h
            · have h := of_decide_eq_true h
              have : Txt.isdecimal sg = false := by rw [h]; decide +kernel
              rw [this, Bool.false_and, Bool.and_false]
            · rcases Bool.or_eq_true_iff.mp h with h | h
              · rw [decide_eq_false (by have := of_decide_eq_true h; omega)]
                rfl
              · have : Txt.isdecimal sg = false := by
                  cases hd : Txt.isdecimal sg with
                  | false => rfl
                  | true =>
                    obtain ⟨c, hc, hn⟩ := List.any_eq_true.mp h
                    have hd := ((dec_digits sga).mp hd).1 c hc
                    have : digC c = true := decide_eq_true hd
                    rw [this] at hn
                    exact absurd hn (by decide)
                rw [this, Bool.false_and, Bool.and_false]
          unfold entV
          rw [this]
          rfl
        rw [e] at k
        exact Evl.s_retL (xs := []) (Evl.el_lst Evl.ea_nil (by show 0 ≤ 100000; omega)) fun p H3 hp e3 hx => k p H3 (Evl.fresh_back (e1.trans e2) hp) ((e1.trans e2).trans e3) hx
      · obtain ⟨h1, h2⟩ := Bool.or_eq_false_iff.mp hb
        obtain ⟨h2, h3⟩ := Bool.or_eq_false_iff.mp h2
        have h6 : z.length ≤ 6 := by have := of_decide_eq_false h2; omega
        have hne := of_decide_eq_false h1
        have hd : Txt.isdecimal sg = true := (dec_digits sga).mpr ⟨fun c hc => by
          have := List.any_eq_false.mp h3 c hc
          cases hg : digC c with
          | true => exact of_decide_eq_true hg
          | false => rw [hg] at this; exact absurd rfl this, fun h => hne (tl_eq h)⟩
        obtain ⟨n, hn, hs⟩ := dec_int hz h6 (by rw [hsg]; exact hd)
        have e : isW z = decide (Str.ofString (toString n) = z) := by
          unfold isW
          rw [decide_eq_true h6, hsg, hd, hn]
          rfl
        have en : intOf z = n := by unfold intOf; rw [hn]; rfl
        have lg : n.natAbs.log2 < 1920 := by
          by_cases z0 : n.natAbs = 0
          · rw [z0]
            decide
          · have := (Nat.log2_lt z0).mpr (show n.natAbs < 2 ^ 20 by omega)
            omega
        have iv : ∀ H3, Evl.Ev (tCB (fun xs H Q => ∃ a n, xs = [V.str a] ∧ intText? a = some n ∧ a.length ≤ 640 ∧ Q (V.int n) H) (tCons (tVar 0) tNil)) [some (V.str z), some (V.str sg), none] H3 (.int n) := fun H3 H4 e4 Q q => ⟨_, rfl, z, n, rfl, hn, by omega, q H4 (Ex.refl _)⟩
        have ts : Evl.EvT (tTest (tOp rEq (tVar 0) (tCB (fun xs H Q => ∃ i, xs = [V.int i] ∧ i.natAbs.log2 < 1920 ∧ Q (V.str (Str.ofString (toString i))) H) (tCons (tCB (fun xs H Q => ∃ a n, xs = [V.str a] ∧ intText? a = some n ∧ a.length ≤ 640 ∧ Q (V.int n) H) (tCons (tVar 0) tNil)) tNil)))) [some (V.str z), some (V.str sg), none] H2 (isW z) := by
          rw [e]
          refine Evl.et_test (Evl.ev_is (Evl.ev_op (x := .str z) (y := .str (Str.ofString (toString n))) (Evl.ev_var rfl) (fun H3 e3 Q q => ?_) (Evl.rv_eq rfl)) (congrArg V.bl (decide_eq_decide.mpr ⟨fun h => by injection h with h; exact h.symm, fun h => by rw [h]⟩)))
          show tCB (fun xs H Q => ∃ a n, xs = [V.str a] ∧ intText? a = some n ∧ a.length ≤ 640 ∧ Q (V.int n) H) (tCons (tVar 0) tNil) [some (V.str z), some (V.str sg), none] H3 (fun x H4 => ∃ i : Int, [x] = [V.int i] ∧ i.natAbs.log2 < 1920 ∧ Q (V.str (Str.ofString (toString i))) H4)
          exact iv H3 H3 (Ex.refl _) _ fun H4 e4 => ⟨n, rfl, lg, q H4 e4⟩
        refine ts H2 (Ex.refl _) _ fun H3 e3 => ?_
        cases hi : isW z with
        | true =>
          have ee : entV z = [.int n] := by unfold entV; rw [hi, en]; rfl
          rw [ee] at k
          exact Evl.s_retL (te := tLst _) (xs := [.int n]) (Evl.el_lst (Evl.ea_cons (iv H3) Evl.ea_nil) (by show 1 ≤ 100000; omega)) fun p H4 hp e4 hx => k p H4 (Evl.fresh_back ((e1.trans e2).trans e3) hp) (((e1.trans e2).trans e3).trans e4) hx
        | false =>
          have ee : entV z = [] := by unfold entV; rw [hi]; rfl
          rw [ee] at k
          exact Evl.s_retL (te := tLst _) (xs := []) (Evl.el_lst Evl.ea_nil (by show 0 ≤ 100000; omega)) fun p H4 hp e4 hx => k p H4 (Evl.fresh_back ((e1.trans e2).trans e3) hp) (((e1.trans e2).trans e3).trans e4) hx
end
end U

set_option Elab.async false
set_option linter.all false
set_option maxRecDepth 100000
set_option maxHeartbeats 4000000
/-! the law's reading of a text -/
namespace U
open PySem PySem.Spec PyProof.Rows L2 PySem.NumText
open Evl (Ex)
abbrev s_read : Stmt := top 34
abbrev sc_read_N : List Str := ["_law_text", "_law_lines", "_law_rows_here", "_law_at", "_law_here", "_law_words", "_law_entries", "_law_word", "_law_entry_here"]
theorem sc_read : FnScope sc_read_N ["_law_text"] (defScope s_read) := ⟨rfl, rfl, rfl, by decide +kernel, rfl, by decide +kernel, by decide +kernel⟩
theorem bad_exB (z0 : Str) (wr : List Str) (p : Int) : (!decide (z0 = "yes" ∨ z0 = "no") || (!decide ((wr.length : Int) = p) || wr.any fun z => !isW z)) = !exB (z0 :: wr) p := by
  have h1 : decide ((z0 :: wr)[0]? = some ("yes" : Str) ∨ (z0 :: wr)[0]? = some ("no" : Str)) = decide (z0 = "yes" ∨ z0 = "no") := decide_eq_decide.mpr ⟨fun h => h.imp (fun h => Option.some.inj h) (fun h => Option.some.inj h), fun h => h.imp (fun h => congrArg some h) (fun h => congrArg some h)⟩
  have h2 : decide (((z0 :: wr).length : Int) = p + 1) = decide ((wr.length : Int) = p) := decide_eq_decide.mpr (by rw [List.length_cons]; omega)
  have h3 : (wr.any fun z => !isW z) = !(wr.all isW) := by
    induction wr with
    | nil => rfl
    | cons a l ih => rw [List.any_cons, List.all_cons, Bool.not_and]; congr 1; exact ih (by exact decide_eq_decide.mpr ⟨fun h => h.imp (fun h => Option.some.inj h) (fun h => Option.some.inj h), fun h => h.imp (fun h => congrArg some h) (fun h => congrArg some h)⟩) (decide_eq_decide.mpr (by rw [List.length_cons]; omega))
  unfold exB
  rw [h1, h2, h3, ← Bool.not_and, ← Bool.not_and]
  rfl
def entD (z : Str) : PyData := .list (if isW z then [.int (intOf z)] else [])
theorem ent_any (wr : List Str) : ((wr.map entD).any fun d => PyData.eqv d (.list [])) = wr.any fun z => !isW z := by
  rw [List.any_map]
  congr 1
  funext z
  show PyData.eqv (entD z) (.list []) = !isW z
  unfold entD
  cases isW z <;> rfl

def dataR : Except Int (Int × List (List Int × Bool)) → PyData
  | .error n => .int n
  | .ok pr => .tuple [.int pr.1, .list (pr.2.map fun r => rowD r.1 r.2)]
theorem cut_last {xs : List V} {y : V} : cutV (xs ++ [y]) none (some (-1)) = xs := by
  unfold cutV
  have e : HT.sIx (xs ++ [y]).length (xs ++ [y]).length (some (-1)) = xs.length := by
    show ((-1 : Int) + ((xs ++ [y]).length : Int)).toNat = _
    rw [List.length_append, List.length_singleton]
    omega
  rw [e, HT.sIx_none, List.drop_zero, Nat.sub_zero]
  exact List.take_left' rfl
theorem atI_last {α : Type} {xs : List α} {y : α} : atI (xs ++ [y]) (-1) = some y := by
  unfold atI
  have e : ixN (xs ++ [y]).length (-1) = some xs.length := by
    unfold ixN
    simp
    omega
  rw [e]
  simp
section
variable {K : PySem.W.Frag} {L : List Addr} {σ : L2.St} {H : Hp} {te tl ta tb : TE} {tt : TT} {D : Ends} {b : Bool}
theorem ret_if (h : Evl.EvT tt σ H b) (h1 : b = true → ∀ H1, Ex H H1 → ta σ H1 D.rt) (h2 : b = false → ∀ H1, Ex H H1 → tb σ H1 D.rt) : tRet (tIf tt ta tb) D σ H := h H (Ex.refl H) _ fun H1 e => by
  cases b with
  | true => exact h1 rfl H1 e
  | false => exact h2 rfl H1 e
theorem q_asgG {ds : List PyData} {tz : TS} {i : Nat} (h : EvG K L te σ H ds) (k : ∀ p H1, H p = none → Ex H H1 → Gr K L H1 p ds → tz D (σ.set i (some (.ref p))) H1) : tSeq (tAsg te (gName i)) tz D σ H := h H (Ex.refl H) _ fun p H1 hp e g => k p H1 hp e g
/-- a comprehension over a new list of texts, whose items are data -/
theorem eg_strs {j : Nat} {vs : List Nat} {zs : List Str} {g : Str → PyData} (h : Evl.EvL tl σ H (zs.map V.str)) (hL : Hid L H) (hz : zs.length ≤ 50000) (hw : ∀ x, wipe ((wipe σ vs).set j (some x)) vs = wipe σ vs)
    (he : ∀ L' (z : Str) H1, z ∈ zs → Hid L' H1 → Ex H H1 → EvD K L' te ((wipe σ vs).set j (some (.str z))) H1 (g z)) : EvG K L (tLc (iList K tl) (gName j) tYes te vs) σ H (zs.map g) := fun H0 e0 Q q => h H0 e0 _ fun a H1 ha e1 hx => by
  have hL1 : Hid L H1 := hid_ex (e0.trans e1) hL
  refine ⟨a, rfl, ⟨_, SqL.of hx⟩, fun Dl hD => ?_⟩
  refine lc_it (walk_list (xs := zs.map V.str)) (Cmd K L H1 (fun i => (zs.take i).map g) Dl) (cmd_0 hL1 hD rfl) (fun i H2 _ p => Evl.ex_l p.2.1 (SqL.of hx)) (fun i x H2 H3 hi p yp => ?_) (fun H2 p => ?_)
  · obtain ⟨rfl, hu⟩ := yp
    rw [List.getElem?_map] at hu
    obtain ⟨z, hz1, rfl⟩ := Option.map_eq_some_iff.mp hu
    obtain ⟨p1, p2, p3⟩ := id p
    have hil : i < zs.length := (List.getElem?_eq_some_iff.mp hz1).1
    refine ⟨hw _, ?_⟩
    refine yes_lc (A := fun H3 => te ((wipe σ vs).set j (some (.str z))) H3 fun y H4 => ∃ acc, H4 Dl = some (.lst acc) ∧ acc.length < sizeLine ∧ Cmd K L H1 (fun i => (zs.take i).map g) Dl (i + 1) (upd H4 Dl (.lst (acc ++ [y])))) (B := fun H3 => Cmd K L H1 (fun i => (zs.take i).map g) Dl (i + 1) H3) ?_
    refine cmd_yes p (by simp; omega) (Ex.refl _) (he _ z _ (List.mem_of_getElem? hz1) ?_ ((e0.trans e1).trans p2)) ?_
    · intro b hb
      rcases List.mem_cons.mp hb with z | z
      · rw [z]
        exact p3.ne
      · exact hid_ex p2 hL1 b z
    · rw [List.take_add_one, hz1]
      simp
  · obtain ⟨p1, p2, p3⟩ := p
    refine q Dl H2 (Evl.fresh_back e1 p1) (e1.trans p2) ?_
    dsimp only at p3
    rw [List.take_of_length_le (by rw [List.length_map]; exact Nat.le_refl _)] at p3
    exact p3
theorem evd_entry {z : Str} (hL : Hid L H) (h : Evl.Ev te σ H (.str z)) (ha : Ascii z) (hz : z.length ≤ 100000) : EvD K L (tCallD (spEntry K) (tCons te tNil)) σ H (entD z) := fun H1 e Q q => h H1 e _ fun H2 e2 => ⟨z, rfl, ha, hz, fun t H3 ht e3 hx => q (.ref t) H3 (e2.trans e3) (by
  have hn : t ∉ L := hid_not (hid_ex (e.trans e2) hL) ht
  refine .lst (SqL.of (w_of hn hx)) ?_
  unfold entV
  cases isW z
  · exact .nil
  · exact .cons (.int _) .nil)⟩
end
theorem ent_shaped (wr : List Str) : SeqAt.shaped (.list (wr.map entD)) = true := by
  have h : PyData.canLayAll0 (wr.map entD) = true ∧ PyData.depthAll (wr.map entD) ≤ 1 := by
    induction wr with
    | nil => exact ⟨rfl, by decide⟩
    | cons z r ih =>
      have hz : (entD z).canLay0 = true ∧ (entD z).depth ≤ 1 := by
        unfold entD
        cases isW z
        · exact ⟨rfl, Nat.le_refl _⟩
        · exact ⟨rfl, by show max 0 0 + 1 ≤ 1; decide⟩
      refine ⟨Bool.and_eq_true_iff.mpr ⟨hz.1, ih.1⟩, ?_⟩
      show max (entD z).depth (PyData.depthAll (r.map entD)) ≤ 1
      omega
  exact Bool.and_eq_true_iff.mpr ⟨h.1, decide_eq_true (show PyData.depthAll (wr.map entD) + 1 ≤ 64 by omega)⟩
theorem plcOf_head {rows : List Str} {p : Int} (h : plcOf rows = some p) : rows.take 1 = [placesT p] := by
  unfold plcOf at h
  split at h
  · cases h; assumption
  · split at h
    · cases h; assumption
    · split at h
      · cases h; assumption
      · cases h
theorem plc_last {p : Int} (h : 1 ≤ p ∧ p ≤ 3) : ∃ c, atI (placesT p).cps.toList (-1) = some c ∧ PySem.intText? ⟨#[c]⟩ = some p ∧ (placesT p).length ≤ 100000 := by
  have cp : p = 1 ∨ p = 2 ∨ p = 3 := by omega
  rcases cp with rfl | rfl | rfl
  · exact ⟨49, by decide +kernel⟩
  · exact ⟨50, by decide +kernel⟩
  · exact ⟨51, by decide +kernel⟩
def p3B (r : Str) : Bool := decide (r = placesT 1 ∨ r = placesT 2 ∨ r = placesT 3)
theorem inS3 (z a b c : Str) : inV (.str z) [.str a, .str b, .str c] = decide (z = a ∨ z = b ∨ z = c) := by
  show (eqV (.str a) (.str z) || (eqV (.str b) (.str z) || (eqV (.str c) (.str z) || false))) = _
  rw [eqS, eqS, eqS, Bool.or_false, ← Bool.decide_or, ← Bool.decide_or]
  exact decide_eq_decide.mpr ⟨fun h => h.imp Eq.symm fun h => h.imp Eq.symm Eq.symm, fun h => h.imp Eq.symm fun h => h.imp Eq.symm Eq.symm⟩
theorem plc_txt : placesT 1 = ("places 1" : Str) ∧ placesT 2 = ("places 2" : Str) ∧ placesT 3 = ("places 3" : Str) := by decide +kernel
section
variable {K : PySem.W.Frag} {σ : L2.St} {H : Hp} {te : TE} {a : Addr} {xs : List V} {p : Int}
theorem ev_plc (h : Evl.Ev te σ H (.ref a)) (hx : SqL K H a xs) (h0 : xs[0]? = some (.str (placesT p))) (hp : 1 ≤ p ∧ p ≤ 3) : Evl.Ev (tCB (fun xs H Q => ∃ a n, xs = [V.str a] ∧ PySem.intText? a = some n ∧ a.length ≤ 640 ∧ Q (V.int n) H) (tCons (tOp rIxS (tOp (rIxL K) te (tC (.int 0))) (tUn (rU fun i => V.int (-i)) (tC (.int 1)))) tNil)) σ H (.int p) := by
  obtain ⟨c, h1, h2, h3⟩ := plc_last hp
  have e : Evl.Ev (tOp rIxS (tOp (rIxL K) te (tC (.int 0))) (tUn (rU fun i => V.int (-i)) (tC (.int 1)))) σ H (.str ⟨#[c]⟩) := Evl.ev_op (x := .str (placesT p)) (y := .int (-1)) (Evl.ev_op h Evl.ev_c (Evl.rv_ixL hx (atI_nat (j := 0) h0))) (Evl.ev_is (Evl.ev_un (x := .int 1) Evl.ev_c Evl.ru_neg) rfl) (Evl.rv_ixS h3 h1)
  exact fun H1 e1 Q q => e H1 e1 _ fun H2 e2 => ⟨⟨#[c]⟩, p, rfl, h2, by show 1 ≤ 640; decide, q H2 e2⟩
end
section
variable {K : PySem.W.Frag} {σ : L2.St} {H : Hp}
theorem tup2T_run {t1 t2 : TE} {Q : List V → Hp → Prop} {xs : List V} {v : V} (h1 : Evl.EvL t1 σ H xs) (h2 : ∀ H1, Ex H H1 → Evl.Ev t2 σ H1 v) (k : ∀ c H1 t, H c = none → Ex H H1 → H1 c = some (.tup xs) → H1 t = none → Q [.ref t] (upd H1 t (.tup [.ref c, v]))) :
    tCons (tTup (tCons (tCB (fun xs H Q => ∃ p ys, xs = [.ref p] ∧ ((SqL K H p ys ∧ ∀ l, H l = none → Q (.ref l) (upd H l (.tup ys))) ∨ (SqT K H p ys ∧ Q (.ref p) H))) (tCons t1 tNil)) (tCons t2 tNil))) tNil σ H Q := h1 H (Ex.refl _) _ fun c0 H1 hc0 e1 hx => ⟨c0, xs, rfl, .inl ⟨SqL.of hx, fun c hc => h2 (upd H1 c (.tup xs)) (e1.trans (Ex.new hc)) _ (Ex.refl _) _ fun H2 e2 => ⟨by show 2 ≤ sizeLine; decide, fun t ht => k c H2 t (Evl.fresh_back e1 hc) ((e1.trans (Ex.new hc)).trans e2) (e2 _ _ upd_same) ht⟩⟩⟩
end
section
variable {P : Program} {w : World} {K : PySem.W.Frag} {mg : Str → Option Value} {base : Heap} {C BL : Addr}
def spReadL (K : PySem.W.Frag) : Sp := fun vs H Q _ => ∃ (z : Str) (rows : List Str) (rest : Str), vs = [.str z] ∧ Ascii z ∧ z.length ≤ 10000 ∧ Txt.split z "\n" = rows ++ [rest] ∧ ∀ v H', Ex H H' → Dp K H' v (dataR (readL rows rest)) → Q v H'
theorem ok_readL {f : Addr} {fd : FuncData} (F : Fun K "_law_read" "_law_read" s_read f fd) (T : TxE mg) (D_entry : DefAt P w K mg base "_law_entry" 1 ["_law_word"] (spEntry K)) : FnOk P w K mg base CX0 3 f fd ["_law_text"] (spReadL K) := by
  refine F.ok sc_read (fun vs H Q E h => ?_) (fun cdv A outer s H vs Q E hr h => ?_)
  · obtain ⟨_, _, _, rfl, _⟩ := h
    rfl
  · obtain ⟨z, rows, rest, rfl, hz, hl, hsp, k⟩ := h
    refine ⟨_, (pss_cons (ps_par (i := 1) (j := 2) (by rfl) sc_read.nd rfl rfl (by decide) rfl rfl (pa_cons (pe_m1 PySem.F.slot_str_split PySem.F.type_str_split mt_split (pv 0) pe_str) (pa_cons (pe_lst pa_nil) pa_nil)) (by rfl))
    (pss_cons (ps_for PassesOwn.never rfl (pi_enumA (by rfl) T.m_enumerate (pa_cons (pe_slice sl_list (pv 1) po_none (po_some (pe_un un_neg pe_int))) pa_nil)) (pg_tup (by rfl) (pgs_cons (pg_name (i := 3) sc_read.nd rfl (by first | exact Or.inl rfl | exact Or.inr rfl)) (pgs_cons (pg_name (i := 4) sc_read.nd rfl (by first | exact Or.inl rfl | exact Or.inr rfl)) pgs_nil)))
      (pss_cons (ps_set (i := 5) sc_read.nd rfl (by first | exact Or.inl rfl | exact Or.inr rfl) (pe_m1 PySem.F.slot_str_split PySem.F.type_str_split mt_split (pv 4) pe_str))
      (pss_cons (ps_if (PW.pt (pw_and (pt_cmpR op_eq (pv 3) pe_int (nomark _)) (pw_and1 (pt_cmpR op_notIn_seq (pv 4) (pe_tup (pa_cons pe_str (pa_cons pe_str (pa_cons pe_str pa_nil)))) (by rfl))))) (pss_one (ps_ret pe_int)) pss_nil)
      (pss_one (ps_if (pt_cmpR op_gt (pv 3) pe_int (nomark _)) (pss_cons (ps_setLc (i := 6) (own := [("_law_word", 7)]) (g := gName 7) (tt := tYes) (by rfl) sc_read.nd rfl rfl (sw_true rfl rfl rfl (by decide +kernel)) (pi_list (pe_slice sl_list (pv 5) (po_some pe_int) po_none)) (blkOk_by (N := sc_read_N) (sc := defScope s_read) (by decide +kernel)) (fun _ _ _ _ _ => (pg_name (i := 7) sc_read.nd rfl (by first | exact Or.inl rfl | exact Or.inr rfl))) (fun _ _ _ _ _ => pts_nil) (fun _ _ _ _ _ => (pe_callD D_entry (by first | exact hr | exact hr.mono (by decide) | exact hr.mono (by omega)) (by rfl) (pa_cons (pv 7) pa_nil))))
        (pss_cons (ps_if (PW.pt (pw_or (pt_cmpR op_notIn_seq (pe_ix ix_list (pv 5) pe_int (fun _ _ => rfl)) (pe_tup (pa_cons pe_str (pa_cons pe_str pa_nil))) (by rfl)) (pw_or (pt_cmpR op_ne (pe_callB call_len_seq (by rfl) T.m_len (by decide +kernel) (pa_cons (pv 6) pa_nil)) (pe_callTy call_int_str (by rfl) T.m_int (by decide +kernel) (pa_cons (pe_ix ix_str (pe_ix ix_list (pv 1) pe_int (fun _ _ => rfl)) (pe_un un_neg pe_int) (fun _ _ => rfl)) pa_nil)) (nomark _)) (pw_or1 (pt_cmpR (op_inD (show (A.deeper _).units + 65 < cLine by have := hr.un; omega)) (pe_lst pa_nil) (pv 6) (by rfl)))))) (pss_one (ps_ret (pe_op op_add (pv 3) pe_int))) pss_nil)
        (pss_one (ps_expr (pe_bm PySem.F.plainAttrs_list PySem.F.slot_list_append PySem.F.type_list_append mt_append (pv 2) (pa_cons (pe_tup (pa_cons (pe_callTy call_tuple_of (by rfl) T.m_tuple (by decide +kernel) (pa_cons (pe_lc (own := [("_law_entry_here", 8)]) (g := gName 8) (tt := tYes) (by rfl) sc_read.nd (pi_list (pv 6)) (blkOk_by (N := sc_read_N) (sc := defScope s_read) (by decide +kernel)) (fun _ _ _ _ _ => (pg_name (i := 8) sc_read.nd rfl (by first | exact Or.inl rfl | exact Or.inr rfl))) (fun _ _ _ _ _ => pts_nil) (fun _ _ _ _ _ => (pe_ix (r := rIxL K) ix_list (pv 8) pe_int (fun _ _ => rfl)))) pa_nil)) (pa_cons (pe_cmpR op_eq (pe_ix ix_list (pv 5) pe_int (fun _ _ => rfl)) pe_str (nomark _)) pa_nil))) pa_nil)))))) pss_nil)))))
    (pss_one (ps_ret (pe_ifExp (PW.pt (pw_or (pt_cmpR op_ne (pe_ix ix_list (pv 1) (pe_un un_neg pe_int) (fun _ _ => rfl)) pe_str (nomark _)) (pw_or1 (pt_cmpR op_eq (pe_callB call_len_seq (by rfl) T.m_len (by decide +kernel) (pa_cons (pv 1) pa_nil)) pe_int (nomark _))))) (pe_callB call_len_seq (by rfl) T.m_len (by decide +kernel) (pa_cons (pv 1) pa_nil)) (pe_tup (pa_cons (pe_callTy call_int_str (by rfl) T.m_int (by decide +kernel) (pa_cons (pe_ix ix_str (pe_ix ix_list (pv 1) pe_int (fun _ _ => rfl)) (pe_un un_neg pe_int) (fun _ _ => rfl)) pa_nil)) (pa_cons (pv 2) pa_nil)))))))), ?_⟩
    have hlz := parts_many (x := z) (y := "\n") (by decide +kernel)
    rw [hsp, List.length_append, List.length_singleton] at hlz
    have hin : ∀ r ∈ rows ++ [rest], r ∈ Txt.split z "\n" := fun r hr => by rw [hsp]; exact hr
    have hasc : ∀ r ∈ rows, Ascii r ∧ r.length ≤ 10000 := fun r hr => ⟨part_ascii hz (hin r (List.mem_append_left _ hr)), Nat.le_trans (part_len (hin r (List.mem_append_left _ hr))) hl⟩
    refine ⟨_, rfl, ⟨_, rfl⟩, _, _, rfl, rfl, by decide +kernel, by rw [sizeLine_eq]; omega, fun a ha => ?_⟩
    have e1 := Ex.new (o := .lst ((Txt.split z "\n").map V.str)) ha
    have h1a : upd H a (.lst ((Txt.split z "\n").map V.str)) a = some (.lst (rows.map V.str ++ [.str rest])) := by
      rw [upd_same, hsp, List.map_append]
      rfl
    generalize upd H a (.lst ((Txt.split z "\n").map V.str)) = H1 at e1 h1a ⊢
    refine ⟨by show 0 ≤ sizeLine; decide, fun G hG => ?_⟩
    have e2 := e1.trans (Ex.new (o := .lst []) hG)
    have hGx : upd H1 G (.lst []) G = some (.lst []) := upd_same
    have haG : a ≠ G := fun h => by rw [h, hG] at h1a; cases h1a
    have h2a : upd H1 G (.lst []) a = some (.lst (rows.map V.str ++ [.str rest])) := by rw [upd_ne haG]; exact h1a
    have hG0 : H G = none := Evl.fresh_back e1 hG
    generalize upd H1 G (.lst []) = H2 at e2 hGx h2a ⊢
    refine ⟨_, _, rfl, ?_⟩
    have hlx : SqL K H2 a (rows.map V.str ++ [.str rest]) := SqL.of h2a
    refine Evl.el_sl (xs := rows.map V.str ++ [.str rest]) (Evl.ev_var (v := .ref a) rfl) Evl.eo_none (Evl.eo_some (Evl.ev_is (Evl.ev_un (x := .int 1) Evl.ev_c Evl.ru_neg) rfl)) hlx H2 (Ex.refl _) _ fun B H3 hB e3 hBx => ?_
    rw [show (-(1 : Int)) = -1 from rfl, cut_last] at hBx
    refine ⟨B, rows.map V.str, rfl, .inl ⟨SqL.of hBx, ?_⟩⟩
    have h3a := e3 _ _ h2a
    have h3G := e3 _ _ hGx
    have e03 := e2.trans e3
    have hBG : B ≠ G := fun h => by rw [h, hGx] at hB; cases hB
    let mk : Str → PyData := fun r => rowD (rowOf r).1 (rowOf r).2
    have hid0 : ∀ H : Hp, Hid [] H := fun H a m => nomatch m
    have hwa : ∀ r ∈ rows, ∀ y ∈ wordsOf r, Ascii y ∧ y.length ≤ 100000 := fun r hr y hy => ⟨part_ascii (hasc r hr).1 hy, Nat.le_trans (part_len hy) (by have := (hasc r hr).2; omega)⟩
    have back : ∀ {H4 H5}, ExB G H3 H4 → Ex H4 H5 → Ex H H5 := fun b4 e5 c o h => e5 c o (b4 c o (ne_of_none h hG0) (e03 c o h))
    have hrn : (rows.map V.str).length = rows.length := List.length_map ..
    refine for_it (walk_enum (xs := rows.map V.str)) (fun i σ' H' => ExB G H3 H' ∧ Gr K [] H' G (((rows.take i).drop 1).map mk) ∧ (0 < i → ∃ p, plcOf rows = some p ∧ ∀ q ∈ (rows.take i).drop 1, exB (wordsOf q) p = true) ∧ ∃ o3 o4 o5 o6 o7 o8, σ' = [some (.str z), some (.ref a), some (.ref G), o3, o4, o5, o6, o7, o8]) ⟨ExB.refl _ _, ⟨(fun h => nomatch h), [], h3G, .nil⟩, (fun h => absurd h (Nat.lt_irrefl 0)), _, _, _, _, _, _, rfl⟩ (fun i σ' H' _ pv => SqL.of (pv.1 _ _ hBG hBx)) ?_ ?_
    · rintro i X σ' H4 H5 hi ⟨b4, g4, hg, o3, o4, o5, o6, o7, o8, rfl⟩ ⟨T0, u, w', rfl, hT, rfl, hu, hw'⟩
      obtain rfl := Option.some.inj hu
      have hw' : (rows.map V.str)[i]? = some w' := hw'
      rw [List.getElem?_map] at hw'
      obtain ⟨r, hr, rfl⟩ := Option.map_eq_some_iff.mp hw'
      have hrm := List.mem_of_getElem? hr
      have hi' : i < rows.length := (List.getElem?_eq_some_iff.mp hr).1
      refine ⟨T0, [_, .str r], rfl, SqT.of upd_same, rfl, _, [.str r], rfl, .str r, [], rfl, rfl, ?_⟩
      have e5 := Ex.new (o := .tup [V.int (i : Nat), .str r]) hT
      generalize upd H4 T0 (.tup [V.int (i : Nat), .str r]) = H5 at e5 ⊢
      refine ⟨_, rfl, ⟨_, rfl⟩, _, _, rfl, rfl, by decide +kernel, by rw [sizeLine_eq]; have := (hasc r hrm).2; omega, fun Wd hWd => ?_⟩
      have e6 := e5.trans (Ex.new (o := .lst ((Txt.split r " ").map V.str)) hWd)
      have hWx : upd H5 Wd (.lst ((Txt.split r " ").map V.str)) Wd = some (.lst ((wordsOf r).map V.str)) := upd_same
      generalize upd H5 Wd (.lst ((Txt.split r " ").map V.str)) = H6 at e6 hWx ⊢
      dsimp only [gName, List.set]
      cases i with
      | zero =>
        have htk : rows.take 1 = [r] := by
          cases rows with
          | nil => cases hr
          | cons x xs => rw [Option.some.inj hr]; rfl
        refine Evl.q_when (b := !p3B r) (Evl.et_is (Evl.et_and (a := true) (b := !p3B r) (Evl.et_is (Evl.et_test (Evl.ev_op (Evl.ev_var (v := .int ((0 : Nat) : Int)) rfl) Evl.ev_c (Evl.rv_eq rfl))) (decide_eq_true rfl)) fun _ => Evl.et_is (Evl.et_test (Evl.ev_niU (x := .str r) (Evl.ev_var rfl) (Evl.eu_tup (Evl.ea_cons Evl.ev_c (Evl.ea_cons Evl.ev_c (Evl.ea_cons Evl.ev_c Evl.ea_nil))) (by show 3 ≤ 100000; omega)) rfl rfl)) ?_) (Bool.true_and _)) (fun hb H7 e7 => ?_) (fun hb H7 e7 => ?_)
        · rw [inS3]
          unfold p3B
          rw [plc_txt.1, plc_txt.2.1, plc_txt.2.2]
        · have hb : ¬ (r = placesT 1 ∨ r = placesT 2 ∨ r = placesT 3) := of_decide_eq_false (by simpa [p3B] using hb)
          have hk : plcOf rows = none := by
            unfold plcOf
            rw [htk, if_neg (fun h => hb (.inl (List.singleton_inj.mp h))), if_neg (fun h => hb (.inr (.inl (List.singleton_inj.mp h)))), if_neg (fun h => hb (.inr (.inr (List.singleton_inj.mp h))))]
          exact Evl.s_ret (v := .int 1) Evl.ev_c fun H8 e8 => k _ H8 (back b4 ((e6.trans e7).trans e8)) (by unfold readL; rw [hk]; exact .int 1)
        · have hb : r = placesT 1 ∨ r = placesT 2 ∨ r = placesT 3 := of_decide_eq_true (show p3B r = true by simpa using hb)
          have hk : ∃ p, plcOf rows = some p := by
            unfold plcOf
            rw [htk]
            rcases hb with rfl | rfl | rfl
            · exact ⟨_, if_pos rfl⟩
            · exact ⟨2, by decide +kernel⟩
            · exact ⟨3, by decide +kernel⟩
          obtain ⟨p, hk⟩ := hk
          refine Evl.s_when (b := false) (Evl.et_is (Evl.et_test (Evl.ev_op (Evl.ev_var (v := .int ((0 : Nat) : Int)) rfl) Evl.ev_c (Evl.rv_I0 (g := fun i j => .bl (decide (j < i)))))) (by decide)) (fun z => nomatch z) (fun _ H8 e8 => ?_)
          have e48 := (e6.trans e7).trans e8
          refine ⟨b4.trans (ExB.of e48), ?_, fun _ => ⟨p, hk, fun q hq => ?_⟩, _, _, _, _, _, _, rfl⟩
          · have : ((rows.take (0 + 1)).drop 1) = [] := by rw [Nat.zero_add, htk]; rfl
            rw [this]
            exact g4.up e48
          · have : ((rows.take (0 + 1)).drop 1) = [] := by rw [Nat.zero_add, htk]; rfl
            rw [this] at hq
            nomatch hq
      | succ j =>
        obtain ⟨p, hp, hall⟩ := hg (Nat.succ_pos j)
        have P1 := plcOf_in hp
        refine Evl.q_when (b := false) (Evl.et_is (Evl.et_and (a := false) (b := false) (Evl.et_is (Evl.et_test (Evl.ev_op (Evl.ev_var (v := .int ((j + 1 : Nat) : Int)) rfl) Evl.ev_c (Evl.rv_eq rfl))) (decide_eq_false (fun h => by injection h with h; omega))) fun z => nomatch z) rfl) (fun z => nomatch z) (fun _ H7 e7 => ?_)
        refine Evl.s_when (b := true) (Evl.et_is (Evl.et_test (Evl.ev_op (Evl.ev_var (v := .int ((j + 1 : Nat) : Int)) rfl) Evl.ev_c (Evl.rv_I0 (g := fun i j => .bl (decide (j < i)))))) (decide_eq_true (by omega))) (fun _ H8 e8 => ?_) (fun z => nomatch z)
        have hwn : wordsOf r ≠ [] := parts_ne r " " (by decide +kernel) (by decide +kernel)
        have hwl : (wordsOf r).length ≤ 10001 := by
          have := parts_many (x := r) (y := " ") (by decide +kernel)
          have := (hasc r hrm).2
          show (Txt.split r " ").length ≤ _
          omega
        obtain ⟨z0, wr, hz0⟩ : ∃ z0 wr, wordsOf r = z0 :: wr := by
          cases h : wordsOf r with
          | nil => exact absurd h hwn
          | cons z0 wr => exact ⟨z0, wr, rfl⟩
        have hwrl : wr.length ≤ 10000 := by rw [hz0, List.length_cons] at hwl; omega
        have hwr : ∀ y ∈ wr, Ascii y ∧ y.length ≤ 100000 := fun y hy => hwa r hrm y (by rw [hz0]; exact List.mem_cons_of_mem _ hy)
        have hdw : ((wordsOf r).map V.str).drop 1 = wr.map V.str := by rw [hz0]; rfl
        have hW8 := (e7.trans e8) _ _ hWx
        have e48 := (e6.trans e7).trans e8
        have src : Evl.EvL (tSl (rSlL K) (tVar 5) (tPart (tC (.int 1))) tNoPart) [some (.str z), some (.ref a), some (.ref G), some (.int ((j + 1 : Nat) : Int)), some (.str r), some (.ref Wd), o6, o7, o8] H8 (wr.map V.str) := by
          rw [← hdw]
          exact el_from (n := 1) (Evl.ev_var (v := .ref Wd) rfl) (SqL.of hW8) Evl.ev_c
        refine q_asgG (eg_strs (K := K) (L := []) (j := 7) (vs := [7]) (te := tCallD (spEntry K) (tCons (tVar 7) tNil)) (g := entD) src (hid0 _) (by omega) (fun _ => rfl) (fun L' y H9 hy hL' e9 => evd_entry hL' (Evl.ev_var rfl) (hwr y hy).1 (hwr y hy).2)) fun E6 H9 hE e9 gE => ?_
        obtain ⟨_, x6, h6, d6⟩ := id gE
        have l6 := dpa_len d6
        rw [List.length_map] at l6
        have hW9 := e9 _ _ hW8
        have haH : ∀ {H'}, ExB G H3 H' → H' a = some (.lst (rows.map V.str ++ [.str rest])) := fun b => b _ _ haG h3a
        have ha9 := e9 _ _ (e48 _ _ (haH b4))
        have hx0 : (rows.map V.str ++ [.str rest])[0]? = some (.str (placesT p)) := by
          have := plcOf_head hp
          cases rows with
          | nil => cases this
          | cons x xs => rw [show x = placesT p from (List.cons.inj this).1]; rfl
        dsimp only [gName, List.set]
        have t1 : ∀ H', Ex H9 H' → Evl.EvT (tTest (tOp (rIn K true) (tOp (rIxL K) (tVar 5) (tC (.int 0))) (tTup (tCons (tC (.str "yes")) (tCons (tC (.str "no")) tNil))))) [some (.str z), some (.ref a), some (.ref G), some (.int ((j + 1 : Nat) : Int)), some (.str r), some (.ref Wd), some (.ref E6), o7, o8] H' (!decide (z0 = "yes" ∨ z0 = "no")) := fun H' e' => Evl.et_is (Evl.et_test (Evl.ev_niU (x := .str z0) (Evl.ev_op (Evl.ev_var (v := .ref Wd) rfl) Evl.ev_c (Evl.rv_ixL (SqL.of (e' _ _ hW9)) (atI_nat (j := 0) (by rw [hz0]; rfl)))) (Evl.eu_tup (Evl.ea_cons Evl.ev_c (Evl.ea_cons Evl.ev_c Evl.ea_nil)) (by show 2 ≤ 100000; omega)) rfl rfl)) (by rw [inS2])
        have t3 : Evl.Ev (tOp (rInD K) (tLst tNil) (tVar 6)) [some (.str z), some (.ref a), some (.ref G), some (.int ((j + 1 : Nat) : Int)), some (.str r), some (.ref Wd), some (.ref E6), o7, o8] H9 (.bl (wr.any fun z => !isW z)) := fun H1 e1 Q q => ⟨by show 0 ≤ sizeLine; decide, fun t ht => ⟨_, rfl, .list [], wr.map entD, .lst (SqL.of upd_same) .nil, ((gE.up e1).dp.up w_sub).up (Ex.new ht), rfl, ent_shaped wr, by rw [ent_any]; exact q _ (Ex.new ht)⟩⟩
        refine Evl.q_when (b := !exB (wordsOf r) p) (Evl.et_is (Evl.et_or (t1 H9 (Ex.refl _)) fun _ => Evl.et_or (a := !decide ((wr.length : Int) = p)) (b := wr.any fun z => !isW z) (Evl.et_is (Evl.et_test (Evl.ev_op (x := .int (x6.length : Int)) (y := .int p) (ev_lenS (xs := x6) (Evl.ev_var (v := .ref E6) rfl) (.inl (SqL.of h6))) (ev_plc (Evl.ev_var (v := .ref a) rfl) (SqL.of ha9) hx0 P1) (Evl.rv_ne rfl))) (by rw [l6]; congr 1; exact decide_eq_decide.mpr ⟨fun h => by injection h, fun h => by rw [h]⟩)) fun _ => Evl.et_test t3) (by rw [hz0]; exact bad_exB z0 wr p)) (fun hb HA eA => ?_) (fun hb HA eA => ?_)
        · have hb : exB (wordsOf r) p = false := by simpa using hb
          have hrj : (rows.drop 1)[j]? = some r := by rw [List.getElem?_drop, Nat.add_comm]; exact hr
          have hf : firstBad p (rows.drop 1) 2 = some (2 + (j : Int)) := firstBad_at (fun q hq => hall q (by rw [List.drop_take]; exact hq)) hrj hb
          refine Evl.s_ret (v := .int (((j + 1 : Nat) : Int) + 1)) (Evl.ev_op (Evl.ev_var (v := .int ((j + 1 : Nat) : Int)) rfl) Evl.ev_c (Evl.rv_I0 (g := fun i j => .int (i + j)))) fun HB eB => k _ HB (back b4 (((e48.trans e9).trans eA).trans eB)) ?_
          unfold readL
          rw [hp]
          dsimp only
          rw [hf]
          show Dp K HB _ (.int (2 + (j : Int)))
          rw [show (((j + 1 : Nat) : Int) + 1) = 2 + (j : Int) by omega]
          exact .int _
        · have hb : exB (wordsOf r) p = true := by simpa using hb
          obtain ⟨gl, gi⟩ := good_row (fun y hy => (hwa r hrm y hy).1) hb P1
          have hd1 : (wordsOf r).drop 1 = wr := by rw [hz0]; rfl
          rw [hd1] at gi
          have hro : (rowOf r).1 = wr.map intOf := by show ((wordsOf r).drop 1).map intOf = _; rw [hd1]
          have hro2 : decide (V.str z0 = V.str "yes") = (rowOf r).2 := by
            show _ = decide ((wordsOf r)[0]? = some ("yes" : Str))
            rw [hz0]
            exact decide_eq_decide.mpr ⟨fun h => by injection h with h; rw [h]; rfl, fun h => by have h : some z0 = some ("yes" : Str) := h; rw [Option.some.inj h]⟩
          have allW : ∀ y ∈ wr, isW y = true := by
            unfold exB at hb
            rw [hd1] at hb
            obtain ⟨_, hb⟩ := Bool.and_eq_true_iff.mp hb
            exact List.all_eq_true.mp (Bool.and_eq_true_iff.mp hb).2
          have eA4 := (e48.trans e9).trans eA
          have gA := g4.up eA4
          obtain ⟨_, xs, hxA, hxsA⟩ := id gA
          have hxl := dpa_len hxsA
          refine ⟨_, rfl, Or.inl ⟨rfl, xs, SqL.of hxA⟩, ?_⟩
          have h6A := eA _ _ h6
          have comp : Evl.EvL (tLc (iList K (tVar 6)) (gName 8) tYes (tOp (rIxL K) (tVar 8) (tC (.int 0))) [8]) [some (.str z), some (.ref a), some (.ref G), some (.int ((j + 1 : Nat) : Int)), some (.str r), some (.ref Wd), some (.ref E6), o7, o8] HA ((rowOf r).1.map V.int) := by
            have gv : Evl.given x6.length (fun _ => true) (fun j => V.int (intOf (wr.getD j ""))) = (rowOf r).1.map V.int := by
              rw [given_all, l6, hro]
              refine List.ext_getElem? fun j => ?_
              rw [List.map_map, List.getElem?_map, List.getElem?_map]
              by_cases hj : j < wr.length
              · rw [List.getElem?_range hj, List.getElem?_eq_getElem hj]
                simp [List.getD_eq_getElem?_getD, List.getElem?_eq_getElem hj]
              · rw [List.getElem?_eq_none (by rw [List.length_range]; omega), List.getElem?_eq_none (by omega)]
                rfl
            rw [← gv]
            refine Evl.el_lcL (fun _ => true) (fun j => V.int (intOf (wr.getD j ""))) (Evl.ev_var (v := .ref E6) rfl) (SqL.of h6A) (by omega) (fun _ => rfl) (fun i z H1 e1 hz H2 e2 Q q => q H2 (Ex.refl _)) (fun j x H1 e1 hx _ => ?_)
            obtain ⟨d, hd1, hd2⟩ := dpa_get d6 hx
            rw [List.getElem?_map] at hd1
            obtain ⟨y, hy, rfl⟩ := Option.map_eq_some_iff.mp hd1
            have ey : entD y = .list [.int (intOf y)] := by unfold entD; rw [if_pos (allW y (List.mem_of_getElem? hy))]
            rw [ey] at hd2
            have eg : wr.getD j "" = y := by rw [List.getD_eq_getElem?_getD, hy]; rfl
            rw [eg]
            have hd3 := ((hd2.up w_sub).up eA).up e1
            cases hd3 with
            | @lst t ys _ hs ha =>
              cases ha with
              | @cons v1 vs _ _ r1 rr =>
                cases r1
                cases rr
                exact Evl.ev_op (Evl.ev_var rfl) Evl.ev_c (Evl.rv_ixL hs (atI_nat (j := 0) rfl))
          refine tup2T_run (v := .bl (rowOf r).2) comp (fun HB eB => Evl.ev_is (Evl.ev_op (Evl.ev_op (Evl.ev_var (v := .ref Wd) rfl) Evl.ev_c (Evl.rv_ixL (v := .str z0) (SqL.of (eB _ _ (eA _ _ hW9))) (atI_nat (j := 0) (by rw [hz0]; rfl)))) Evl.ev_c (Evl.rv_eq rfl)) (congrArg V.bl hro2)) fun c HB t hc eB hcx ht => ?_
          have eBt := eB.trans (Ex.new (o := .tup [.ref c, .bl (rowOf r).2]) ht)
          have hxG := eBt _ _ hxA
          have htk : ((rows.take (j + 1 + 1)).drop 1) = ((rows.take (j + 1)).drop 1) ++ [r] := by
            rw [List.take_succ (i := j + 1), hr, List.drop_append_of_le_length (by rw [List.length_take]; omega)]
            rfl
          refine ⟨G, xs, .ref t, rfl, rfl, hxG, by rw [hxl, List.length_map, List.length_drop, List.length_take, sizeLine_eq]; omega, ?_⟩
          have hcG : c ≠ G := fun h => by rw [h, hxA] at hc; cases hc
          have htG : t ≠ G := fun h => by rw [h, eB _ _ hxA] at ht; cases ht
          refine ⟨fun b o hb hbo => ?_, ?_, fun _ => ⟨p, hp, fun q hq => ?_⟩, _, _, _, _, _, _, rfl⟩
          · rw [upd_ne hb]
            exact eBt b o (eA4 b o (b4 b o hb hbo))
          · rw [htk, List.map_append]
            refine gr_app (fun h => nomatch h) hxG (hxsA.up (w_ex eBt)) (.tup (SqT.of (w_of (by simp [htG]) upd_same)) (.cons (.tup (SqT.of (w_of (by simp [hcG]) (Ex.new ht _ _ hcx))) (dpa_ints _)) (.cons (.bl _) .nil)))
          · rw [htk] at hq
            rcases List.mem_append.mp hq with hq | hq
            · exact hall q hq
            · rw [List.mem_singleton.mp hq]
              exact hb
    · rintro σ' H4 ⟨b4, g4, hg, o3, o4, o5, o6, o7, o8, rfl⟩
      rw [hrn, List.take_of_length_le (Nat.le_refl _)] at g4 hg
      have ha4 : H4 a = some (.lst (rows.map V.str ++ [.str rest])) := b4 _ _ haG h3a
      have ln : ∀ H', Ex H4 H' → Evl.Ev (tCB (fun xs H Q => ∃ p ys, xs = [V.ref p] ∧ (SqL K H p ys ∨ SqT K H p ys) ∧ Q (.int ys.length) H) (tCons (tVar 1) tNil)) [some (.str z), some (.ref a), some (.ref G), o3, o4, o5, o6, o7, o8] H' (.int ((rows.length : Int) + 1)) := fun H' e' => Evl.ev_is (ev_lenS (xs := rows.map V.str ++ [.str rest]) (Evl.ev_var (v := .ref a) rfl) (.inl (SqL.of (e' _ _ ha4)))) (congrArg V.int (by rw [List.length_append, List.length_map, List.length_singleton]; omega))
      refine ret_if (b := decide (rest ≠ "") || decide ((rows.length : Int) + 1 = 1)) (Evl.et_or (Evl.et_is (Evl.et_test (Evl.ev_op (x := .str rest) (y := .str "") (Evl.ev_op (Evl.ev_var (v := .ref a) rfl) (Evl.ev_is (Evl.ev_un (x := .int 1) Evl.ev_c Evl.ru_neg) rfl) (Evl.rv_ixL (i := -1) (SqL.of ha4) atI_last)) Evl.ev_c (Evl.rv_ne rfl))) ?_) fun _ => Evl.et_is (Evl.et_test (Evl.ev_op (ln H4 (Ex.refl _)) Evl.ev_c (Evl.rv_eq rfl))) (decide_eq_decide.mpr ⟨fun h => by injection h, fun h => by rw [h]⟩)) (fun hb H5 e5 => ?_) (fun hb H5 e5 => ?_)
      · by_cases hz : rest = ""
        · simp [hz]
        · have : ¬ V.str rest = V.str "" := fun h => hz (by injection h)
          simp [hz, this]
      · refine ln H5 e5 H5 (Ex.refl _) _ fun H6 e6 => k _ H6 (back b4 (e5.trans e6)) ?_
        cases rows with
        | nil => exact .int _
        | cons r0 rs =>
          obtain ⟨p, hp, hall⟩ := hg (Nat.succ_pos _)
          have hr : rest ≠ "" := by
            rcases Bool.or_eq_true_iff.mp hb with h | h
            · exact of_decide_eq_true h
            · have h := of_decide_eq_true h
              rw [List.length_cons] at h
              omega
          unfold readL
          rw [hp]
          dsimp only
          rw [firstBad_none hall, if_neg hr]
          exact .int _
      · obtain ⟨h1, h2⟩ := Bool.or_eq_false_iff.mp hb
        have hr : rest = "" := Decidable.not_not.mp (of_decide_eq_false h1)
        have h2 := of_decide_eq_false h2
        obtain ⟨p, hp, hall⟩ := hg (by omega)
        have hx0 : (rows.map V.str ++ [.str rest])[0]? = some (.str (placesT p)) := by
          have := plcOf_head hp
          cases rows with
          | nil => cases this
          | cons x xs => rw [show x = placesT p from (List.cons.inj this).1]; rfl
        refine evd_tup (K := K) (L := []) (ds := [.int p, .list ((rows.drop 1).map mk)]) (hid0 _) (evds_cons (evd_of (ev_plc (Evl.ev_var (v := .ref a) rfl) (SqL.of (e5 _ _ ha4)) hx0 (plcOf_in hp)) (.int p)) (evds_cons (evd_of (Evl.ev_var (v := .ref G) rfl) (g4.up e5).dp) evds_nil)) (by show 2 ≤ 100000; omega) H5 (Ex.refl _) _ fun v H6 e6 hv => k v H6 (back b4 (e5.trans e6)) ?_
        unfold readL
        rw [hp]
        dsimp only
        rw [firstBad_none hall, if_pos hr]
        have hv := hv.up w_sub
        show Dp K H6 v (.tuple [.int p, .list (((rows.drop 1).map rowOf).map fun r => rowD r.1 r.2)])
        rw [List.map_map]
        exact hv
end
end U

set_option Elab.async false
set_option linter.all false
set_option maxRecDepth 100000
set_option maxHeartbeats 4000000
/-! list(a text), a text times a number -/
namespace U
open PySem PySem.Spec PyProof.Rows L2
open Evl (Ex)
theorem vals_of_get : ∀ {xs : List V} {us : List Value}, xs.length = us.length → (∀ (i : Nat) x u, xs[i]? = some x → us[i]? = some u → RelV x u) → Vals xs us
  | [], [], _, _ => .nil
  | x :: xs, u :: us, h, g => .cons (g 0 x u rfl rfl) (vals_of_get (by simpa using h) fun i x u h1 h2 => g (i + 1) x u (by simpa using h1) (by simpa using h2))
  | [], _ :: _, h, _ => absurd h (by simp)
  | _ :: _, [], h, _ => absurd h (by simp)
def signsV (z : Str) : List V := z.cps.toList.map fun c => V.str ⟨#[c]⟩
section
variable {X : Cx}
theorem call_list_strV (hc : X.calm = true) : CallR X (.type "list") (fun xs H Q => ∃ z, xs = [.str z] ∧ z.length ≤ sizeLine ∧ ∀ l, H l = none → Q (.ref l) (upd H l (.lst (signsV z)))) := by
  intro pins s σ H xs us Q I r h
  obtain ⟨z, rfl, hz, q⟩ := h
  obtain ⟨u, rfl, t, rfl⟩ := vals1 r
  have hzl : z.cps.size ≤ sizeLine := hz
  refine call_list_str (I.ok.hd hc) z t (fun h' tk acc' c' kp e hit => ?_) hzl
  have r' : Vals (signsV z) acc'.toList := vals_of_get (by unfold signsV; rw [List.length_map, Array.length_toList, Array.length_toList]; exact hit.1.symm) fun i x u hx hu => by
    unfold signsV at hx
    rw [List.getElem?_map] at hx
    obtain ⟨c, hc, rfl⟩ := Option.map_eq_some_iff.mp hx
    obtain ⟨c2, t2, h1, rfl⟩ := hit.2 i u (by rw [← Array.getElem?_toList]; exact hu)
    rw [Array.getElem?_toList, h1] at hc
    rw [Option.some.inj hc]
    exact ⟨t2, rfl⟩
  exact ⟨.ref s.heap.objs.size, _, I.laid (t' := tk) kp (Nat.le_refl _) (show ObjOk X.prog X.w _ h' _ (.lst (signsV z)) from ⟨by unfold signsV; rw [List.length_map, Array.length_toList]; exact hzl, acc'.toList, c', r', e⟩), rfl, q _ (I.hok.fresh (Nat.le_refl _))⟩
theorem op_mul_str : OpR X (binaryOp .Mult) (fun x y H Q => ∃ z k, x = .str z ∧ y = .int k ∧ 0 ≤ k ∧ k ≤ 1000 ∧ z.length ≤ 100 ∧ Q (.str (Txt.mul z k)) H) := by
  intro pins s σ H x y v u Q I rx ry h
  obtain ⟨z, k, rfl, rfl, h0, h1, h2, q⟩ := h
  obtain ⟨t, rfl⟩ := rx
  obtain ⟨t', rfl⟩ := ry
  refine SB.mul ⟨?_, fun hk _ => ?_, fun hk _ => ?_⟩ (fun t' tk => ⟨.str _, H, I.tok _, ⟨_, rfl⟩, q⟩)
  · rw [decide_eq_false (by omega), decide_eq_false (by omega)]
    rfl
  · have : (z.length : Int) ≤ (2 ^ 63 - 1) / k := by
      refine (Int.le_ediv_iff_mul_le (by omega)).mpr ?_
      have : (z.length : Int) * k ≤ 100 * 1000 := Int.le_trans (Int.mul_le_mul_of_nonneg_right (by omega) h0) (Int.mul_le_mul_of_nonneg_left h1 (by omega))
      omega
    omega
  · have : z.length * k.toNat ≤ 100 * 1000 := Nat.mul_le_mul h2 (by omega)
    exact decide_eq_false (by rw [sizeLine_eq]; omega)
end
end U

set_option Elab.async false
set_option linter.all false
set_option maxRecDepth 100000
set_option maxHeartbeats 4000000
/-! texts of signs below 128: cut, joined, bent; the text of a sample -/
namespace U
open PySem PySem.Spec PyProof.Rows L2 PySem.NumText
open Evl (Ex)
open C8 (Met Mak pe_mt pe_mt0 pe_mk)
abbrev s_bent : Stmt := top 35
abbrev sc_bent_N : List Str := ["_law_draws", "_law_text", "_law_signs", "_law_at", "_law_sign"]
theorem sc_bent : FnScope sc_bent_N ["_law_draws", "_law_text"] (defScope s_bent) := ⟨rfl, rfl, rfl, by decide +kernel, rfl, by decide +kernel, by decide +kernel⟩
abbrev s_Sample_text : Stmt := inClass (top 19) 5
abbrev sc_Sample_text_N : List Str := ["self", "lines", "point", "label", "words", "entry"]
theorem sc_Sample_text : FnScope sc_Sample_text_N ["self"] (defScope s_Sample_text) := ⟨rfl, rfl, rfl, by decide +kernel, rfl, by decide +kernel, by decide +kernel⟩
theorem ascii_app {a b : Str} (ha : Ascii a) (hb : Ascii b) : Ascii (a ++ b) := fun c hc => by
  have : c ∈ TL.tl a ++ TL.tl b := by rw [← TL.tl_append]; exact hc
  exact (List.mem_append.mp this).elim (ha c) (hb c)
theorem ascii_of {a : Str} (h : (TL.tl a).all (fun c => decide (c < 128)) = true) : Ascii a := fun c hc => of_decide_eq_true (List.all_eq_true.mp h c hc)
theorem tl_cut (z : Str) (lo hi : Option Int) : TL.tl (cutS z lo hi) = (TL.tl z |>.drop (HT.sIx z.length 0 lo)).take (HT.sIx z.length z.length hi - HT.sIx z.length 0 lo) := rfl
theorem ascii_cut {z : Str} {lo hi : Option Int} (h : Ascii z) : Ascii (cutS z lo hi) := fun c hc => h c (by
  rw [tl_cut] at hc
  exact List.mem_of_mem_drop (List.mem_of_mem_take hc))
theorem len_cut (z : Str) (lo hi : Option Int) : (cutS z lo hi).length ≤ z.length := by
  rw [tl_len, tl_len z, tl_cut, List.length_take, List.length_drop]
  omega
theorem len_cut2 (z : Str) {i j : Int} (h : i ≤ j) (h0 : 0 ≤ i) : (cutS z none (some i)).length + (cutS z (some j) none).length ≤ z.length := by
  obtain ⟨m, rfl⟩ := Int.eq_ofNat_of_zero_le h0
  obtain ⟨n, rfl⟩ := Int.eq_ofNat_of_zero_le (Int.le_trans h0 h)
  rw [tl_len, tl_len (cutS z (some _) none), tl_cut, tl_cut, List.length_take, List.length_drop, List.length_take, List.length_drop, ← tl_len]
  show min (HT.sIx z.length z.length (some ((m : Nat) : Int)) - 0) (z.length - 0) + min (z.length - HT.sIx z.length 0 (some ((n : Nat) : Int))) (z.length - HT.sIx z.length 0 (some ((n : Nat) : Int))) ≤ _
  rw [HT.sIx_nat, HT.sIx_nat]
  have : m ≤ n := by omega
  omega
/-- the length of texts joined by one sign -/
def wt (ls : List Str) : Nat := (ls.map fun z => z.length + 1).sum
theorem wt_app (a b : List Str) : wt (a ++ b) = wt a + wt b := by unfold wt; rw [List.map_append, List.sum_append]
theorem wt_cut (ls : List Str) {i j : Nat} (h : i ≤ j) : wt (ls.take i) + wt (ls.drop j) ≤ wt ls := by
  have e : wt ls = wt (ls.take i) + (wt ((ls.drop i).take (j - i)) + wt ((ls.drop i).drop (j - i))) := by
    rw [← wt_app, List.take_append_drop, ← wt_app, List.take_append_drop]
  rw [List.drop_drop, show i + (j - i) = j by omega] at e
  omega
theorem wt_ge {ls : List Str} {z : Str} (h : z ∈ ls) : z.length + 1 ≤ wt ls := by
  induction ls with
  | nil => nomatch h
  | cons y ys ih =>
    have e : wt (y :: ys) = (y.length + 1) + wt ys := rfl
    rcases List.mem_cons.mp h with h | h
    · rw [h, e]; omega
    · have := ih h; omega
theorem wt_len (ls : List Str) : ls.length ≤ wt ls := by
  induction ls with
  | nil => exact Nat.le_refl _
  | cons y ys ih =>
    have e : wt (y :: ys) = (y.length + 1) + wt ys := rfl
    rw [List.length_cons, e]
    omega
theorem joinL_wt {y : List Nat} (hy : y.length = 1) : ∀ ls : List Str, ls ≠ [] → (TL.joinL y (ls.map TL.tl)).length + 1 = wt ls
  | [z], _ => by
    show (TL.tl z).length + 1 = (z.length + 1) + 0
    rw [← tl_len]
  | z :: z2 :: r, _ => by
    have h := joinL_wt hy (z2 :: r) (by simp)
    have e : wt (z :: z2 :: r) = (z.length + 1) + wt (z2 :: r) := rfl
    show (TL.tl z ++ (y ++ TL.joinL y ((z2 :: r).map TL.tl))).length + 1 = _
    rw [List.length_append, List.length_append, hy, ← tl_len, e]
    omega
  | [], h => absurd rfl h
theorem join_wt {y : Str} (hy : y.length = 1) (ls : List Str) : (Str.join y ls).length ≤ wt ls := by
  cases ls with
  | nil => exact Nat.zero_le _
  | cons z r =>
    have h := joinL_wt (y := TL.tl y) (by rw [← tl_len]; exact hy) (z :: r) (by simp)
    rw [tl_len, TL.tl_join]
    omega
theorem split_wt {x y : Str} (hy : y.length = 1) : wt (Txt.split x y) ≤ x.length + 1 := by
  cases h : Txt.split x y with
  | nil => exact Nat.zero_le _
  | cons z r =>
    have h2 := joinL_wt (y := TL.tl y) (by rw [← tl_len]; exact hy) (z :: r) (by simp)
    rw [← h, ← split_join_tl, ← tl_len] at h2
    rw [← h]
    omega
theorem joinL_0 {m : Nat} : ∀ ls : List Str, (∀ z ∈ ls, z.length ≤ m) → (TL.joinL [] (ls.map TL.tl)).length ≤ m * ls.length
  | [], _ => Nat.zero_le _
  | [z], h => by
    have := h z (List.mem_singleton.mpr rfl)
    show (TL.tl z).length ≤ m * 1
    rw [← tl_len]
    omega
  | z :: z2 :: r, h => by
    have h1 := h z (List.mem_cons_self ..)
    have h2 := joinL_0 (z2 :: r) fun z hz => h z (List.mem_cons_of_mem _ hz)
    show (TL.tl z ++ ([] ++ TL.joinL [] ((z2 :: r).map TL.tl))).length ≤ m * ((z2 :: r).length + 1)
    rw [List.length_append, List.nil_append, ← tl_len, Nat.mul_succ]
    omega
theorem ascii_joinL {y : List Nat} (hy : ∀ c ∈ y, c < 128) : ∀ ls : List Str, (∀ z ∈ ls, Ascii z) → ∀ c ∈ TL.joinL y (ls.map TL.tl), c < 128
  | [], _, c, h => nomatch h
  | [z], hl, c, h => hl z (List.mem_singleton.mpr rfl) c h
  | z :: z2 :: r, hl, c, h => by
    have h : c ∈ TL.tl z ++ (y ++ TL.joinL y ((z2 :: r).map TL.tl)) := h
    rcases List.mem_append.mp h with h | h
    · exact hl z (List.mem_cons_self ..) c h
    · rcases List.mem_append.mp h with h | h
      · exact hy c h
      · exact ascii_joinL hy (z2 :: r) (fun z hz => hl z (List.mem_cons_of_mem _ hz)) c h
theorem ascii_join {y : Str} (hy : Ascii y) {ls : List Str} (hl : ∀ z ∈ ls, Ascii z) : Ascii (Str.join y ls) := fun c hc => by
  rw [TL.tl_join] at hc
  exact ascii_joinL hy ls hl c hc
theorem ascii_num (i : Int) : Ascii (nW i) := fun c hc => by
  rcases Nat.lt_or_ge c 128 with h | h
  · exact h
  · exact absurd hc (int_text_free' c ⟨by omega, by omega⟩ i)
theorem len_num6 {i : Int} (h : -999999 ≤ i ∧ i ≤ 999999) : (nW i).length ≤ 7 := by
  have := int_text_length_le10 (a := i) (k := 6) (by decide) (by omega)
  rw [show (nW i).length = (toString i).length from by unfold nW; exact PySem.ofString_length _]
  exact this
theorem ascii_lit {a : Str} (h : (TL.tl a).all (fun c => decide (c < 128)) = true := by decide +kernel) : Ascii a := ascii_of h
section
variable {K : PySem.W.Frag} {H : Hp}
theorem dpi_inv : ∀ {vs : List V} {ns : List Int}, DpAll K H vs (ns.map PyData.int) → vs = ns.map V.int
  | _, [], h => by cases h; rfl
  | _, n :: ns, h => by
    cases h with
    | cons h1 h2 =>
      cases h1
      rw [dpi_inv h2]
      rfl
theorem el_lcT {σ : L2.St} {a : Addr} {xs : List V} {te tl : TE} {j : Nat} {vs : List Nat} {v : Nat → V} (h : Evl.Ev tl σ H (.ref a)) (hx : SqT K H a xs) (hz : xs.length ≤ 40000) (hw : ∀ x, wipe ((wipe σ vs).set j (some x)) vs = wipe σ vs)
    (he : ∀ (i : Nat) (x : V) H1, Ex H H1 → xs[i]? = some x → Evl.Ev te ((wipe σ vs).set j (some x)) H1 (v i)) : Evl.EvL (tLc (iTup K tl) (gName j) tYes te vs) σ H ((List.range xs.length).map v) := fun H0 e0 Q q => h H0 e0 _ fun H1 e1 => ⟨a, rfl, ⟨xs, Evl.ex_t (e0.trans e1) hx⟩, fun Dl hD =>
  lc_it (walk_tup (xs := xs)) (Cm H1 v Dl) (cm_0 hD) (fun i H2 _ p => Evl.ex_t ((e0.trans e1).trans p.2.1) hx) (fun i x H2 H3 hi p y => by
    obtain ⟨rfl, hx'⟩ := y
    refine ⟨hw x, ?_⟩
    exact yes_lc (A := fun H3 => te ((wipe σ vs).set j (some x)) H3 fun y H4 => ∃ acc, H4 Dl = some (.lst acc) ∧ acc.length < sizeLine ∧ Cm H1 v Dl (i + 1) (upd H4 Dl (.lst (acc ++ [y])))) (B := fun H3 => Cm H1 v Dl (i + 1) H3) <| cm_turn p (by omega) _ (Ex.refl _) (he i x _ (e0.trans e1) hx'))
    (fun H2 p => q Dl H2 (Evl.fresh_back e1 p.1) (e1.trans p.2.1) p.2.2)⟩
theorem el_catL {ta tb : TE} {σ : L2.St} {xs ys : List V} (h1 : Evl.EvL ta σ H xs) (h2 : Evl.EvL tb σ H ys) (hz : xs.length + ys.length ≤ 10000) : Evl.EvL (tOp rCat ta tb) σ H (xs ++ ys) := fun H1 e Q q => h1 H1 e _ fun p1 H2 _ e2 hx => h2 H2 (e.trans e2) _ fun p2 H3 _ e3 hy =>
  ⟨p1, p2, xs, ys, rfl, rfl, e3 _ _ hx, hy, Evl.sz_of (by omega), fun r hr => q r _ (Evl.fresh_back (e2.trans e3) hr) ((e2.trans e3).trans (Ex.new hr)) upd_same⟩
theorem one_run {te : TE} {σ : L2.St} {Q : List V → Hp → Prop} {v : V} (h : Evl.Ev te σ H v) (k : ∀ H1, Ex H H1 → Q [v] H1) : tCons te tNil σ H Q := h H (Ex.refl _) _ k
end
section
variable {P : Program} {w : World} {K : PySem.W.Frag} {mg : Str → Option Value} {base : Heap} {C BL : Addr}
/-- a list of texts, how many and how long -/
def Lns (m : Nat) (ls : List Str) : Prop := ∀ z ∈ ls, Ascii z ∧ z.length ≤ m
def spTextA (K : PySem.W.Frag) (C : Addr) : Sp := fun vs H Q _ => ∃ (x : Addr) (p : Int) (ds : List PyData) (L : List Addr), vs = [.ref x] ∧ Hid L H ∧ 1 ≤ p ∧ p ≤ 3 ∧ ds.length ≤ 10 ∧ (∀ d ∈ ds, Rw p d) ∧ Smp K L H x C p ds ∧ ∀ z H', Ex H H' → Ascii z → z.length ≤ 600 → Q (.str z) H'
theorem ok_StextA {f : Addr} {fd : FuncData} (F : Fun K "text" "Sample.text" s_Sample_text f fd) (T : TxZ mg) (S : SmpC K C) : FnOk P w K mg base CX0 1 f fd ["self"] (spTextA K C) := by
  refine F.ok sc_Sample_text (fun vs H Q E h => ?_) (fun cdv A outer s H vs Q E hr h => ?_)
  · obtain ⟨_, _, _, _, rfl, _⟩ := h
    rfl
  · obtain ⟨x, p, ds, L, rfl, hL, p1, p3, hrs, hR, hS, k⟩ := h
    refine ⟨_, (pss_cons (ps_set (i := 1) sc_Sample_text.nd rfl (by first | exact Or.inl rfl | exact Or.inr rfl) (pe_lst (pa_cons (pe_joined (PJ.cons pe_str (PJ.cons (pe_fmt (pe_fld (pv 0) rfl)) (PJ.cons pe_str PJ.nil)))) pa_nil)))
    (pss_cons (ps_for PassesOwn.never rfl (pi_tup (pe_fld (pv 0) rfl)) (pg_tup (by rfl) (pgs_cons (pg_name (i := 2) sc_Sample_text.nd rfl (by first | exact Or.inl rfl | exact Or.inr rfl)) (pgs_cons (pg_name (i := 3) sc_Sample_text.nd rfl (by first | exact Or.inl rfl | exact Or.inr rfl)) pgs_nil)))
      (pss_cons (ps_set (i := 4) sc_Sample_text.nd rfl (by first | exact Or.inl rfl | exact Or.inr rfl) (pe_op op_cat (pe_lst (pa_cons (pe_ifExp (pt_val (pv 3)) pe_str pe_str) pa_nil)) (pe_lc (own := [("entry", 5)]) (g := gName 5) (tt := tYes) (by rfl) sc_Sample_text.nd (pi_tup (pv 2)) (blkOk_by (N := sc_Sample_text_N) (sc := defScope s_Sample_text) (by decide +kernel)) (fun _ _ _ _ _ => (pg_name (i := 5) sc_Sample_text.nd rfl (by first | exact Or.inl rfl | exact Or.inr rfl))) (fun _ _ _ _ _ => pts_nil) (fun _ _ _ _ _ => (pe_callTy call_str_int (by rfl) T.m_str (by decide +kernel) (pa_cons (pv 5) pa_nil))))))
      (pss_one (ps_expr (pe_bm PySem.F.plainAttrs_list PySem.F.slot_list_append PySem.F.type_list_append mt_append (pv 1) (pa_cons (pe_op op_add_str (pe_m1 PySem.F.slot_str_join PySem.F.type_str_join mt_join pe_str (pv 4)) pe_str) pa_nil))))))
    (pss_one (ps_ret (pe_m1 PySem.F.slot_str_join PySem.F.type_str_join mt_join pe_str (pv 1)))))), ?_⟩
    obtain ⟨dx, t0, xs, hx, hs, ha, _⟩ := hS.inv
    have lxs := dpa_len ha
    have hs0 : SqT K H t0 xs := hs
    have eP : (placesT p) ++ ("\n" : Str) = gluedJ [("places " : Str), nW p, ("\n" : Str)] Str.empty := by
      show _ = ((Str.empty ++ ("places " : Str)) ++ nW p) ++ ("\n" : Str)
      rw [empty_app]
      rfl
    have hz7 : (([("places " : Str), nW p, ("\n" : Str)] : List Str).map (·.length)).sum ≤ sizeLine := by
      have h1 : (nW p).length ≤ 7 := len_num6 ⟨by omega, by omega⟩
      have h2 : ("places " : Str).length = 7 := by decide
      have h3 : ("\n" : Str).length = 1 := by decide
      show ("places " : Str).length + ((nW p).length + (("\n" : Str).length + 0)) ≤ _
      rw [sizeLine_eq]
      omega
    have hP : Ascii (placesT p ++ ("\n" : Str)) ∧ (placesT p ++ ("\n" : Str)).length ≤ 40 := by
      have cp : p = 1 ∨ p = 2 ∨ p = 3 := by omega
      rcases cp with rfl | rfl | rfl <;> exact ⟨ascii_lit, by decide +kernel⟩
    refine Evl.q_asgL (xs := [.str ((placesT p) ++ ("\n" : Str))]) (Evl.el_lst (Evl.ea_cons (by
      rw [eP]
      exact ev_joined (xs := [("places " : Str), nW p, ("\n" : Str)]) (.cons (fun H4 _ => Evl.ev_c) (.cons (fun H4 e4 => ev_fmtI (ev_fld (Evl.ev_var (v := .ref x) rfl) (e4 _ _ hx) S.cl S.nP rfl) ⟨by omega, by omega⟩) (.cons (fun H4 _ => Evl.ev_c) .nil))) hz7) Evl.ea_nil) (by show 1 ≤ 100000; omega)) fun G H1 hG e1 hGx => ?_
    have hGL : G ∉ L := hid_not hL hG
    have eW : Ex H (W [G] H1) := fun a o h => w_of (by have := ne_of_none h hG; simp [this]) (e1 a o h)
    have e02' : ∀ H2, ExB G H1 H2 → Ex H (W [G] H2) := fun H2 b2 => eW.trans (b2.w (List.mem_singleton.mpr rfl))
    refine Evl.q_forT (xs := xs) (ev_fld (Evl.ev_var (v := .ref x) rfl) (e1 _ _ hx) S.cl S.nQ rfl) (Evl.ex_t e1 hs0) (fun i σ' H' => ExB G H1 H' ∧ (∃ ls : List Str, ls.length = i + 1 ∧ Lns 40 ls ∧ H' G = some (.lst (ls.map V.str))) ∧ ∃ o2 o3 o4 o5, σ' = [some (.ref x), some (.ref G), o2, o3, o4, o5]) (fun H2 e2 => ⟨ExB.of e2, ⟨[placesT p ++ ("\n" : Str)], rfl, fun z hz => by rw [List.mem_singleton.mp hz]; exact hP, e2 _ _ hGx⟩, _, _, _, _, rfl⟩) (fun i σ' H' _ pv => ?_) ?_ ?_
    · exact Evl.ex_t w_sub (Evl.ex_t (eW.trans (pv.1.w (List.mem_singleton.mpr rfl))) hs0)
    · rintro i u σ' H2 hu ⟨b2, ⟨ls, hls, hln, g2⟩, o2, o3, o4, o5, rfl⟩
      have hil : i < xs.length := (List.getElem?_eq_some_iff.mp hu).1
      have e02 : Ex H (W [G] H2) := eW.trans (b2.w (List.mem_singleton.mpr rfl))
      obtain ⟨d, hd1, hd2⟩ := dpa_get ha hu
      obtain ⟨ns, b, rfl, r1, r2, r3⟩ := hR d (List.mem_of_getElem? hd1)
      have hd3 : Dp K H2 u (rowD ns b) := ((hd2.up w_sub).up e02).up w_sub
      obtain ⟨a2, v1, v2, rfl, hs2, q1, q2⟩ : ∃ a2 v1 v2, u = .ref a2 ∧ SqT K H2 a2 [v1, v2] ∧ Dp K H2 v1 (.tuple (ns.map .int)) ∧ v2 = .bl b := by
        cases hd3 with
        | @tup a zs _ hs ha =>
          cases ha with
          | @cons z1 _ _ _ w1 rr =>
            cases rr with
            | @cons z2 _ _ _ w2 rr2 =>
              cases rr2
              cases w2
              exact ⟨a, z1, _, rfl, hs, w1, rfl⟩
      subst q2
      obtain ⟨a3, rfl, hs3⟩ : ∃ a3, v1 = .ref a3 ∧ SqT K H2 a3 (ns.map V.int) := by
        cases q1 with
        | @tup a zs _ hs ha =>
          rw [dpi_inv ha] at hs
          exact ⟨a, rfl, hs⟩
      refine ⟨a2, [.ref a3, .bl b], rfl, hs2, rfl, .ref a3, [.bl b], rfl, .bl b, [], rfl, rfl, ?_⟩
      let we : List Str := (if b then ("yes" : Str) else "no") :: ns.map nW
      have hwe : we.map V.str = [.str (if b then "yes" else "no")] ++ (List.range (ns.map V.int).length).map fun j => V.str (nW (ns.getD j 0)) := by
        have hw2 : (ns.map nW).map V.str = (List.range (ns.map V.int).length).map fun j => V.str (nW (ns.getD j 0)) := by
          refine List.ext_getElem? fun j => ?_
          rw [List.map_map, List.getElem?_map, List.getElem?_map, List.length_map]
          by_cases hj : j < ns.length
          · rw [List.getElem?_range hj, List.getElem?_eq_getElem hj]
            simp [List.getD_eq_getElem?_getD, List.getElem?_eq_getElem hj]
          · rw [List.getElem?_eq_none (by omega), List.getElem?_eq_none (by rw [List.length_range]; omega)]
            rfl
        rw [← hw2]
        rfl
      have hwA : ∀ z ∈ we, Ascii z ∧ z.length ≤ 7 := fun z hz => by
        rcases List.mem_cons.mp hz with hz | hz
        · rw [hz]
          cases b <;> exact ⟨ascii_lit, by decide +kernel⟩
        · obtain ⟨e, he, rfl⟩ := List.mem_map.mp hz
          exact ⟨ascii_num e, len_num6 (r3 e he)⟩
      have hwl : we.length = ns.length + 1 := by show (_ :: ns.map nW).length = _; rw [List.length_cons, List.length_map]
      refine Evl.q_asgL (xs := we.map V.str) (by
        rw [hwe]
        refine el_catL (Evl.el_lst (Evl.ea_cons (Evl.ev_if (b := b) (Evl.et_B (Evl.ev_var rfl)) (fun h => ?_) fun h => ?_) Evl.ea_nil) (by show 1 ≤ 100000; omega)) (el_lcT (Evl.ev_var rfl) hs3 (by rw [List.length_map]; omega) (fun _ => rfl) fun j z H3 e3 hz => ?_) (by simp; omega)
        · rw [h]
          exact Evl.ev_c
        · rw [h]
          exact Evl.ev_c
        · rw [List.getElem?_map] at hz
          obtain ⟨e, he, rfl⟩ := Option.map_eq_some_iff.mp hz
          have F1 := r3 e (List.mem_of_getElem? he)
          have lg : e.natAbs.log2 < 1920 := by
            by_cases z0 : e.natAbs = 0
            · rw [z0]
              decide
            · have := (Nat.log2_lt z0).mpr (show e.natAbs < 2 ^ 20 by omega)
              omega
          have eg : ns.getD j 0 = e := by rw [List.getD_eq_getElem?_getD, he]; rfl
          rw [eg]
          exact fun H4 e4 Q q => ⟨_, rfl, e, rfl, lg, q H4 (Ex.refl _)⟩) fun Wd H3 _ e3 hWx => ?_
      have g3 := e3 _ _ g2
      refine ⟨_, rfl, Or.inl ⟨rfl, _, SqL.of g3⟩, ?_⟩
      have h3 : (" " : Str).length = 1 := by decide
      have h4 : ("\n" : Str).length = 1 := by decide
      have hsm := sum_le (·.length) 7 we fun z hz => (hwA z hz).2
      have hsj : (Str.join " " we).length ≤ 39 := by
        have h := join_wt h3 we
        have h2 := sum_le (fun z : Str => z.length + 1) 8 we fun z hz => by have := (hwA z hz).2; omega
        have h5 : wt we ≤ 8 * we.length := h2
        omega
      have hla : Ascii (Str.join " " we ++ ("\n" : Str)) := ascii_app (ascii_join ascii_lit fun z hz => (hwA z hz).1) ascii_lit
      refine one_run (v := .str (Str.join " " we ++ ("\n" : Str))) (fun H4 e4 Q q => ?_) fun H4 e4 => ?_
      · refine ⟨⟨_, rfl⟩, _, rfl, " ", Wd, we, rfl, rfl, .inl (SqL.of (e4 _ _ hWx)), by rw [h3]; omega, Str.join " " we, "\n", ?_, rfl, by rw [sizeLine_eq, h4]; omega, q H4 (Ex.refl _)⟩
        rw [TL.join_eq]
      · refine ⟨G, _, _, rfl, rfl, e4 _ _ g3, by rw [List.length_map, sizeLine_eq]; omega, fun b o hb hbo => ?_, ⟨ls ++ [Str.join " " we ++ ("\n" : Str)], by rw [List.length_append, hls]; rfl, fun z hz => ?_, ?_⟩, _, _, _, _, rfl⟩
        · rw [upd_ne hb]
          exact e4 b o (e3 b o (b2 b o hb hbo))
        · rcases List.mem_append.mp hz with hz | hz
          · exact hln z hz
          · rw [List.mem_singleton.mp hz]
            exact ⟨hla, by rw [Str.length_append, h4]; omega⟩
        · rw [upd_same, List.map_append]
          rfl
    · rintro σ' H2 ⟨b2, ⟨ls, hls, hln, g2⟩, o2, o3, o4, o5, rfl⟩
      have h5 := sum_le (·.length) 40 ls fun z hz => (hln z hz).2
      have h6 : ("" : Str).length = 0 := by decide
      refine Evl.s_ret (v := .str (Str.join "" ls)) (fun H3 e3 Q q => ⟨⟨_, rfl⟩, _, rfl, "", G, ls, rfl, rfl, .inl (SqL.of (e3 _ _ g2)), ?_, ?_⟩) fun H3 e3 => k _ H3 (fun a o h => e3 a o (w_in (e02' H2 b2 a o h)).1) (ascii_join ascii_lit fun z hz => (hln z hz).1) ?_
      · rw [h6]
        omega
      · rw [TL.join_eq]
        exact q H3 (Ex.refl _)
      · rw [tl_len, TL.tl_join]
        have h7 := joinL_0 (m := 40) ls fun z hz => (hln z hz).2
        rw [hls] at h7
        show (TL.joinL [] (ls.map TL.tl)).length ≤ 600
        omega
theorem signs_ok {z : Str} (hz : Ascii z) : ∀ v ∈ signsV z, ∃ y, v = .str y ∧ Ascii y ∧ y.length ≤ 4 := fun v hv => by
  obtain ⟨c, hc, rfl⟩ := List.mem_map.mp hv
  exact ⟨_, rfl, fun d hd => by
    have hd : d ∈ [c] := hd
    rw [List.mem_singleton.mp hd]
    exact hz c hc, by show 1 ≤ 4; decide⟩
def spBent : Sp := fun vs H Q _ => ∃ (l : Addr) (z : Str) (n : Nat), vs = [.ref l, .str z] ∧ Dr n H l ∧ n < 900000 ∧ Ascii z ∧ z.length ≤ 5000 ∧ ∀ z' H', Ascii z' → z'.length ≤ z.length + 4 → Dr (n + 3) H' l → ExB l H H' → Q (.str z') H'
theorem ok_bent {f : Addr} {fd : FuncData} (F : Fun K "_law_bent" "_law_bent" s_bent f fd) (T : TxE mg) (D_draw : DefAt P w K mg base "_law_draw" 1 ["_law_draws", "_law_many"] spDraw) (D_pick : DefAt P w K mg base "_law_pick" 2 ["_law_draws", "_law_things"] (spPickV K)) : FnOk P w K mg base CX0 3 f fd ["_law_draws", "_law_text"] spBent := by
  refine F.ok sc_bent (fun vs H Q E h => ?_) (fun cdv A outer s H vs Q E hr h => ?_)
  · obtain ⟨_, _, _, rfl, _⟩ := h
    rfl
  · obtain ⟨l, z, n, rfl, hd, hn, hz, hl, k⟩ := h
    refine ⟨_, (pss_cons (ps_set (i := 2) sc_bent.nd rfl (by first | exact Or.inl rfl | exact Or.inr rfl) (pe_op op_cat (pe_callTy (call_list_strV rfl) (by rfl) T.m_list (by decide +kernel) (pa_cons pe_str pa_nil)) (pe_lst (pa_cons pe_str (pa_cons pe_str (pa_cons pe_str (pa_cons pe_str pa_nil)))))))
    (pss_cons (ps_par (i := 3) (j := 4) (by rfl) sc_bent.nd rfl rfl (by decide) rfl rfl (pa_cons (pe_callD D_draw (by first | exact hr | exact hr.mono (by decide) | exact hr.mono (by omega)) (by rfl) (pa_cons (pv 0) (pa_cons (pe_op op_add (pe_callB call_len_str (by rfl) T.m_len (by decide +kernel) (pa_cons (pv 1) pa_nil)) pe_int) pa_nil))) (pa_cons (pe_callD D_pick (by first | exact hr | exact hr.mono (by decide) | exact hr.mono (by omega)) (by rfl) (pa_cons (pv 0) (pa_cons (pv 2) pa_nil))) pa_nil)) (by rfl))
    (pss_one (ps_ret (pe_op op_add_str (pe_op op_add_str (pe_slice sl_str (pv 1) po_none (po_some (pv 3))) (pv 4)) (pe_slice sl_str (pv 1) (po_some (pe_op op_add (pv 3) (pe_callD D_draw (by first | exact hr | exact hr.mono (by decide) | exact hr.mono (by omega)) (by rfl) (pa_cons (pv 0) (pa_cons pe_int pa_nil))))) po_none)))))), ?_⟩
    have hzs : z.length ≤ sizeLine := by rw [sizeLine_eq]; omega
    let sg : List V := signsV ("0123-+ yesnopl\n" : Str) ++ [.str "no 1", .str "00", .str "\t", .str ""]
    have hsl : (signsV ("0123-+ yesnopl\n" : Str)).length = 15 := by decide +kernel
    have hsg : ∀ v ∈ sg, ∃ y, v = .str y ∧ Ascii y ∧ y.length ≤ 4 := fun v hv => by
      rcases List.mem_append.mp hv with hv | hv
      · exact signs_ok ascii_lit v hv
      · simp only [List.mem_cons, List.not_mem_nil, or_false] at hv
        rcases hv with rfl | rfl | rfl | rfl
        · exact ⟨_, rfl, ascii_lit, by decide +kernel⟩
        · exact ⟨_, rfl, ascii_lit, by decide +kernel⟩
        · exact ⟨_, rfl, ascii_lit, by decide +kernel⟩
        · exact ⟨_, rfl, ascii_lit, by decide +kernel⟩
    have hsn : sg.length = 19 := by show (signsV _ ++ _).length = _; rw [List.length_append, hsl]; rfl
    refine Evl.q_asgL (xs := sg) (el_catL (fun H1 e Q q => ⟨"0123-+ yesnopl\n", rfl, by decide +kernel, fun l hl => q l _ hl (Ex.new hl) upd_same⟩) (Evl.el_lst (Evl.ea_cons Evl.ev_c (Evl.ea_cons Evl.ev_c (Evl.ea_cons Evl.ev_c (Evl.ea_cons Evl.ev_c Evl.ea_nil)))) (by show 4 ≤ 100000; omega)) (by rw [hsl]; decide)) fun G H1 hG e1 hGx => ?_
    have hGl : G ≠ l := fun h => hd.ne (by rw [← h]; exact hG)
    refine draw_run (n := n) (l := l) (many := (z.length : Int) + 1) (by rfl) (hd.ex e1) (by omega) (Evl.ev_op (x := .int (z.length : Int)) (fun H2 e2 Q q => ⟨_, rfl, z, rfl, hzs, q H2 (Ex.refl _)⟩) Evl.ev_c (Evl.rv_I0 (g := fun i j => .int (i + j)))) (by omega) (by omega) fun at_ H2 a0 a1 d2 b2 => ?_
    have hG2 : H2 G = some (.lst sg) := b2 G _ hGl hGx
    refine ⟨.ref l, rfl, .ref G, rfl, l, G, sg, n + 1, [l], rfl, d2, by omega, List.mem_singleton.mpr rfl, SqL.of (w_of (by simp [hGl]) hG2), by rw [hsn]; decide, by rw [hsn]; decide, fun v o hv d3 => ?_⟩
    obtain ⟨y, rfl, hy, hyl⟩ := hsg v hv
    have b3 : ExB l H2 (upd H2 l o) := ExB.upd
    generalize upd H2 l o = H3 at d3 b3 ⊢
    refine ⟨_, _, rfl, ?_⟩
    have hc1 := len_cut z none (some at_)
    refine ⟨.str z, rfl, .int at_, rfl, at_, rfl, z, rfl, hzs, .str y, rfl, _, _, rfl, rfl, by rw [sizeLine_eq]; omega, .str z, rfl, .int at_, rfl, ?_⟩
    refine draw_run (n := n + 1 + 1) (l := l) (many := 2) (by rfl) d3 (by omega) Evl.ev_c (by decide) (by decide) fun r H4 r0 r1 d4 b4 => ?_
    have hc2 := len_cut2 z (i := at_) (j := at_ + r) (by omega) a0
    refine ⟨at_, r, rfl, rfl, at_ + r, rfl, z, rfl, hzs, _, _, rfl, rfl, by rw [Str.length_append, sizeLine_eq]; omega, k _ H4 (ascii_app (ascii_app (ascii_cut hz) hy) (ascii_cut hz)) (by rw [Str.length_append, Str.length_append]; omega) d4 (((ExB.of e1).trans b2).trans (b3.trans b4))⟩
end
end U

set_option Elab.async false
set_option linter.all false
set_option maxRecDepth 100000
set_option maxHeartbeats 4000000
/-! what is read, or the line that can't stand -/
namespace U
open PySem PySem.Spec PyProof.Rows L2
open Evl (Ex)
open C8 (Met Mak pe_mt pe_mt0 pe_mk)
abbrev s_met : Stmt := top 36
abbrev sc_met_N : List Str := ["_law_text", "_law_found", "e"]
theorem sc_met : FnScope sc_met_N ["_law_text"] (defScope s_met) := ⟨rfl, rfl, rfl, by decide +kernel, rfl, by decide +kernel, by decide +kernel⟩
theorem exm_own {K : PySem.W.Frag} {C : Addr} (h1 : PySem.W.subIn K (.ref C) (.type "BaseException") = some true) (h2 : PySem.W.isClsIn K C = true) (h3 : PySem.W.typeIn K (.ref C) = some (.type "type")) (h4 : PySem.W.subIn K (.ref C) (.ref C) = some true) : PySem.W.exmOne K (.ref C) (.ref C) = some true := by
  have a : (PySem.W.subIn K (.ref C) (.type "BaseException") == some true) = true := by rw [h1]; rfl
  have h2' : (PySem.W.clsIn K C).isSome = true := h2
  have b : ((PySem.W.clsIn K C).isSome && PySem.W.typeIn K (.ref C) == some (.type "type")) = true := by rw [h2', h3]; rfl
  unfold PySem.W.exmOne
  simp only [a, if_true]
  show (if ((PySem.W.clsIn K C).isSome && PySem.W.typeIn K (.ref C) == some (.type "type")) = true then PySem.W.subIn K (.ref C) (.ref C) else none) = _
  rw [if_pos b]
  exact h4
section
variable {P : Program} {w : World} {K : PySem.W.Frag} {mg : Str → Option Value} {base : Heap} {C BL : Addr} {L : List Addr} {σ : L2.St} {H : Hp} {te : TE} {x : Addr} {p : Int} {ds : List PyData}
theorem eg_examples (h : Evl.Ev te σ H (.ref x)) (hS : Smp K L H x C p ds) (hL : Hid L H) : EvG K L (tMeth C "examples" (spExamples K C) [] E0 te tNil) σ H ds := fun H1 e Q q => h H1 e _ fun H2 e2 => by
  have hS2 := hS.up (e.trans e2)
  obtain ⟨dx, v, h1, h2⟩ := id hS2
  exact ⟨x, dx, _, rfl, h1, rfl, x, p, ds, L, rfl, hid_ex (e.trans e2) hL, hS2, fun t H3 ht e3 g => q t H3 (Evl.fresh_back e2 ht) (e2.trans e3) g⟩
theorem pe_callXS {X : Cx} {x : Str} {k : Nat} {ps : List Str} {sp : Sp} {p pos : Pos} {e : Expr} {es : List Expr} {t : TA} {E : L2.St → XK} (D : DefX X.prog X.w X.K X.mg X.base x k ps sp) (hr : Room k X.A) (hx : ∀ σ, PassesAt (CX X.prog X.w) X σ (E σ)) (hg : Gl X x) (ha : PA X (e :: es) t)
    (hdb : (x == ("__debug__" : Str)) = false := by decide) (he : starEach (e :: es) X.env = (false, eval e X.env) :: starEach es X.env := by rfl) (hpl : (backTo pos (starEach es X.env)).any (·.1) = false := by rfl) :
    PE X (.Call (.Name x p) (e :: es) [] pos) (tCallS sp E t) := by
  obtain ⟨f, fd, F, hm, hk, hb⟩ := D.ex
  exact pe_callS F hr hg hm hk hb hx ha hdb he hpl
theorem ok_met {f : Addr} {fd : FuncData} (F : Fun K "_law_met" "_law_met" s_met f fd) (R : BadL P w K mg base BL) (S : SmpC K C) (XM : PySem.W.exmOne K (.ref BL) (.ref BL) = some true) (M_examples : Met P w K mg base 1 C "examples" (spExamples K C) []) (D_read_sample : DefX P w K mg base "read_sample" 7 ["text"] (spReadG K C BL)) : FnOk P w K mg base CX0 8 f fd ["_law_text"] (spReadL K) := by
  refine F.ok sc_met (fun vs H Q E h => ?_) (fun cdv A outer s H vs Q E hr h => ?_)
  · obtain ⟨_, _, _, rfl, _⟩ := h
    rfl
  · obtain ⟨z, rows, rest, rfl, hz, hl, hsp, k⟩ := h
    refine ⟨_, (pss_cons (ps_try_as (i := 2) (tb := fun W => tAsg (tCallS (spReadG K C BL) (WE W) (tCons (tVar 0) tNil)) (gName 1)) (ts := fun a cls d => tRet (tXf a cls d BL "line" (tVar 2))) (Wout := fun _ _ _ _ => False) rfl rfl sc_met.nd rfl rfl ⟨rfl, by decide, .inl R.gC⟩ takes0 (fun W pn xe tk _ => pss_one (ps_set (i := 1) sc_met.nd rfl (by first | exact Or.inl rfl | exact Or.inr rfl) (pe_callXS D_read_sample hr (fun σ => passAt tk σ) rfl (pa_cons (pv 0) pa_nil)))) (fun a oe cls d pn hz hf => pss_one (ps_ret (pe_xf R.xf R.no hz hf (pv 2)))))
    (pss_one (ps_ret (pe_tup (pa_cons (pe_fld (pv 1) rfl) (pa_cons (pe_mt0 M_examples hr (by decide) (pv 1)) pa_nil)))))), ?_⟩
    have hid0 : ∀ H : Hp, Hid [] H := fun H a m => nomatch m
    refine ⟨_, rfl, z, rows, rest, [], rfl, hz, hl, hsp, hid0 _, ?_⟩
    cases hk : readL rows rest with
    | error n =>
      rw [hk] at k
      intro d H2 hd e2 hx2
      refine ⟨true, XM, fun _ a ha => ?_, fun q => Bool.noConfusion q⟩
      exact ⟨_, rfl, rfl, rfl, d, _, .int n, rfl, hx2, rfl, k _ _ e2 (.int n)⟩
    | ok pr =>
      rw [hk] at k
      intro y H2 e2 hy
      obtain ⟨dy, vy, hyx, _⟩ := id hy
      refine d_ret (evd_tup (K := K) (L := []) (hid0 _) (evds_cons (evd_evI (ev_fld (Evl.ev_var (v := .ref y) rfl) hyx S.cl S.nP rfl)) (evds_cons (eg_examples (Evl.ev_var rfl) hy (hid0 _)).dat evds_nil)) (by show 2 ≤ 100000; omega)) fun v H3 e3 hv => k v H3 (e2.trans e3) (hv.up w_sub)
end
end U

set_option Elab.async false
set_option linter.all false
set_option maxRecDepth 100000
set_option maxHeartbeats 4000000
/-! the law -/
namespace U
open PySem PySem.Spec PyProof.Rows L2
open Evl (Ex)
open C8 (Met Mak pe_mt pe_mt0 pe_mk)
abbrev s_law : Stmt := top 37
abbrev sc_law_N : List Str := ["_law_script", "_law_turn", "_law_draws", "_law_places", "_law_text", "_law_lines", "_law_at", "_law_entry_here", "_law_odd", "_law_tries", "_law_one"]
theorem sc_law : FnScope sc_law_N ["_law_script"] (defScope s_law) := ⟨rfl, rfl, rfl, by decide +kernel, rfl, by decide +kernel, by decide +kernel⟩
structure TxV (mg : Str → Option Value) : Prop extends TxE mg where
  m_min : mg "min" = none
theorem split_ends (z : Str) : ∃ rows rest, Txt.split z "\n" = rows ++ [rest] := ⟨_, _, (List.dropLast_concat_getLast (parts_ne z "\n" (by decide +kernel) (by decide +kernel))).symm⟩
theorem fits_data {z : Str} {rows : List Str} {rest : Str} (hl : z.length ≤ 10000) (h : Txt.split z "\n" = rows ++ [rest]) : fits 5 (dataR (readL rows rest)) := by
  have hm := parts_many (x := z) (y := "\n") (by decide +kernel)
  rw [h, List.length_append, List.length_singleton] at hm
  have hr : ∀ r ∈ rows, (wordsOf r).length ≤ 10001 := fun r hr => by
    have h1 := parts_many (x := r) (y := " ") (by decide +kernel)
    have h2 := part_len (x := z) (y := "\n") (z := r) (by rw [h]; exact List.mem_append_left _ hr)
    show (Txt.split r " ").length ≤ _
    omega
  unfold readL
  cases plcOf rows with
  | none => trivial
  | some p =>
    dsimp only
    cases firstBad p (rows.drop 1) 2 with
    | some n => trivial
    | none =>
      dsimp only
      split
      · refine ⟨by show 2 ≤ 40000; omega, fun d hd => ?_⟩
        simp only [List.mem_cons, List.not_mem_nil, or_false] at hd
        rcases hd with rfl | rfl
        · trivial
        · refine ⟨by rw [List.length_map, List.length_map, List.length_drop]; omega, fun d hd => ?_⟩
          obtain ⟨q, hq, rfl⟩ := List.mem_map.mp hd
          obtain ⟨r, hr2, rfl⟩ := List.mem_map.mp hq
          refine ⟨by show 2 ≤ 40000; omega, fun d hd => ?_⟩
          simp only [List.mem_cons, List.not_mem_nil, or_false] at hd
          rcases hd with rfl | rfl
          · refine ⟨?_, fun d hd => ?_⟩
            · rw [List.length_map]
              show (((wordsOf r).drop 1).map intOf).length ≤ _
              rw [List.length_map, List.length_drop]
              have := hr r (List.mem_of_mem_drop hr2)
              omega
            · obtain ⟨i, _, rfl⟩ := List.mem_map.mp hd
              trivial
          · trivial
      · trivial
section
variable {P : Program} {w : World} {K : PySem.W.Frag} {mg : Str → Option Value} {base : Heap} {C U : Addr} {L : List Addr} {σ : L2.St} {H H0 H' : Hp} {l x y t t2 : Addr} {p q : Int} {ds es : List PyData} {te tf ta tb : TE} {d : PyData} {n : Nat}
theorem exB_new (hl : H l = none) (e : Ex H H0) (b : ExB l H0 H') : Ex H H' := fun a o h => b a o (ne_of_none h hl) (e a o h)
theorem draw_runJ {j : Nat} {tm : TE} {many : Int} {Q : VK} (h0 : σ[j]? = some (some (.ref l))) (hd : Dr n H l) (hn : n < 1000000) (hm : Evl.Ev tm σ H (.int many)) (m0 : 0 < many) (m1 : many < 1073741824)
    (k : ∀ r H', 0 ≤ r → r < many → Dr (n + 1) H' l → ExB l H H' → Q (.int r) H') : tCallD spDraw (tCons (tVar j) (tCons tm tNil)) σ H Q :=
  ⟨_, h0, hm H (Ex.refl H) _ fun H1 e1 => ⟨l, many, n, rfl, hd.ex e1, hn, m0, m1, fun r o r0 r1 hd' => k r _ r0 r1 hd' ((ExB.of e1).trans ExB.upd)⟩⟩
theorem same_ev (h1 : EvD K [] te σ H d) (h2 : EvD K [] tf σ H d) (hf : fits n d) : Evl.Ev (tCallD (spSame K n) (tCons te (tCons tf tNil))) σ H (.bl true) := fun H1 e Q q =>
  h1 H1 e _ fun v H2 e2 hv => h2 H2 (e.trans e2) _ fun w H3 e3 hw => ⟨v, w, d, rfl, (hv.up (w_ex e3)).up w_sub, hw.up w_sub, hf, fun H4 e4 => q H4 ((e2.trans e3).trans e4)⟩
theorem ev_min2 {i j : Int} (h : Evl.Ev te σ H (.int i)) (h2 : Evl.Ev tb σ H (.int j)) : Evl.Ev (tCB (fun xs H Q => ∃ i j, xs = [V.int i, V.int j] ∧ Q (.int (if j < i then j else i)) H) (tCons te (tCons tb tNil))) σ H (.int (if j < i then j else i)) := fun H1 e Q q => h H1 e _ fun H2 e2 => h2 H2 (e.trans e2) _ fun H3 e3 => ⟨i, j, rfl, q H3 (e2.trans e3)⟩
theorem evd_readL {z : Str} {rows : List Str} {rest : Str} (h : Evl.Ev te σ H (.str z)) (hz : Ascii z) (hl : z.length ≤ 10000) (hs : Txt.split z "\n" = rows ++ [rest]) : EvD K [] (tCallD (spReadL K) (tCons te tNil)) σ H (dataR (readL rows rest)) := fun H1 e Q q => h H1 e _ fun H2 e2 => ⟨z, rows, rest, rfl, hz, hl, hs, fun v H3 e3 hv => q v H3 (e2.trans e3) (by rw [w_nil]; exact hv)⟩
theorem pick_L {j : Nat} {ys : List Str} {Q : VK} (h0 : σ[j]? = some (some (.ref l))) (hd : Dr n H l) (hn : n < 1000000) (h : Evl.EvL te σ H (ys.map V.str)) (m0 : 0 < ys.length) (m1 : ys.length < 1000) (k : ∀ y H', y ∈ ys → Dr (n + 1) H' l → ExB l H H' → Q (.str y) H') : tCallD (spPickV K) (tCons (tVar j) (tCons te tNil)) σ H Q :=
  ⟨_, h0, h H (Ex.refl _) _ fun a H1 ha e1 hx => ⟨l, a, ys.map V.str, n, [l], rfl, hd.ex e1, hn, List.mem_singleton.mpr rfl, SqL.of (w_of (fun m => hd.ne (by rw [← List.mem_singleton.mp m]; exact ha)) hx), by rw [List.length_map]; exact m0, by rw [List.length_map]; omega, fun v o hv d' => by
    obtain ⟨y, hy, rfl⟩ := List.mem_map.mp hv
    exact k y _ hy d' ((ExB.of e1).trans ExB.upd)⟩⟩
theorem pick_V {j i : Nat} {a : Addr} {ys : List Str} {Q : VK} (h0 : σ[j]? = some (some (.ref l))) (h1 : σ[i]? = some (some (.ref a))) (hal : a ≠ l) (ha : H a = some (.lst (ys.map V.str))) (hd : Dr n H l) (hn : n < 1000000) (m0 : 0 < ys.length) (m1 : ys.length < 1000) (k : ∀ y H', y ∈ ys → Dr (n + 1) H' l → ExB l H H' → Q (.str y) H') : tCallD (spPickV K) (tCons (tVar j) (tCons (tVar i) tNil)) σ H Q :=
  ⟨_, h0, _, h1, l, a, ys.map V.str, n, [l], rfl, hd, hn, List.mem_singleton.mpr rfl, SqL.of (w_of (fun m => hal (List.mem_singleton.mp m)) ha), by rw [List.length_map]; exact m0, by rw [List.length_map]; omega, fun v o hv d' => by
    obtain ⟨y, hy, rfl⟩ := List.mem_map.mp hv
    exact k y _ hy d' ExB.upd⟩
theorem len_sum (ls : List Str) : (ls.map (·.length)).sum + ls.length = wt ls := by
  induction ls with
  | nil => rfl
  | cons y ys ih =>
    have e : wt (y :: ys) = (y.length + 1) + wt ys := rfl
    rw [List.map_cons, List.sum_cons, List.length_cons, e]
    omega
abbrev rJoin (K : PySem.W.Frag) : V → List V → Hp → VK → Prop := fun x xs H Q => ∃ a p, ∃ ys : List Str, x = .str a ∧ xs = [.ref p] ∧ (SqL K H p (ys.map V.str) ∨ SqT K H p (ys.map V.str)) ∧ (ys.map (·.length)).sum + ys.length * a.length ≤ 16777216 ∧ Q (.str (Txt.join a ys)) H
theorem ev_join {s : Str} {ys : List Str} (h : Evl.EvL te σ H (ys.map V.str)) (hs : s.length = 1) (hz : wt ys ≤ 100000) : Evl.Ev (tM1 (rJoin K) (tC (.str s)) te) σ H (.str (Str.join s ys)) := fun H1 e Q q => ⟨⟨_, rfl⟩, h H1 e _ fun a H2 _ e2 hx => ⟨s, a, ys, rfl, rfl, .inl (SqL.of hx), by rw [hs, Nat.mul_one, len_sum]; omega, by
  rw [TL.join_eq]
  exact q H2 e2⟩⟩
theorem ev_addS {a b : Str} (h1 : Evl.Ev ta σ H (.str a)) (h2 : Evl.Ev tb σ H (.str b)) (hz : a.length + b.length ≤ 100000) : Evl.Ev (tOp (fun x y H Q => ∃ i j, x = V.str i ∧ y = V.str j ∧ i.length + j.length ≤ sizeLine ∧ Q (V.str (i ++ j)) H) ta tb) σ H (.str (a ++ b)) := Evl.ev_op h1 h2 fun H1 e Q q => ⟨a, b, rfl, rfl, by rw [sizeLine_eq]; omega, q H1 (Ex.refl _)⟩
theorem cat_run {xs : List V} {Q : VK} (h1 : Evl.EvL ta σ H xs) (k : ∀ p H1, H p = none → Ex H H1 → H1 p = some (.lst xs) → tb σ H1 fun y H2 => rCat (.ref p) y H2 Q) : tOp rCat ta tb σ H Q := h1 H (Ex.refl _) _ k
theorem el_rep1 {s : Str} {k : Int} (h : Evl.Ev ta σ H (.str s)) (h2 : Evl.Ev tb σ H (.int k)) (k0 : 0 ≤ k) (k1 : k ≤ 100) : Evl.EvL (tOp rRep (tLst (tCons ta tNil)) tb) σ H ((List.replicate k.toNat s).map V.str) := fun H1 e Q q => h H1 e _ fun H2 e2 => ⟨by show 1 ≤ sizeLine; decide, fun a ha => h2 _ ((e.trans e2).trans (Ex.new ha)) _ fun H3 e3 => ⟨a, k, [.str s], rfl, rfl, e3 _ _ upd_same, by omega, by omega, by
  rw [List.length_singleton, sizeLine_eq]
  omega, fun r hr => q r _ (Evl.fresh_back (e2.trans ((Ex.new ha).trans e3)) hr) ((e2.trans ((Ex.new ha).trans e3)).trans (Ex.new hr)) (by rw [upd_same, List.flatten_replicate_singleton, List.map_replicate])⟩⟩
/-- what stands late in a turn -/
structure Late (H2 Hn : Hp) (l p t : Addr) (n : Nat) (rows zs : List Str) : Prop where
  ex : Ex H2 Hn
  dr : Dr n Hn l
  hp : Hn p = some (.lst (rows.map V.str))
  ht : Hn t = some (.lst (zs.map V.str))
  ok : Lns 9000 zs
structure Apart (H2 : Hp) (l p t : Addr) : Prop where
  fl : H2 l = none
  ft : H2 t = none
  lp : p ≠ l
  lt : t ≠ l
  pt : p ≠ t
theorem Late.up {H2 Hn Hm : Hp} {l p t : Addr} {n : Nat} {rows zs : List Str} (h : Late H2 Hn l p t n rows zs) (e : Ex Hn Hm) : Late H2 Hm l p t n rows zs := ⟨h.ex.trans e, h.dr.ex e, e _ _ h.hp, e _ _ h.ht, h.ok⟩
theorem Late.exB {H2 Hn Hm : Hp} {l p t : Addr} {n m : Nat} {rows zs : List Str} (A : Apart H2 l p t) (h : Late H2 Hn l p t n rows zs) (b : ExB l Hn Hm) (d : Dr m Hm l) : Late H2 Hm l p t m rows zs := ⟨exB_new A.fl h.ex b, d, b _ _ A.lp h.hp, b _ _ A.lt h.ht, h.ok⟩
theorem Late.app {H2 Hn : Hp} {l p t : Addr} {n : Nat} {rows zs : List Str} {y : Str} (A : Apart H2 l p t) (h : Late H2 Hn l p t n rows zs) (hy : Ascii y ∧ y.length ≤ 9000) : Late H2 (upd Hn t (.lst (zs.map V.str ++ [.str y]))) l p t n rows (zs ++ [y]) := ⟨h.ex.mut A.ft, h.dr.upd_ne A.lt, by rw [upd_ne A.pt]; exact h.hp, by rw [upd_same, List.map_append]; rfl, fun z hz => by
  rcases List.mem_append.mp hz with hz | hz
  · exact h.ok z hz
  · rw [List.mem_singleton.mp hz]
    exact hy⟩
end
theorem odd_ok {p : Int} (h : 1 ≤ p ∧ p ≤ 3) : Lns 12 [("" : Str), "yes", "places 1", "maybe 1", ("yes" : Str) ++ Txt.mul " 1" (p + 1), ("no" : Str) ++ Txt.mul " 1" (p - 1)] := fun z hz => by
  simp only [List.mem_cons, List.not_mem_nil, or_false] at hz
  have cp : p = 1 ∨ p = 2 ∨ p = 3 := by omega
  rcases hz with rfl | rfl | rfl | rfl | rfl | rfl
  · exact ⟨ascii_lit, by decide +kernel⟩
  · exact ⟨ascii_lit, by decide +kernel⟩
  · exact ⟨ascii_lit, by decide +kernel⟩
  · exact ⟨ascii_lit, by decide +kernel⟩
  · rcases cp with rfl | rfl | rfl <;> exact ⟨ascii_lit, by decide +kernel⟩
  · rcases cp with rfl | rfl | rfl <;> exact ⟨ascii_lit, by decide +kernel⟩
theorem ent_ok : Lns 12 [("-0" : Str), "007", "999999", "1000000", "-99999", "-100000"] := fun z hz => by
  simp only [List.mem_cons, List.not_mem_nil, or_false] at hz
  rcases hz with rfl | rfl | rfl | rfl | rfl | rfl <;> exact ⟨ascii_lit, by decide +kernel⟩
section
variable {P : Program} {w : World} {K : PySem.W.Frag} {mg : Str → Option Value} {base : Heap} {C : Addr}
def spLaw45 (K : PySem.W.Frag) : Sp := fun vs H Q _ => ∃ (sa : Addr) (ns : List Int), vs = [.ref sa] ∧ SqL K H sa (ns.map V.int) ∧ ns.length ≤ 63 ∧ ∀ H', Ex H H' → Q (.bl true) H'
theorem law_body {f : Addr} {fd : FuncData} (F : Fun K "law" "law" s_law f fd) (T : TxV mg) (S : SmpC K C) (M_text : Met P w K mg base 1 C "text" (spTextA K C) []) (N_Sample : Mak P w K mg base 5 "Sample" C (spInit K C) [])
    (D_source : DefAt P w K mg base "_law_source" 1 ["_law_script", "_law_at"] (spSource K)) (D_draw : DefAt P w K mg base "_law_draw" 1 ["_law_draws", "_law_many"] spDraw) (D_pick : DefAt P w K mg base "_law_pick" 2 ["_law_draws", "_law_things"] (spPickV K)) (D_rows : DefAt P w K mg base "_law_rows" 3 ["_law_draws", "_law_places", "_law_most", "_law_wide"] (spRows K))
    (D_bent : DefAt P w K mg base "_law_bent" 3 ["_law_draws", "_law_text"] spBent) (D_met : DefAt P w K mg base "_law_met" 8 ["_law_text"] (spReadL K)) (D_read : DefAt P w K mg base "_law_read" 3 ["_law_text"] (spReadL K)) (D_same : DefAt P w K mg base "_law_same" 6 ["_law_found", "_law_due"] (spSame K 5)) : FnOk P w K mg base CX0 12 f fd ["_law_script"] (spLaw45 K) := by
  refine F.ok sc_law (fun vs H Q E h => ?_) (fun cdv A outer s H vs Q E hr h => ?_)
  · obtain ⟨_, _, rfl, _⟩ := h
    rfl
  · obtain ⟨sa, ns, rfl, hS, hl, k⟩ := h
    refine ⟨_, (pss_cons (ps_for PassesOwn.never rfl (pi_range1 (by rfl) T.m_range (pa_cons (pe_op op_add pe_int (pe_callB (call_min2 rfl) (by rfl) T.m_min (by decide +kernel) (pa_cons (pe_callB call_len_seq (by rfl) T.m_len (by decide +kernel) (pa_cons (pv 0) pa_nil)) (pa_cons pe_int pa_nil)))) pa_nil)) (pg_name (i := 1) sc_law.nd rfl (by first | exact Or.inl rfl | exact Or.inr rfl))
      (pss_cons (ps_set (i := 2) sc_law.nd rfl (by first | exact Or.inl rfl | exact Or.inr rfl) (pe_callD D_source (by first | exact hr | exact hr.mono (by decide) | exact hr.mono (by omega)) (by rfl) (pa_cons (pv 0) (pa_cons (pv 1) pa_nil))))
      (pss_cons (ps_set (i := 3) sc_law.nd rfl (by first | exact Or.inl rfl | exact Or.inr rfl) (pe_op op_add pe_int (pe_callD D_draw (by first | exact hr | exact hr.mono (by decide) | exact hr.mono (by omega)) (by rfl) (pa_cons (pv 2) (pa_cons pe_int pa_nil)))))
      (pss_cons (ps_set (i := 4) sc_law.nd rfl (by first | exact Or.inl rfl | exact Or.inr rfl) (pe_mt0 M_text hr (by decide) (pe_mk N_Sample hr (by decide) (by rfl) (pa_cons (pv 3) (pa_cons (pe_callD D_rows (by first | exact hr | exact hr.mono (by decide) | exact hr.mono (by omega)) (by rfl) (pa_cons (pv 2) (pa_cons (pv 3) (pa_cons pe_int (pa_cons (pe_callD D_pick (by first | exact hr | exact hr.mono (by decide) | exact hr.mono (by omega)) (by rfl) (pa_cons (pv 2) (pa_cons (pe_lst (pa_cons pe_int (pa_cons pe_int pa_nil))) pa_nil))) pa_nil))))) pa_nil)))))
      (pss_cons (ps_set (i := 5) sc_law.nd rfl (by first | exact Or.inl rfl | exact Or.inr rfl) (pe_slice sl_list (pe_m1 PySem.F.slot_str_split PySem.F.type_str_split mt_split (pv 4) pe_str) po_none (po_some (pe_un un_neg pe_int))))
      (pss_cons (ps_set (i := 6) sc_law.nd rfl (by first | exact Or.inl rfl | exact Or.inr rfl) (pe_callD D_draw (by first | exact hr | exact hr.mono (by decide) | exact hr.mono (by omega)) (by rfl) (pa_cons (pv 2) (pa_cons (pe_op op_add (pe_callB call_len_seq (by rfl) T.m_len (by decide +kernel) (pa_cons (pv 5) pa_nil)) pe_int) pa_nil))))
      (pss_cons (ps_set (i := 7) sc_law.nd rfl (by first | exact Or.inl rfl | exact Or.inr rfl) (pe_callD D_pick (by first | exact hr | exact hr.mono (by decide) | exact hr.mono (by omega)) (by rfl) (pa_cons (pv 2) (pa_cons (pe_lst (pa_cons pe_str (pa_cons pe_str (pa_cons pe_str (pa_cons pe_str (pa_cons pe_str (pa_cons pe_str pa_nil))))))) pa_nil))))
      (pss_cons (ps_set (i := 8) sc_law.nd rfl (by first | exact Or.inl rfl | exact Or.inr rfl) (pe_lst (pa_cons pe_str (pa_cons pe_str (pa_cons pe_str (pa_cons pe_str (pa_cons (pe_op op_add_str pe_str (pe_op op_mul_str pe_str (pe_op op_add (pv 3) pe_int))) (pa_cons (pe_op op_add_str pe_str (pe_op op_mul_str pe_str (pe_op op_sub (pv 3) pe_int))) pa_nil))))))))
      (pss_cons (ps_set (i := 8) sc_law.nd rfl (by first | exact Or.inl rfl | exact Or.inr rfl) (pe_callD D_pick (by first | exact hr | exact hr.mono (by decide) | exact hr.mono (by omega)) (by rfl) (pa_cons (pv 2) (pa_cons (pv 8) pa_nil))))
      (pss_cons (ps_set (i := 9) sc_law.nd rfl (by first | exact Or.inl rfl | exact Or.inr rfl) (pe_lst (pa_cons (pv 4) (pa_cons pe_str (pa_cons (pe_slice sl_str (pv 4) po_none (po_some (pe_un un_neg pe_int))) (pa_cons (pe_op op_add_str (pv 4) pe_str) (pa_cons (pe_op op_add_str (pv 4) pe_str) (pa_cons (pe_callD D_bent (by first | exact hr | exact hr.mono (by decide) | exact hr.mono (by omega)) (by rfl) (pa_cons (pv 2) (pa_cons (pv 4) pa_nil))) (pa_cons (pe_callD D_bent (by first | exact hr | exact hr.mono (by decide) | exact hr.mono (by omega)) (by rfl) (pa_cons (pv 2) (pa_cons (pv 4) pa_nil))) pa_nil)))))))))
      (pss_cons (ps_expr (pe_bm PySem.F.plainAttrs_list PySem.F.slot_list_append PySem.F.type_list_append mt_append (pv 9) (pa_cons (pe_callD D_bent (by first | exact hr | exact hr.mono (by decide) | exact hr.mono (by omega)) (by rfl) (pa_cons (pv 2) (pa_cons (pe_callD D_bent (by first | exact hr | exact hr.mono (by decide) | exact hr.mono (by omega)) (by rfl) (pa_cons (pv 2) (pa_cons (pv 4) pa_nil))) pa_nil))) pa_nil)))
      (pss_cons (ps_expr (pe_bm PySem.F.plainAttrs_list PySem.F.slot_list_append PySem.F.type_list_append mt_append (pv 9) (pa_cons (pe_op op_add_str (pe_m1 PySem.F.slot_str_join PySem.F.type_str_join mt_join pe_str (pe_op op_cat (pe_op op_cat (pe_slice sl_list (pv 5) po_none (po_some (pv 6))) (pe_lst (pa_cons (pv 8) pa_nil))) (pe_slice sl_list (pv 5) (po_some (pe_op op_add (pv 6) (pe_callD D_draw (by first | exact hr | exact hr.mono (by decide) | exact hr.mono (by omega)) (by rfl) (pa_cons (pv 2) (pa_cons pe_int pa_nil))))) po_none))) pe_str) pa_nil)))
      (pss_cons (ps_expr (pe_bm PySem.F.plainAttrs_list PySem.F.slot_list_append PySem.F.type_list_append mt_append (pv 9) (pa_cons (pe_op op_add_str (pe_op op_add_str (pv 4) (pe_m1 PySem.F.slot_str_join PySem.F.type_str_join mt_join pe_str (pe_op op_cat (pe_lst (pa_cons pe_str pa_nil)) (pe_op op_rep (pe_lst (pa_cons (pv 7) pa_nil)) (pv 3))))) pe_str) pa_nil)))
      (pss_cons (ps_expr (pe_bm PySem.F.plainAttrs_list PySem.F.slot_list_append PySem.F.type_list_append mt_append (pv 9) (pa_cons (pe_op op_add_str (pe_m1 PySem.F.slot_str_join PySem.F.type_str_join mt_join pe_str (pe_op op_cat (pe_slice sl_list (pv 5) po_none (po_some (pv 6))) (pe_slice sl_list (pv 5) (po_some (pe_op op_add (pv 6) pe_int)) po_none))) pe_str) pa_nil)))
      (pss_one (ps_if (pt_not (pt_val (pe_callB (cr_all rfl) (by rfl) T.m_all (by decide +kernel) (pa_cons (pe_lc (own := [("_law_one", 10)]) (g := gName 10) (tt := tYes) (by rfl) sc_law.nd (pi_list (pv 9)) (blkOk_by (N := sc_law_N) (sc := defScope s_law) (by decide +kernel)) (fun _ _ _ _ _ => (pg_name (i := 10) sc_law.nd rfl (by first | exact Or.inl rfl | exact Or.inr rfl))) (fun _ _ _ _ _ => pts_nil) (fun _ _ _ _ _ => (pe_callD D_same (by first | exact hr | exact hr.mono (by decide) | exact hr.mono (by omega)) (by rfl) (pa_cons (pe_callD D_met (by first | exact hr | exact hr.mono (by decide) | exact hr.mono (by omega)) (by rfl) (pa_cons (pv 10) pa_nil)) (pa_cons (pe_callD D_read (by first | exact hr | exact hr.mono (by decide) | exact hr.mono (by omega)) (by rfl) (pa_cons (pv 10) pa_nil)) pa_nil))))) pa_nil)))) (pss_one (ps_ret pe_bl)) pss_nil))))))))))))))))
    (pss_one (ps_ret pe_bl))), ?_⟩
    obtain ⟨m, hm, h0, h10⟩ : ∃ m : Int, (3 + (if (4 : Int) < (ns.map V.int).length then (4 : Int) else ((ns.map V.int).length : Int))) = m ∧ 0 ≤ m ∧ m ≤ 10 := ⟨_, rfl, by split <;> omega, by split <;> omega⟩
    have hid0 : ∀ H : Hp, Hid [] H := fun H a m => nomatch m
    refine Evl.q_forR1 (n := m) (Evl.ea_cons (Evl.ev_is (Evl.ev_op (x := .int 3) Evl.ev_c (ev_min2 (ev_lenS (xs := ns.map V.int) (Evl.ev_var (v := .ref sa) rfl) (.inl hS)) Evl.ev_c) Evl.rv_I0) (congrArg V.int hm)) Evl.ea_nil) ⟨h0, by omega⟩
      (fun i σ' H' => Ex H H' ∧ ∃ o1 o2 o3 o4 o5 o6 o7 o8 o9 o10, σ' = [some (.ref sa), o1, o2, o3, o4, o5, o6, o7, o8, o9, o10]) (fun H2 e => ⟨e, _, _, _, _, _, _, _, _, _, _, rfl⟩) ?_ ?_
    · rintro i σ' H2 hi ⟨e02, o1, o2, o3, o4, o5, o6, o7, o8, o9, o10, rfl⟩
      refine ⟨_, rfl, _, rfl, sa, ns, i, rfl, Evl.ex_l e02 hS, hl, by omega, fun l o hl' hd => ?_⟩
      have e3 : Ex H2 (upd H2 l o) := Ex.new hl'
      generalize upd H2 l o = H3 at hd e3 ⊢
      refine draw_runJ (j := 2) (n := 0) (l := l) (many := 3) (by rfl) hd (by decide) Evl.ev_c (by decide) (by decide) fun r1 H4 r10 r11 d4 b4 => ?_
      refine ⟨_, _, rfl, rfl, ?_⟩
      obtain ⟨p, hpp⟩ : ∃ p : Int, p = 1 + r1 := ⟨_, rfl⟩
      show tSeq _ _ _ (List.set _ 3 (some (.int (1 + r1)))) H4
      rw [← hpp]
      have p1 : 1 ≤ p := by omega
      have p3 : p ≤ 3 := by omega
      have ml : l ∈ [l] := List.mem_singleton.mpr rfl
      refine ⟨_, rfl, _, rfl, _, rfl, _, rfl, by show 2 ≤ sizeLine; decide, fun t4 ht4 => ?_⟩
      have e5 := Ex.new (o := .lst [.int 2, .int 99]) ht4
      have h5t : upd H4 t4 (.lst [.int 2, .int 99]) t4 = some (.lst [.int 2, .int 99]) := upd_same
      have ht4l : t4 ≠ l := fun e => d4.ne (by rw [← e]; exact ht4)
      generalize upd H4 t4 (.lst [.int 2, .int 99]) = H5 at e5 h5t ⊢
      have d5 := d4.ex e5
      refine ⟨l, t4, [.int 2, .int 99], 1, [l], rfl, d5, by decide, ml, SqL.of (w_of (by simp [ht4l]) h5t), by decide, by decide, fun u o6' hu hd6 => ?_⟩
      have b6 : ExB l H5 (upd H5 l o6') := ExB.upd
      generalize upd H5 l o6' = H6 at hd6 b6 ⊢
      obtain ⟨wd, rfl, w0, w1⟩ : ∃ wd : Int, u = .int wd ∧ 0 ≤ wd ∧ wd ≤ 99 := by
        simp only [List.mem_cons, List.not_mem_nil, or_false] at hu
        rcases hu with rfl | rfl
        · exact ⟨2, rfl, by decide, by decide⟩
        · exact ⟨99, rfl, by decide, by decide⟩
      have hid6 : Hid [l] H6 := fun a m => by rw [List.mem_singleton.mp m]; exact hd6.ne
      refine ⟨l, p, 5, wd, 2, [l], rfl, hd6, by decide, ml, hid6, p1, p3, by decide, by decide, w0, w1, fun t ds H7 b7 d7 g7 hds hrw => ?_⟩
      have E7 : Ex H2 H7 := exB_new hl' e3 (((b4.trans (ExB.of e5)).trans b6).trans b7)
      have hid7 : Hid [l] H7 := fun a m => by rw [List.mem_singleton.mp m]; exact d7.ne
      have hRw : Rws p ds := ⟨by omega, hrw⟩
      obtain ⟨toL, nrm⟩ := hRw.toL
      refine fun y dy hy0 hdy ney => ?_
      have ex2 : (upd H7 dy (.own y)) y = none := by rw [upd_ne (Ne.symm ney)]; exact hy0
      have eN : Ex H7 (upd (upd H7 dy (.own y)) y (.ins C dy [])) := (Ex.new hdy).trans (Ex.new ex2)
      have hLN : Hid [l] (upd (upd H7 dy (.own y)) y (.ins C dy [])) := hid_ex eN hid7
      refine ⟨y, dy, .ref t, p, ds, [l], rfl, upd_same, p1, p3, fun b hb => ?_, .inl (g7.dp.up (w_past hy0 eN)), toL, fun H8 hk8 hS8 => ⟨rfl, ?_⟩⟩
      · rcases List.mem_cons.mp hb with z | z
        · rw [z, upd_same]
          simp
        · exact hLN b z
      have e8 : Ex H7 H8 := fun b o hb => hk8 b o (ne_of_none hb hy0) (eN b o hb)
      rw [nrm] at hS8
      have hy : Smp K [l] H8 y C p ds := hS8.low fun b hb => List.mem_cons_of_mem _ hb
      obtain ⟨dy2, vy, hyx, _⟩ := id hy
      have d8 := d7.ex e8
      have E8 := E7.trans e8
      refine ⟨y, dy2, _, rfl, hyx, rfl, y, p, ds, [l], rfl, hid_ex e8 hid7, p1, p3, by omega, hrw, hy, fun z H9 e9 hz hzl => ?_⟩
      have d9 := d8.ex e9
      have E9 := E8.trans e9
      have hzs : z.length ≤ sizeLine := by rw [sizeLine_eq]; omega
      obtain ⟨rows, rest, hsp⟩ := split_ends z
      have hsw := split_wt (x := z) (y := "\n") (by decide +kernel)
      rw [hsp, wt_app] at hsw
      have hrl := wt_len rows
      have hrA : ∀ r ∈ rows, Ascii r := fun r hr => part_ascii (y := "\n") hz (by rw [hsp]; exact List.mem_append_left _ hr)
      have hspm : (Txt.split z "\n").map V.str = rows.map V.str ++ [.str rest] := by rw [hsp, List.map_append]; rfl
      refine ⟨_, rfl, ⟨_, rfl⟩, _, _, rfl, rfl, by decide +kernel, by rw [sizeLine_eq]; omega, fun a ha => ⟨1, rfl, -1, rfl, a, (Txt.split z "\n").map V.str, rfl, SqL.of upd_same, fun pL hpL => ?_⟩⟩
      rw [hspm] at hpL ⊢
      show gName 5 (V.ref pL) _ (upd _ pL (.lst (cutV (rows.map V.str ++ [.str rest]) none (some (-1))))) _
      rw [cut_last]
      have e10 : Ex H9 (upd (upd H9 a (.lst (rows.map V.str ++ [.str rest]))) pL (.lst (rows.map V.str))) := (Ex.new ha).trans (Ex.new hpL)
      have hpx : (upd (upd H9 a (.lst (rows.map V.str ++ [.str rest]))) pL (.lst (rows.map V.str))) pL = some (.lst (rows.map V.str)) := upd_same
      have hpl : pL ≠ l := fun h => (d9.ex (Ex.new ha)).ne (by rw [← h]; exact hpL)
      generalize (upd (upd H9 a (.lst (rows.map V.str ++ [.str rest]))) pL (.lst (rows.map V.str))) = HA at e10 hpx ⊢
      have dA : Dr 703 HA l := d9.ex e10
      have EA := E9.trans e10
      refine draw_runJ (j := 2) (n := 703) (l := l) (many := (rows.length : Int) + 1) (by rfl) dA (by decide) (Evl.ev_is (Evl.ev_op (ev_lenS (xs := rows.map V.str) (Evl.ev_var (v := .ref pL) rfl) (.inl (SqL.of hpx))) Evl.ev_c (Evl.rv_I0 (g := fun i j => .int (i + j)))) (congrArg V.int (by rw [List.length_map]))) (by omega) (by omega) fun at_ HB a0 a1 dB bB => ?_
      obtain ⟨an, rfl⟩ := Int.eq_ofNat_of_zero_le a0
      refine pick_L (j := 2) (n := 704) (l := l) (ys := [("-0" : Str), "007", "999999", "1000000", "-99999", "-100000"]) (by rfl) dB (by decide) (Evl.el_lst (Evl.ea_cons Evl.ev_c (Evl.ea_cons Evl.ev_c (Evl.ea_cons Evl.ev_c (Evl.ea_cons Evl.ev_c (Evl.ea_cons Evl.ev_c (Evl.ea_cons Evl.ev_c Evl.ea_nil)))))) (by show 6 ≤ 100000; omega)) (by decide) (by decide) fun y1 HC hy1 dC bC => ?_
      have hy1 := ent_ok y1 hy1
      let od : List Str := [("" : Str), "yes", "places 1", "maybe 1", ("yes" : Str) ++ Txt.mul " 1" (p + 1), ("no" : Str) ++ Txt.mul " 1" (p - 1)]
      have mulr : ∀ (H' : Hp) (k : Int), 0 ≤ k → k ≤ 10 → Evl.RV (fun x y H Q => ∃ z k, x = V.str z ∧ y = V.int k ∧ 0 ≤ k ∧ k ≤ 1000 ∧ z.length ≤ 100 ∧ Q (V.str (Txt.mul z k)) H) (.str " 1") (.int k) H' (.str (Txt.mul " 1" k)) := fun H' k k0 k1 H1 e Q q => ⟨_, _, rfl, rfl, k0, by omega, by decide +kernel, q H1 (Ex.refl _)⟩
      have l5 : (Txt.mul " 1" (p + 1)).length ≤ 10 ∧ (Txt.mul " 1" (p - 1)).length ≤ 10 := by
        have cp : p = 1 ∨ p = 2 ∨ p = 3 := by omega
        rcases cp with rfl | rfl | rfl <;> decide +kernel
      have l3 : ("yes" : Str).length = 3 ∧ ("no" : Str).length = 2 ∧ ("\n" : Str).length = 1 ∧ (" " : Str).length = 1 := by decide +kernel
      refine Evl.q_asgL (xs := od.map V.str) (Evl.el_lst (Evl.ea_cons Evl.ev_c (Evl.ea_cons Evl.ev_c (Evl.ea_cons Evl.ev_c (Evl.ea_cons Evl.ev_c (Evl.ea_cons (ev_addS Evl.ev_c (Evl.ev_op Evl.ev_c (Evl.ev_op (Evl.ev_var (v := .int p) rfl) Evl.ev_c (Evl.rv_I0 (g := fun i j => .int (i + j)))) (mulr _ (p + 1) (by omega) (by omega))) (by omega)) (Evl.ea_cons (ev_addS Evl.ev_c (Evl.ev_op Evl.ev_c (Evl.ev_op (Evl.ev_var (v := .int p) rfl) Evl.ev_c (Evl.rv_I0 (g := fun i j => .int (i - j)))) (mulr _ (p - 1) (by omega) (by omega))) (by omega)) Evl.ea_nil)))))) (by show 6 ≤ 100000; omega)) fun O HD hO eD hOx => ?_
      have hOl : O ≠ l := fun h => dC.ne (by rw [← h]; exact hO)
      refine pick_V (j := 2) (i := 8) (n := 705) (l := l) (a := O) (ys := od) (by rfl) (by rfl) hOl hOx (dC.ex eD) (by decide) (by show 0 < 6; omega) (by show 6 < 1000; omega) fun y2 HE hy2 dE bE => ?_
      have hy2 := odd_ok ⟨p1, p3⟩ y2 hy2
      have bAE : ExB l HA HE := ((bB.trans bC).trans (ExB.of eD)).trans bE
      have EE : Ex H2 HE := exB_new hl' EA bAE
      have hpE : HE pL = some (.lst (rows.map V.str)) := bAE _ _ hpl hpx
      have hc := len_cut z none (some (-1))
      refine ⟨.str z, rfl, .str z, rfl, 1, rfl, -1, rfl, z, rfl, hzs, .str z, rfl, _, _, rfl, rfl, by rw [sizeLine_eq]; omega, .str z, rfl, _, _, rfl, rfl, by rw [sizeLine_eq]; omega, .ref l, rfl, .str z, rfl, l, z, 706, rfl, dE, by decide, hz, by omega, fun z5 HF a5 l5 d5' b5 => ⟨.ref l, rfl, .str z, rfl, l, z, 709, rfl, d5', by decide, hz, by omega, fun z6 HG a6 l6 d6' b6 => ⟨by show 7 ≤ sizeLine; decide, fun Tr hTr => ?_⟩⟩⟩
      have EG : Ex H2 HG := exB_new hl' EE (b5.trans b6)
      have hpG := (b5.trans b6) _ _ hpl hpE
      have AP : Apart H2 l pL Tr := ⟨hl', Evl.fresh_back EG hTr, hpl, fun h => d6'.ne (by rw [← h]; exact hTr), fun h => by rw [← h, hpG] at hTr; cases hTr⟩
      let z0s : List Str := [z, "", cutS z none (some (-1)), z ++ ("\n" : Str), z ++ ("yes" : Str), z5, z6]
      have LT0 : Late H2 (upd HG Tr (.lst (z0s.map V.str))) l pL Tr 712 rows z0s := ⟨EG.trans (Ex.new hTr), d6'.ex (Ex.new hTr), Ex.new hTr _ _ hpG, upd_same, fun y hy => by
        simp only [z0s, List.mem_cons, List.not_mem_nil, or_false] at hy
        rcases hy with rfl | rfl | rfl | rfl | rfl | rfl | rfl
        · exact ⟨hz, by omega⟩
        · exact ⟨ascii_lit, by decide +kernel⟩
        · exact ⟨ascii_cut hz, by omega⟩
        · exact ⟨ascii_app hz ascii_lit, by rw [Str.length_append]; omega⟩
        · exact ⟨ascii_app hz ascii_lit, by rw [Str.length_append]; omega⟩
        · exact ⟨a5, by omega⟩
        · exact ⟨a6, by omega⟩⟩
      show tSeq _ _ _ (List.set _ 9 (some (.ref Tr))) (upd HG Tr (.lst (z0s.map V.str)))
      generalize upd HG Tr (.lst (z0s.map V.str)) = HT at LT0 ⊢
      have zl0 : z0s.length = 7 := rfl
      generalize z0s = zs0 at LT0 zl0
      refine ⟨_, rfl, Or.inl ⟨rfl, _, SqL.of LT0.ht⟩, ?_⟩
      refine ⟨.ref l, rfl, .ref l, rfl, .str z, rfl, l, z, _, rfl, LT0.dr, by decide, hz, by omega, fun z7 HH a7 l7 d7' b7' => ⟨l, z7, _, rfl, d7', by decide, a7, by omega, fun z8 HI a8 l8 d8' b8' => ?_⟩⟩
      have LT1 := (LT0.exB AP b7' d7').exB AP b8' d8'
      refine ⟨Tr, _, .str z8, rfl, rfl, LT1.ht, by rw [List.length_map, zl0]; decide, ?_⟩
      have LT2 := LT1.app AP (y := z8) ⟨a8, by omega⟩
      generalize upd HI Tr (.lst (zs0.map V.str ++ [.str z8])) = HJ at LT2 ⊢
      obtain ⟨zs1, hzs1⟩ : ∃ zs1, zs1 = zs0 ++ [z8] := ⟨_, rfl⟩
      have zl1 : zs1.length = 8 := by rw [hzs1, List.length_append, zl0]; rfl
      rw [← hzs1] at LT2
      refine ⟨_, rfl, Or.inl ⟨rfl, _, SqL.of LT2.ht⟩, ⟨_, rfl⟩, ?_⟩
      have hrm : ∀ n, (rows.map V.str).take n = (rows.take n).map V.str := fun n => List.map_take.symm
      refine cat_run (el_catL (xs := (rows.map V.str).take an) (ys := [.str y2]) (el_to (n := an) (Evl.ev_var (v := .ref pL) rfl) (SqL.of LT2.hp) (Evl.ev_var rfl)) (Evl.el_lst (Evl.ea_cons (Evl.ev_var rfl) Evl.ea_nil) (by show 1 ≤ 100000; omega)) (by rw [List.length_take, List.length_map, List.length_singleton]; omega)) fun A3 HK hA3 eK hA3x => ?_
      refine ⟨.ref pL, rfl, .int an, rfl, ?_⟩
      refine draw_runJ (j := 2) (l := l) (many := 2) (by rfl) (LT2.dr.ex eK) (by decide) Evl.ev_c (by decide) (by decide) fun r HL r0 r1 dL bL => ?_
      obtain ⟨rn, rfl⟩ := Int.eq_ofNat_of_zero_le r0
      have LT3 := (LT2.up eK).exB AP bL dL
      have hA3l : A3 ≠ l := fun h => LT2.dr.ne (by rw [← h]; exact hA3)
      refine ⟨(an : Int), (rn : Int), rfl, rfl, (an : Int) + (rn : Int), rfl, pL, _, rfl, SqL.of LT3.hp, fun A4 hA4 => ?_⟩
      have w2 := wt_cut rows (show an ≤ an + rn by omega)
      have w3 : wt [y2] = y2.length + 1 := rfl
      have wl2 := wt_len (rows.take an)
      have wl3 := wt_len (rows.drop (an + rn))
      let ys : List Str := (rows.take an ++ [y2]) ++ rows.drop (an + rn)
      have hys : ((rows.map V.str).take an ++ [V.str y2]) ++ cutV (rows.map V.str) (some ((an : Int) + (rn : Int))) none = ys.map V.str := by
        rw [show ((an : Int) + (rn : Int)) = ((an + rn : Nat) : Int) by omega, cut_from, hrm, ← List.map_drop, List.map_append, List.map_append]
        rfl
      have wys : wt ys ≤ 620 := by
        show wt ((rows.take an ++ [y2]) ++ rows.drop (an + rn)) ≤ _
        rw [wt_app, wt_app]
        omega
      have hyA : ∀ q ∈ ys, Ascii q := fun q hq => by
        rcases List.mem_append.mp hq with hq | hq
        · rcases List.mem_append.mp hq with hq | hq
          · exact hrA q (List.mem_of_mem_take hq)
          · rw [List.mem_singleton.mp hq]
            exact hy2.1
        · exact hrA q (List.mem_of_mem_drop hq)
      have lys := len_sum ys
      have e4 := Ex.new (o := .lst (cutV (rows.map V.str) (some ((an : Int) + (rn : Int))) none)) hA4
      refine ⟨A3, A4, _, _, rfl, rfl, e4 _ _ (bL _ _ hA3l hA3x), upd_same, ?_, fun A5 hA5 => ?_⟩
      · rw [← List.length_append, hys, List.length_map, sizeLine_eq]
        omega
      rw [hys]
      have e5' := e4.trans (Ex.new (o := .lst (ys.map V.str)) hA5)
      have hj := join_wt (y := "\n") l3.2.2.1 ys
      refine ⟨"\n", A5, ys, rfl, rfl, .inl (SqL.of upd_same), by rw [l3.2.2.1]; omega, ?_⟩
      rw [TL.join_eq]
      refine ⟨_, _, rfl, rfl, by rw [sizeLine_eq]; omega, Tr, _, .str (Str.join "\n" ys ++ "\n"), rfl, rfl, (LT3.up e5').ht, by rw [List.length_map, zl1]; decide, ?_⟩
      have LT4 := (LT3.up e5').app AP (y := Str.join "\n" ys ++ "\n") ⟨ascii_app (ascii_join ascii_lit hyA) ascii_lit, by rw [Str.length_append]; omega⟩
      generalize upd (upd (upd HL A4 (.lst (cutV (rows.map V.str) (some ((an : Int) + (rn : Int))) none))) A5 (.lst (ys.map V.str))) Tr (.lst (zs1.map V.str ++ [.str (Str.join "\n" ys ++ "\n")])) = HM at LT4 ⊢
      obtain ⟨zs2, hzs2⟩ : ∃ zs2, zs2 = zs1 ++ [Str.join "\n" ys ++ "\n"] := ⟨_, rfl⟩
      have zl2 : zs2.length = 9 := by rw [hzs2, List.length_append, zl1]; rfl
      rw [← hzs2] at LT4
      refine ⟨_, rfl, Or.inl ⟨rfl, _, SqL.of LT4.ht⟩, ?_⟩
      let y3 : Str := z ++ Str.join " " (("no" : Str) :: List.replicate p.toNat y1) ++ "\n"
      have w4 : wt (("no" : Str) :: List.replicate p.toNat y1) ≤ 60 := by
        have h := sum_le (fun z : Str => z.length + 1) 13 (("no" : Str) :: List.replicate p.toNat y1) fun q hq => by
          rcases List.mem_cons.mp hq with hq | hq
          · rw [hq]; omega
          · rw [List.eq_of_mem_replicate hq]; omega
        have h2 : (("no" : Str) :: List.replicate p.toNat y1).length ≤ 4 := by rw [List.length_cons, List.length_replicate]; omega
        have h3 : wt (("no" : Str) :: List.replicate p.toNat y1) ≤ 13 * (("no" : Str) :: List.replicate p.toNat y1).length := h
        omega
      have hj2 := join_wt (y := " ") l3.2.2.2 (("no" : Str) :: List.replicate p.toNat y1)
      have aj2 : Ascii (Str.join " " (("no" : Str) :: List.replicate p.toNat y1)) := ascii_join ascii_lit fun q hq => by
        rcases List.mem_cons.mp hq with hq | hq
        · rw [hq]; exact ascii_lit
        · rw [List.eq_of_mem_replicate hq]; exact hy1.1
      refine one_run (v := .str y3) (ev_addS (ev_addS (Evl.ev_var rfl) (ev_join (el_catL (xs := [.str "no"]) (Evl.el_lst (Evl.ea_cons Evl.ev_c Evl.ea_nil) (by show 1 ≤ 100000; omega)) (el_rep1 (Evl.ev_var rfl) (Evl.ev_var (v := .int p) rfl) (by omega) (by omega)) (by rw [List.length_map, List.length_replicate, List.length_singleton]; omega)) l3.2.2.2 (by omega)) (by omega)) Evl.ev_c (by rw [Str.length_append]; omega)) fun HN eN2 => ?_
      have LT5 := (LT4.up eN2).app AP (y := y3) ⟨ascii_app (ascii_app hz aj2) ascii_lit, by show (z ++ _ ++ ("\n" : Str)).length ≤ _; rw [Str.length_append, Str.length_append]; omega⟩
      refine ⟨Tr, _, .str y3, rfl, rfl, (LT4.up eN2).ht, by rw [List.length_map, zl2]; decide, ?_⟩
      generalize upd HN Tr (.lst (zs2.map V.str ++ [.str y3])) = HP at LT5 ⊢
      obtain ⟨zs3, hzs3⟩ : ∃ zs3, zs3 = zs2 ++ [y3] := ⟨_, rfl⟩
      have zl3 : zs3.length = 10 := by rw [hzs3, List.length_append, zl2]; rfl
      rw [← hzs3] at LT5
      refine ⟨_, rfl, Or.inl ⟨rfl, _, SqL.of LT5.ht⟩, ?_⟩
      let ys2 : List Str := rows.take an ++ rows.drop (an + 1)
      have w5 := wt_cut rows (show an ≤ an + 1 by omega)
      have wys2 : wt ys2 ≤ 610 := by
        show wt (rows.take an ++ rows.drop (an + 1)) ≤ _
        rw [wt_app]
        omega
      have hj3 := join_wt (y := "\n") l3.2.2.1 ys2
      have aj3 : Ascii (Str.join "\n" ys2) := ascii_join ascii_lit fun q hq => by
        rcases List.mem_append.mp hq with hq | hq
        · exact hrA q (List.mem_of_mem_take hq)
        · exact hrA q (List.mem_of_mem_drop hq)
      have cat2 : ∀ H', Ex HP H' → Evl.EvL (tOp rCat (tSl (rSlL K) (tVar 5) tNoPart (tPart (tVar 6))) (tSl (rSlL K) (tVar 5) (tPart (tOp (rI0 fun i j => V.int (i + j)) (tVar 6) (tC (.int 1)))) tNoPart)) [some (.ref sa), some (.int i), some (.ref l), some (.int p), some (.str z), some (.ref pL), some (.int (an : Int)), some (.str y1), some (.str y2), some (.ref Tr), o10] H' (ys2.map V.str) := fun H' e' => by
        have e : ys2.map V.str = (rows.map V.str).take an ++ (rows.map V.str).drop (an + 1) := by
          show (rows.take an ++ rows.drop (an + 1)).map V.str = _
          rw [List.map_append, List.map_take, List.map_drop]
        rw [e]
        exact el_catL (el_to (n := an) (Evl.ev_var (v := .ref pL) rfl) (SqL.of (e' _ _ LT5.hp)) (Evl.ev_var rfl)) (el_from (n := an + 1) (Evl.ev_var (v := .ref pL) rfl) (SqL.of (e' _ _ LT5.hp)) (Evl.ev_is (Evl.ev_op (Evl.ev_var (v := .int (an : Int)) rfl) Evl.ev_c (Evl.rv_I0 (g := fun i j => .int (i + j)))) (congrArg V.int (by omega)))) (by rw [List.length_take, List.length_drop, List.length_map]; omega)
      refine one_run (v := .str (Str.join "\n" ys2 ++ "\n")) (ev_addS (ev_join (cat2 _ (Ex.refl _)) l3.2.2.1 (by omega)) Evl.ev_c (by omega)) fun HQ eQ => ?_
      have LT6 := (LT5.up eQ).app AP (y := Str.join "\n" ys2 ++ "\n") ⟨ascii_app aj3 ascii_lit, by rw [Str.length_append]; omega⟩
      refine ⟨Tr, _, .str (Str.join "\n" ys2 ++ "\n"), rfl, rfl, (LT5.up eQ).ht, by rw [List.length_map, zl3]; decide, ?_⟩
      generalize upd HQ Tr (.lst (zs3.map V.str ++ [.str (Str.join "\n" ys2 ++ "\n")])) = HR at LT6 ⊢
      obtain ⟨zs4, hzs4⟩ : ∃ zs4, zs4 = zs3 ++ [Str.join "\n" ys2 ++ "\n"] := ⟨_, rfl⟩
      have zl4 : zs4.length = 11 := by rw [hzs4, List.length_append, zl3]; rfl
      rw [← hzs4] at LT6
      dsimp only [List.set]
      refine Evl.s_when (b := false) (Evl.et_is (Evl.et_not (a := true) (Evl.et_B (Evl.ev_is (ev_all (bs := List.replicate zs4.length true) ?_) (congrArg V.bl (by simp))))) rfl) (fun z => nomatch z) (fun _ HS eS => ?_)
      · have gv : Evl.given (zs4.map V.str).length (fun _ => true) (fun _ => V.bl true) = (List.replicate zs4.length true).map V.bl := by
          rw [given_all, List.length_map, List.map_const', List.length_range, List.map_replicate]
        rw [← gv]
        refine Evl.el_lcL (fun _ => true) (fun _ => V.bl true) (Evl.ev_var (v := .ref Tr) rfl) (SqL.of LT6.ht) (by rw [List.length_map, zl4]; decide) (fun _ => rfl) (fun i z H1 e1 hz H2 e2 Q q => q H2 (Ex.refl _)) (fun j x H1 e1 hx _ => ?_)
        rw [List.getElem?_map] at hx
        obtain ⟨y, hy, rfl⟩ := Option.map_eq_some_iff.mp hx
        obtain ⟨ya, yl⟩ := LT6.ok y (List.mem_of_getElem? hy)
        obtain ⟨rw2, re2, hs2⟩ := split_ends y
        exact same_ev (n := 5) (d := dataR (readL rw2 re2)) (evd_readL (Evl.ev_var rfl) ya (by omega) hs2) (evd_readL (Evl.ev_var rfl) ya (by omega) hs2) (fits_data (by omega) hs2)
      · exact ⟨e02.trans (LT6.ex.trans eS), _, _, _, _, _, _, _, _, _, _, rfl⟩
    · rintro σ' H2 ⟨e02, o1, o2, o3, o4, o5, o6, o7, o8, o9, o10, rfl⟩
      exact Evl.s_ret (v := .bl true) Evl.ev_c fun H3 e3 => k H3 (e02.trans e3)
end
end U

set_option Elab.async false
set_option linter.all false
set_option maxRecDepth 100000
set_option maxHeartbeats 8000000
namespace U
open PySem L2
open Evl (Ex)
/-! ### a class of errors -/
abbrev veL : List Value := [.type "ValueError", .type "Exception", .type "BaseException", .type "object"]
theorem clsIn_of {K : PySem.W.Frag} {nm q : Str} {C N : Addr} {bs bm : List Value} {hd : Bool} {sn : List Str} {sub : List Value} {ab : Bool} {col : Option Bool} {dd : Option Addr} {k0 k1 k2 k3 k5 : Option Value} {nid : String}
    (l : K.lookup C = some (excClassObj nm q C N bs bm hd sn sub ab col dd k0 k1 k2 k3 k5 nid)) : PySem.W.clsIn K C = some { name := nm, bases := bs, mro := .ref C :: bm, ns := N, qualname := q, hasDict := hd, slotNames := sn, subclasses := sub, abstract := ab, collection := col, hasDel := false } := by
  unfold PySem.W.clsIn
  rw [l]
/-- at C a class of errors whose bases' row is bm -/
def IsErr (K : PySem.W.Frag) (C : Addr) (bm : List Value) : Prop := ∃ (nm q : Str) (N : Addr) (bs : List Value) (sn : List Str) (sub : List Value) (ab : Bool) (col : Option Bool) (dd : Option Addr) (k0 k1 k2 k3 k5 : Option Value),
  K.lookup C = some (excClassObj nm q C N bs bm true sn sub ab col dd k0 k1 k2 k3 k5 "ValueError.__new__")
section
variable {K : PySem.W.Frag} {C D : Addr} {bm bm2 : List Value}
theorem IsErr.mro (h : IsErr K C bm) (c : Value) : PySem.W.mroIn K C c = some ((Value.ref C :: bm).contains c) := by
  obtain ⟨nm, q, N, bs, sn, sub, ab, col, dd, k0, k1, k2, k3, k5, l⟩ := h
  unfold PySem.W.mroIn
  rw [clsIn_of l]
  rfl
theorem IsErr.ty (h : IsErr K C bm) : PySem.W.typeIn K (.ref C) = some (.type "type") := by
  obtain ⟨nm, q, N, bs, sn, sub, ab, col, dd, k0, k1, k2, k3, k5, l⟩ := h
  show (K.lookup C).map (fun o => o.cls) = some (.type "type")
  rw [l]
  rfl
theorem IsErr.isSm (h : IsErr K C bm) : (PySem.W.clsIn K C).isSome = true := by
  obtain ⟨nm, q, N, bs, sn, sub, ab, col, dd, k0, k1, k2, k3, k5, l⟩ := h
  rw [clsIn_of l]
  rfl
theorem IsErr.dct (h : IsErr K C bm) : PySem.W.hasDictIn K C = true := by
  obtain ⟨nm, q, N, bs, sn, sub, ab, col, dd, k0, k1, k2, k3, k5, l⟩ := h
  unfold PySem.W.hasDictIn
  rw [clsIn_of l]
  rfl
theorem IsErr.kit (h : IsErr K C bm) (h2 : IsErr K D bm2) : PySem.W.kitOne K (.ref C) (.ref D) = some ((Value.ref C :: bm).contains (.ref D)) := by
  unfold PySem.W.kitOne
  by_cases e : C = D
  · subst e
    rw [if_pos (by simp)]
    simp
  · rw [if_neg (by simpa using e)]
    unfold PySem.W.kitCls
    have z : ((PySem.W.clsIn K D).isSome && PySem.W.typeIn K (.ref D) == some (.type "type")) = true := by
      rw [h2.isSm, h2.ty]
      rfl
    show (if _ then _ else _) = _
    rw [if_pos z]
    exact h.mro _
theorem IsErr.kitV (h : IsErr K C bm) : PySem.W.kitOne K (.ref C) (.type "ValueError") = some ((Value.ref C :: bm).contains (.type "ValueError")) := by
  unfold PySem.W.kitOne
  rw [if_neg (by simp)]
  unfold PySem.W.kitCls
  show (if _ then _ else _) = _
  rw [if_pos (by decide +kernel)]
  exact h.mro _
/-- what the look at the written part gives of such a class -/
structure ErrF (K : PySem.W.Frag) (C : Addr) : Prop where
  sa : PySem.W.findIn K (.ref C) "__setattr__" = some (some (.builtin "object.__setattr__"))
  ga : PySem.W.findIn K (.ref C) "__getattribute__" = some (some (.builtin "BaseException.__getattribute__"))
  gg : PySem.W.findIn K (.ref C) "__getattr__" = some none
  ha : PySem.W.findIn K (.ref C) "__class__" = some (some (.builtin "object.__class__"))
  kC : PySem.W.keepIn K (.ref C) = true
theorem isi_of (h : IsErr K C bm) (F : ErrF K C) (hv : PySem.HandSPX.refsVE bm = true) (hn : PySem.W.specialIn K (.builtin "object.__class__") "__get__" = some (some (.builtin "getset_descriptor.__get__"))) (ht : PySem.W.takesIn K (.builtin "object.__class__") = some true) : IsiC K C :=
  { cl := h.isSm, hg := F.ga, hk := F.gg, hs := (h.mro _).trans (congrArg _ ((List.contains_cons ..).trans (by rw [PySem.HandSPX.refsVE_contains _ _ hv]; exact (Bool.or_eq_true_iff.mpr (.inr (by decide +kernel)))))), ha := F.ha, hn := hn, ht := ht,
    hm := (h.mro _).trans (congrArg _ ((List.contains_cons ..).trans (by rw [PySem.HandSPX.refsVE_contains _ _ hv]; exact (Bool.or_eq_true_iff.mpr (.inr (by decide +kernel)))))) }
theorem oex_of (h : IsErr K C bm) (F : ErrF K C) (hv : PySem.HandSPX.refsVE bm = true) (Z : IsiC K C) : OexC K C := by
  obtain ⟨nm, q, N, bs, sn, sub, ab, col, dd, k0, k1, k2, k3, k5, l⟩ := id h
  exact { cls := ⟨nm, q, N, bs, bm, sn, sub, ab, col, dd, k0, k1, k2, k3, k5, l, hv⟩, sa := F.sa, exC := Z.hs, tyC := h.ty, kC := F.kC }
theorem xf_of (h : IsErr K C bm) (F : ErrF K C) (Z : IsiC K C) : XfC K C := { ga := F.ga, gg := F.gg, exC := Z.hs, hdC := h.dct }
end
abbrev s_BadLine_init : Stmt := inClass (top 6) 0
abbrev sc_BadLine_init_N : List Str := ["self", "line"]
theorem sc_BadLine_init : FnScope sc_BadLine_init_N ["self", "line"] (defScope s_BadLine_init) := ⟨rfl, rfl, rfl, by decide +kernel, rfl, by decide +kernel, by decide +kernel⟩
theorem ok_BadLine {P : Program} {w : World} {K : PySem.W.Frag} {mg : Str → Option Value} {base : Heap} {C fI : Addr} {fd : FuncData} (gC : mg "BadLine" = some (.ref C)) (T : OexC K C) (x : XfC K C) (no : PySem.W.findIn K (.ref C) "line" = some none) (iC : PySem.W.findIn K (.ref C) "__init__" = some (some (.ref fI))) (tI : PySem.W.typeIn K (.ref fI) = some (.type "function"))
    (F : Fun K "__init__" "BadLine.__init__" s_BadLine_init fI fd) (hb : Binds K fd ["self", "line"] []) (hi : ∀ (s : Shared) (u v : Value), BindsTo s fd ⟨[u], [("line", v)]⟩ [("self", u), ("line", v)]) : ErrC P w K mg base "BadLine" C "line" := by
  refine ⟨T, gC, x, no, fI, _, iC, tI, ?_, hb, hi⟩
  refine F.ok sc_BadLine_init (fun vs H Q E h => ?_) (fun cdv A outer s H vs Q E hr h => ?_)
  · obtain ⟨_, _, rfl, _⟩ := h
    rfl
  · obtain ⟨a, v, rfl, ha, k⟩ := h
    exact ⟨_, pss_one (ps_ost (pv 0) (pv 1)), ⟨_, rfl, _, rfl, a, C, rfl, T, no, .inl ⟨ha, fun dx hd n => k dx hd n⟩⟩⟩
end U

set_option Elab.async false
set_option linter.all false
set_option maxRecDepth 100000
set_option maxHeartbeats 8000000
namespace U
open PySem PySem.Spec PyProof.Rows L2
open Evl (Ex)
open C8 (Met Mak)
theorem kit_self {K : PySem.W.Frag} {C : Addr} : PySem.W.kitOne K (.ref C) (.ref C) = some true := by
  unfold PySem.W.kitOne
  rw [if_pos (by simp)]
theorem all_mk {l : PySem.W.OpenLaw} {w : World} {K : PySem.W.Frag} {h : Heap} {mg : Str → Option Value} {fa C T0 E0 fF_is_integer fF_is_label fF_is_row fF_is_row_of fF_is_number_of_places fF_is_point fF_is_example fF_copied_example fF_read_sample fF_places_in fF_Pis_example fF_is_written_integer fL_source fL_draw fL_pick fL_same fL_point fL_rows fL_entry fL_read fL_bent fL_met fL_law CBT Tc NBT fBT fM_init fM_examples fM_text : Addr} {ocT : Value} {odT : Option Addr} {nT : Nat} {slT : Array (Option Value)} {tL tM tI : Tok}
   {ocF_is_integer kVF_is_integer dcF_is_integer pmF_is_integer cdF_is_integer ctF_is_integer : Value} {odF_is_integer anF_is_integer : Option Addr} {slF_is_integer : Array (Option Value)} {ocF_is_label kVF_is_label dcF_is_label pmF_is_label cdF_is_label ctF_is_label : Value} {odF_is_label anF_is_label : Option Addr} {slF_is_label : Array (Option Value)} {ocF_is_row kVF_is_row dcF_is_row pmF_is_row cdF_is_row ctF_is_row : Value} {odF_is_row anF_is_row : Option Addr} {slF_is_row : Array (Option Value)} {ocF_is_row_of kVF_is_row_of dcF_is_row_of pmF_is_row_of cdF_is_row_of ctF_is_row_of : Value} {odF_is_row_of anF_is_row_of : Option Addr} {slF_is_row_of : Array (Option Value)} {ocF_is_number_of_places kVF_is_number_of_places dcF_is_number_of_places pmF_is_number_of_places cdF_is_number_of_places ctF_is_number_of_places : Value} {odF_is_number_of_places anF_is_number_of_places : Option Addr} {slF_is_number_of_places : Array (Option Value)} {ocF_is_point kVF_is_point dcF_is_point pmF_is_point cdF_is_point ctF_is_point : Value} {odF_is_point anF_is_point : Option Addr} {slF_is_point : Array (Option Value)} {ocF_is_example kVF_is_example dcF_is_example pmF_is_example cdF_is_example ctF_is_example : Value} {odF_is_example anF_is_example : Option Addr} {slF_is_example : Array (Option Value)} {ocF_copied_example kVF_copied_example dcF_copied_example pmF_copied_example cdF_copied_example ctF_copied_example : Value} {odF_copied_example anF_copied_example : Option Addr} {slF_copied_example : Array (Option Value)} {ocF_read_sample kVF_read_sample dcF_read_sample pmF_read_sample cdF_read_sample ctF_read_sample : Value} {odF_read_sample anF_read_sample : Option Addr} {slF_read_sample : Array (Option Value)} {ocF_places_in kVF_places_in dcF_places_in pmF_places_in cdF_places_in ctF_places_in : Value} {odF_places_in anF_places_in : Option Addr} {slF_places_in : Array (Option Value)} {ocF_Pis_example kVF_Pis_example dcF_Pis_example pmF_Pis_example cdF_Pis_example ctF_Pis_example : Value} {odF_Pis_example anF_Pis_example : Option Addr} {slF_Pis_example : Array (Option Value)} {ocF_is_written_integer kVF_is_written_integer dcF_is_written_integer pmF_is_written_integer cdF_is_written_integer ctF_is_written_integer : Value} {odF_is_written_integer anF_is_written_integer : Option Addr} {slF_is_written_integer : Array (Option Value)} {ocL_source kVL_source dcL_source pmL_source cdL_source ctL_source : Value} {odL_source anL_source : Option Addr} {slL_source : Array (Option Value)} {ocL_draw kVL_draw dcL_draw pmL_draw cdL_draw ctL_draw : Value} {odL_draw anL_draw : Option Addr} {slL_draw : Array (Option Value)} {ocL_pick kVL_pick dcL_pick pmL_pick cdL_pick ctL_pick : Value} {odL_pick anL_pick : Option Addr} {slL_pick : Array (Option Value)} {ocL_same kVL_same dcL_same pmL_same cdL_same ctL_same : Value} {odL_same anL_same : Option Addr} {slL_same : Array (Option Value)} {ocL_point kVL_point dcL_point pmL_point cdL_point ctL_point : Value} {odL_point anL_point : Option Addr} {slL_point : Array (Option Value)} {ocL_rows kVL_rows dcL_rows pmL_rows cdL_rows ctL_rows : Value} {odL_rows anL_rows : Option Addr} {slL_rows : Array (Option Value)} {ocL_entry kVL_entry dcL_entry pmL_entry cdL_entry ctL_entry : Value} {odL_entry anL_entry : Option Addr} {slL_entry : Array (Option Value)} {ocL_read kVL_read dcL_read pmL_read cdL_read ctL_read : Value} {odL_read anL_read : Option Addr} {slL_read : Array (Option Value)} {ocL_bent kVL_bent dcL_bent pmL_bent cdL_bent ctL_bent : Value} {odL_bent anL_bent : Option Addr} {slL_bent : Array (Option Value)} {ocL_met kVL_met dcL_met pmL_met cdL_met ctL_met : Value} {odL_met anL_met : Option Addr} {slL_met : Array (Option Value)} {ocL_law kVL_law dcL_law pmL_law cdL_law ctL_law : Value} {odL_law anL_law : Option Addr} {slL_law : Array (Option Value)} {nmBT qnBT : Str} {bsBT : List Value} {snBT : List Str} {sbBT : List Value} {abBT : Bool} {coBT : Option Bool} {ddBT : Option Addr} {p0BT p1BT p2BT p3BT p5BT : Option Value} {ocBT kVBT dcBT pmBT cdBT ctBT : Value} {odBT anBT : Option Addr} {slBT : Array (Option Value)} {ocM_init kVM_init dcM_init pmM_init cdM_init ctM_init : Value} {odM_init anM_init : Option Addr} {slM_init : Array (Option Value)} {ocM_examples kVM_examples dcM_examples pmM_examples cdM_examples ctM_examples : Value} {odM_examples anM_examples : Option Addr} {slM_examples : Array (Option Value)} {ocM_text kVM_text dcM_text pmM_text cdM_text ctM_text : Value} {odM_text anM_text : Option Addr} {slM_text : Array (Option Value)} (X : K.In h) (G : h.Ns mainGlobals mg) (hfa : mg "law" = some (.ref fa))
    (aF_is_integer : PySem.W.nsIn K mainGlobals "is_integer" = some (some (.ref fF_is_integer)))
    (lF_is_integer : K.lookup fF_is_integer = some ⟨ocF_is_integer, odF_is_integer, .func (PySem.W.fnOf "is_integer" "is_integer" (defArgs s_is_integer) (defBody s_is_integer) (defScope s_is_integer) .none kVF_is_integer dcF_is_integer pmF_is_integer anF_is_integer cdF_is_integer ctF_is_integer), slF_is_integer⟩)
    (cF_is_integer : PySem.W.codeIn K cdF_is_integer "is_integer" = true)
    (kF_is_integer : PySem.W.keepIn K (.ref fF_is_integer) = true)
    (aF_is_label : PySem.W.nsIn K mainGlobals "is_label" = some (some (.ref fF_is_label)))
    (lF_is_label : K.lookup fF_is_label = some ⟨ocF_is_label, odF_is_label, .func (PySem.W.fnOf "is_label" "is_label" (defArgs s_is_label) (defBody s_is_label) (defScope s_is_label) .none kVF_is_label dcF_is_label pmF_is_label anF_is_label cdF_is_label ctF_is_label), slF_is_label⟩)
    (cF_is_label : PySem.W.codeIn K cdF_is_label "is_label" = true)
    (kF_is_label : PySem.W.keepIn K (.ref fF_is_label) = true)
    (aF_is_row : PySem.W.nsIn K mainGlobals "is_row" = some (some (.ref fF_is_row)))
    (lF_is_row : K.lookup fF_is_row = some ⟨ocF_is_row, odF_is_row, .func (PySem.W.fnOf "is_row" "is_row" (defArgs s_is_row) (defBody s_is_row) (defScope s_is_row) .none kVF_is_row dcF_is_row pmF_is_row anF_is_row cdF_is_row ctF_is_row), slF_is_row⟩)
    (cF_is_row : PySem.W.codeIn K cdF_is_row "is_row" = true)
    (kF_is_row : PySem.W.keepIn K (.ref fF_is_row) = true)
    (aF_is_row_of : PySem.W.nsIn K mainGlobals "is_row_of" = some (some (.ref fF_is_row_of)))
    (lF_is_row_of : K.lookup fF_is_row_of = some ⟨ocF_is_row_of, odF_is_row_of, .func (PySem.W.fnOf "is_row_of" "is_row_of" (defArgs s_is_row_of) (defBody s_is_row_of) (defScope s_is_row_of) .none kVF_is_row_of dcF_is_row_of pmF_is_row_of anF_is_row_of cdF_is_row_of ctF_is_row_of), slF_is_row_of⟩)
    (cF_is_row_of : PySem.W.codeIn K cdF_is_row_of "is_row_of" = true)
    (kF_is_row_of : PySem.W.keepIn K (.ref fF_is_row_of) = true)
    (aF_is_number_of_places : PySem.W.nsIn K mainGlobals "is_number_of_places" = some (some (.ref fF_is_number_of_places)))
    (lF_is_number_of_places : K.lookup fF_is_number_of_places = some ⟨ocF_is_number_of_places, odF_is_number_of_places, .func (PySem.W.fnOf "is_number_of_places" "is_number_of_places" (defArgs s_is_number_of_places) (defBody s_is_number_of_places) (defScope s_is_number_of_places) .none kVF_is_number_of_places dcF_is_number_of_places pmF_is_number_of_places anF_is_number_of_places cdF_is_number_of_places ctF_is_number_of_places), slF_is_number_of_places⟩)
    (cF_is_number_of_places : PySem.W.codeIn K cdF_is_number_of_places "is_number_of_places" = true)
    (kF_is_number_of_places : PySem.W.keepIn K (.ref fF_is_number_of_places) = true)
    (aF_is_point : PySem.W.nsIn K mainGlobals "is_point" = some (some (.ref fF_is_point)))
    (lF_is_point : K.lookup fF_is_point = some ⟨ocF_is_point, odF_is_point, .func (PySem.W.fnOf "is_point" "is_point" (defArgs s_is_point) (defBody s_is_point) (defScope s_is_point) .none kVF_is_point dcF_is_point pmF_is_point anF_is_point cdF_is_point ctF_is_point), slF_is_point⟩)
    (cF_is_point : PySem.W.codeIn K cdF_is_point "is_point" = true)
    (kF_is_point : PySem.W.keepIn K (.ref fF_is_point) = true)
    (aF_is_example : PySem.W.nsIn K mainGlobals "is_example" = some (some (.ref fF_is_example)))
    (lF_is_example : K.lookup fF_is_example = some ⟨ocF_is_example, odF_is_example, .func (PySem.W.fnOf "is_example" "is_example" (defArgs s_is_example) (defBody s_is_example) (defScope s_is_example) .none kVF_is_example dcF_is_example pmF_is_example anF_is_example cdF_is_example ctF_is_example), slF_is_example⟩)
    (cF_is_example : PySem.W.codeIn K cdF_is_example "is_example" = true)
    (kF_is_example : PySem.W.keepIn K (.ref fF_is_example) = true)
    (aF_copied_example : PySem.W.nsIn K mainGlobals "copied_example" = some (some (.ref fF_copied_example)))
    (lF_copied_example : K.lookup fF_copied_example = some ⟨ocF_copied_example, odF_copied_example, .func (PySem.W.fnOf "copied_example" "copied_example" (defArgs s_copied_example) (defBody s_copied_example) (defScope s_copied_example) .none kVF_copied_example dcF_copied_example pmF_copied_example anF_copied_example cdF_copied_example ctF_copied_example), slF_copied_example⟩)
    (cF_copied_example : PySem.W.codeIn K cdF_copied_example "copied_example" = true)
    (kF_copied_example : PySem.W.keepIn K (.ref fF_copied_example) = true)
    (aF_read_sample : PySem.W.nsIn K mainGlobals "read_sample" = some (some (.ref fF_read_sample)))
    (lF_read_sample : K.lookup fF_read_sample = some ⟨ocF_read_sample, odF_read_sample, .func (PySem.W.fnOf "read_sample" "read_sample" (defArgs s_read_sample) (defBody s_read_sample) (defScope s_read_sample) .none kVF_read_sample dcF_read_sample pmF_read_sample anF_read_sample cdF_read_sample ctF_read_sample), slF_read_sample⟩)
    (cF_read_sample : PySem.W.codeIn K cdF_read_sample "read_sample" = true)
    (kF_read_sample : PySem.W.keepIn K (.ref fF_read_sample) = true)
    (aF_places_in : PySem.W.nsIn K mainGlobals "_places_in" = some (some (.ref fF_places_in)))
    (lF_places_in : K.lookup fF_places_in = some ⟨ocF_places_in, odF_places_in, .func (PySem.W.fnOf "_places_in" "_places_in" (defArgs s_places_in) (defBody s_places_in) (defScope s_places_in) .none kVF_places_in dcF_places_in pmF_places_in anF_places_in cdF_places_in ctF_places_in), slF_places_in⟩)
    (cF_places_in : PySem.W.codeIn K cdF_places_in "_places_in" = true)
    (kF_places_in : PySem.W.keepIn K (.ref fF_places_in) = true)
    (aF_Pis_example : PySem.W.nsIn K mainGlobals "_is_example" = some (some (.ref fF_Pis_example)))
    (lF_Pis_example : K.lookup fF_Pis_example = some ⟨ocF_Pis_example, odF_Pis_example, .func (PySem.W.fnOf "_is_example" "_is_example" (defArgs s_Pis_example) (defBody s_Pis_example) (defScope s_Pis_example) .none kVF_Pis_example dcF_Pis_example pmF_Pis_example anF_Pis_example cdF_Pis_example ctF_Pis_example), slF_Pis_example⟩)
    (cF_Pis_example : PySem.W.codeIn K cdF_Pis_example "_is_example" = true)
    (kF_Pis_example : PySem.W.keepIn K (.ref fF_Pis_example) = true)
    (aF_is_written_integer : PySem.W.nsIn K mainGlobals "_is_written_integer" = some (some (.ref fF_is_written_integer)))
    (lF_is_written_integer : K.lookup fF_is_written_integer = some ⟨ocF_is_written_integer, odF_is_written_integer, .func (PySem.W.fnOf "_is_written_integer" "_is_written_integer" (defArgs s_is_written_integer) (defBody s_is_written_integer) (defScope s_is_written_integer) .none kVF_is_written_integer dcF_is_written_integer pmF_is_written_integer anF_is_written_integer cdF_is_written_integer ctF_is_written_integer), slF_is_written_integer⟩)
    (cF_is_written_integer : PySem.W.codeIn K cdF_is_written_integer "_is_written_integer" = true)
    (kF_is_written_integer : PySem.W.keepIn K (.ref fF_is_written_integer) = true)
    (aL_source : PySem.W.nsIn K mainGlobals "_law_source" = some (some (.ref fL_source)))
    (lL_source : K.lookup fL_source = some ⟨ocL_source, odL_source, .func (PySem.W.fnOf "_law_source" "_law_source" (defArgs s_source) (defBody s_source) (defScope s_source) .none kVL_source dcL_source pmL_source anL_source cdL_source ctL_source), slL_source⟩)
    (cL_source : PySem.W.codeIn K cdL_source "_law_source" = true)
    (kL_source : PySem.W.keepIn K (.ref fL_source) = true)
    (aL_draw : PySem.W.nsIn K mainGlobals "_law_draw" = some (some (.ref fL_draw)))
    (lL_draw : K.lookup fL_draw = some ⟨ocL_draw, odL_draw, .func (PySem.W.fnOf "_law_draw" "_law_draw" (defArgs s_draw) (defBody s_draw) (defScope s_draw) .none kVL_draw dcL_draw pmL_draw anL_draw cdL_draw ctL_draw), slL_draw⟩)
    (cL_draw : PySem.W.codeIn K cdL_draw "_law_draw" = true)
    (kL_draw : PySem.W.keepIn K (.ref fL_draw) = true)
    (aL_pick : PySem.W.nsIn K mainGlobals "_law_pick" = some (some (.ref fL_pick)))
    (lL_pick : K.lookup fL_pick = some ⟨ocL_pick, odL_pick, .func (PySem.W.fnOf "_law_pick" "_law_pick" (defArgs s_pick) (defBody s_pick) (defScope s_pick) .none kVL_pick dcL_pick pmL_pick anL_pick cdL_pick ctL_pick), slL_pick⟩)
    (cL_pick : PySem.W.codeIn K cdL_pick "_law_pick" = true)
    (kL_pick : PySem.W.keepIn K (.ref fL_pick) = true)
    (aL_same : PySem.W.nsIn K mainGlobals "_law_same" = some (some (.ref fL_same)))
    (lL_same : K.lookup fL_same = some ⟨ocL_same, odL_same, .func (PySem.W.fnOf "_law_same" "_law_same" (defArgs s_same) (defBody s_same) (defScope s_same) .none kVL_same dcL_same pmL_same anL_same cdL_same ctL_same), slL_same⟩)
    (cL_same : PySem.W.codeIn K cdL_same "_law_same" = true)
    (kL_same : PySem.W.keepIn K (.ref fL_same) = true)
    (aL_point : PySem.W.nsIn K mainGlobals "_law_point" = some (some (.ref fL_point)))
    (lL_point : K.lookup fL_point = some ⟨ocL_point, odL_point, .func (PySem.W.fnOf "_law_point" "_law_point" (defArgs s_point) (defBody s_point) (defScope s_point) .none kVL_point dcL_point pmL_point anL_point cdL_point ctL_point), slL_point⟩)
    (cL_point : PySem.W.codeIn K cdL_point "_law_point" = true)
    (kL_point : PySem.W.keepIn K (.ref fL_point) = true)
    (aL_rows : PySem.W.nsIn K mainGlobals "_law_rows" = some (some (.ref fL_rows)))
    (lL_rows : K.lookup fL_rows = some ⟨ocL_rows, odL_rows, .func (PySem.W.fnOf "_law_rows" "_law_rows" (defArgs s_rows) (defBody s_rows) (defScope s_rows) .none kVL_rows dcL_rows pmL_rows anL_rows cdL_rows ctL_rows), slL_rows⟩)
    (cL_rows : PySem.W.codeIn K cdL_rows "_law_rows" = true)
    (kL_rows : PySem.W.keepIn K (.ref fL_rows) = true)
    (aL_entry : PySem.W.nsIn K mainGlobals "_law_entry" = some (some (.ref fL_entry)))
    (lL_entry : K.lookup fL_entry = some ⟨ocL_entry, odL_entry, .func (PySem.W.fnOf "_law_entry" "_law_entry" (defArgs s_entry) (defBody s_entry) (defScope s_entry) .none kVL_entry dcL_entry pmL_entry anL_entry cdL_entry ctL_entry), slL_entry⟩)
    (cL_entry : PySem.W.codeIn K cdL_entry "_law_entry" = true)
    (kL_entry : PySem.W.keepIn K (.ref fL_entry) = true)
    (aL_read : PySem.W.nsIn K mainGlobals "_law_read" = some (some (.ref fL_read)))
    (lL_read : K.lookup fL_read = some ⟨ocL_read, odL_read, .func (PySem.W.fnOf "_law_read" "_law_read" (defArgs s_read) (defBody s_read) (defScope s_read) .none kVL_read dcL_read pmL_read anL_read cdL_read ctL_read), slL_read⟩)
    (cL_read : PySem.W.codeIn K cdL_read "_law_read" = true)
    (kL_read : PySem.W.keepIn K (.ref fL_read) = true)
    (aL_bent : PySem.W.nsIn K mainGlobals "_law_bent" = some (some (.ref fL_bent)))
    (lL_bent : K.lookup fL_bent = some ⟨ocL_bent, odL_bent, .func (PySem.W.fnOf "_law_bent" "_law_bent" (defArgs s_bent) (defBody s_bent) (defScope s_bent) .none kVL_bent dcL_bent pmL_bent anL_bent cdL_bent ctL_bent), slL_bent⟩)
    (cL_bent : PySem.W.codeIn K cdL_bent "_law_bent" = true)
    (kL_bent : PySem.W.keepIn K (.ref fL_bent) = true)
    (aL_met : PySem.W.nsIn K mainGlobals "_law_met" = some (some (.ref fL_met)))
    (lL_met : K.lookup fL_met = some ⟨ocL_met, odL_met, .func (PySem.W.fnOf "_law_met" "_law_met" (defArgs s_met) (defBody s_met) (defScope s_met) .none kVL_met dcL_met pmL_met anL_met cdL_met ctL_met), slL_met⟩)
    (cL_met : PySem.W.codeIn K cdL_met "_law_met" = true)
    (kL_met : PySem.W.keepIn K (.ref fL_met) = true)
    (aL_law : PySem.W.nsIn K mainGlobals "law" = some (some (.ref fL_law)))
    (lL_law : K.lookup fL_law = some ⟨ocL_law, odL_law, .func (PySem.W.fnOf "law" "law" (defArgs s_law) (defBody s_law) (defScope s_law) .none kVL_law dcL_law pmL_law anL_law cdL_law ctL_law), slL_law⟩)
    (cL_law : PySem.W.codeIn K cdL_law "law" = true)
    (kL_law : PySem.W.keepIn K (.ref fL_law) = true)
    (aC : PySem.W.nsIn K mainGlobals "Sample" = some (some (.ref C)))
    (pg : PySem.W.plainGet K C Str.empty = true)
    (hd : PySem.W.hasDictIn K C = true)
    (po : PySem.W.plainOver K C = true)
    (sa : PySem.W.findIn K (.ref C) "__setattr__" = some (some (.builtin "object.__setattr__")))
    (mk : PySem.W.makesIn K C = true)
    (kc : PySem.W.keepIn K (.ref C) = true)
    (nP : PySem.W.findIn K (.ref C) "places" = some none)
    (nQ : PySem.W.findIn K (.ref C) "_pairs" = some none)
    (ha : PySem.W.findIn K (.ref C) "__class__" = some (some (.builtin "object.__class__")))
    (hn : PySem.W.specialIn K (.builtin "object.__class__") "__get__" = some (some (.builtin "getset_descriptor.__get__")))
    (ht : PySem.W.takesIn K (.builtin "object.__class__") = some true)
    (hm : PySem.W.mroIn K C (.type "object") = some true)
    (ty : PySem.W.subIn K (.ref C) (.type "object") = some true)
    (ne : PySem.W.findIn K (.ref C) "__ne__" = some (some (.builtin "object.__ne__")))
    (cI : PySem.W.nsIn K mainGlobals "LONGEST_INTEGER" = some (some (.int 6 tI)))
    (cL : PySem.W.nsIn K mainGlobals "LEAST_PLACES" = some (some (.int 1 tL)))
    (cM : PySem.W.nsIn K mainGlobals "MOST_PLACES" = some (some (.int 3 tM)))
    (aCBT : PySem.W.nsIn K mainGlobals "BadLine" = some (some (.ref CBT)))
    (xLBT : K.lookup CBT = some (excClassObj nmBT qnBT CBT NBT bsBT (.ref Tc :: veL) true snBT sbBT abBT coBT ddBT p0BT p1BT p2BT p3BT p5BT "ValueError.__new__"))
    (saBT : PySem.W.findIn K (.ref CBT) "__setattr__" = some (some (.builtin "object.__setattr__")))
    (gaBT : PySem.W.findIn K (.ref CBT) "__getattribute__" = some (some (.builtin "BaseException.__getattribute__")))
    (ggBT : PySem.W.findIn K (.ref CBT) "__getattr__" = some none)
    (haBT : PySem.W.findIn K (.ref CBT) "__class__" = some (some (.builtin "object.__class__")))
    (kCBT : PySem.W.keepIn K (.ref CBT) = true)
    (nbBT : PySem.W.findIn K (.ref CBT) "line" = some none)
    (aiBT : PySem.W.findIn K (.ref CBT) "__init__" = some (some (.ref fBT)))
    (tiBT : PySem.W.typeIn K (.ref fBT) = some (.type "function"))
    (exBT : PySem.W.subIn K (.ref CBT) (.type "BaseException") = some true)
    (icBT : PySem.W.isClsIn K CBT = true)
    (tyBT : PySem.W.typeIn K (.ref CBT) = some (.type "type"))
    (selfBT : PySem.W.subIn K (.ref CBT) (.ref CBT) = some true)
    (lBT : K.lookup fBT = some ⟨ocBT, odBT, .func (PySem.W.fnOf "__init__" "BadLine.__init__" (defArgs s_BadLine_init) (defBody s_BadLine_init) (defScope s_BadLine_init) .none kVBT dcBT pmBT anBT cdBT ctBT), slBT⟩)
    (cBT : PySem.W.codeIn K cdBT "BadLine.__init__" = true)
    (kBT : PySem.W.keepIn K (.ref fBT) = true)
    (aM_init : PySem.W.findIn K (.ref C) "__init__" = some (some (.ref fM_init)))
    (iM_init : PySem.W.isFn K (.ref fM_init) = true)
    (lM_init : K.lookup fM_init = some ⟨ocM_init, odM_init, .func (PySem.W.fnOf "__init__" "Sample.__init__" (defArgs s_Sample_init) (defBody s_Sample_init) (defScope s_Sample_init) (.ref T0) kVM_init dcM_init pmM_init anM_init cdM_init ctM_init), slM_init⟩)
    (cM_init : PySem.W.codeIn K cdM_init "Sample.__init__" = true)
    (kM_init : PySem.W.keepIn K (.ref fM_init) = true)
    (aM_examples : PySem.W.findIn K (.ref C) "examples" = some (some (.ref fM_examples)))
    (iM_examples : PySem.W.isFn K (.ref fM_examples) = true)
    (lM_examples : K.lookup fM_examples = some ⟨ocM_examples, odM_examples, .func (PySem.W.fnOf "examples" "Sample.examples" (defArgs s_Sample_examples) (defBody s_Sample_examples) (defScope s_Sample_examples) .none kVM_examples dcM_examples pmM_examples anM_examples cdM_examples ctM_examples), slM_examples⟩)
    (cM_examples : PySem.W.codeIn K cdM_examples "Sample.examples" = true)
    (kM_examples : PySem.W.keepIn K (.ref fM_examples) = true)
    (aM_text : PySem.W.findIn K (.ref C) "text" = some (some (.ref fM_text)))
    (iM_text : PySem.W.isFn K (.ref fM_text) = true)
    (lM_text : K.lookup fM_text = some ⟨ocM_text, odM_text, .func (PySem.W.fnOf "text" "Sample.text" (defArgs s_Sample_text) (defBody s_Sample_text) (defScope s_Sample_text) .none kVM_text dcM_text pmM_text anM_text cdM_text ctM_text), slM_text⟩)
    (cM_text : PySem.W.codeIn K cdM_text "Sample.text" = true)
    (kM_text : PySem.W.keepIn K (.ref fM_text) = true)
    (lT : K.lookup T0 = some ⟨ocT, odT, .seq #[.ref E0] nT, slT⟩)
    (z_len : PySem.W.nsIn K mainGlobals "len" = some none)
    (z_int : PySem.W.nsIn K mainGlobals "int" = some none)
    (z_isinstance : PySem.W.nsIn K mainGlobals "isinstance" = some none)
    (z_list : PySem.W.nsIn K mainGlobals "list" = some none)
    (z_tuple : PySem.W.nsIn K mainGlobals "tuple" = some none)
    (z_bool : PySem.W.nsIn K mainGlobals "bool" = some none)
    (z_all : PySem.W.nsIn K mainGlobals "all" = some none)
    (z_zip : PySem.W.nsIn K mainGlobals "zip" = some none)
    (z_range : PySem.W.nsIn K mainGlobals "range" = some none)
    (z_enumerate : PySem.W.nsIn K mainGlobals "enumerate" = some none)
    (z_str : PySem.W.nsIn K mainGlobals "str" = some none)
    (z_min : PySem.W.nsIn K mainGlobals "min" = some none)
    (z_any : PySem.W.nsIn K mainGlobals "any" = some none) :
    ∃ fd : FuncData, (∀ (s : Shared) (v : Value), BindsTo s fd ⟨[v], []⟩ [("_law_script", v)]) ∧ ∀ base : Heap, K.In base → base.Ns mainGlobals mg → FnOk l.prog w K mg base CX0 12 fa fd ["_law_script"] (spLaw45 K) := by
  have e := hfa.symm.trans (PySem.W.mg_of X G aL_law)
  cases e
  have M : ∀ {x : Str} {f : Addr}, PySem.W.nsIn K mainGlobals x = some (some (.ref f)) → mg x = some (.ref f) := fun q => PySem.W.mg_of X G q
  have TV : TxV mg := { m_len := PySem.W.mg_none_of X G z_len, m_int := PySem.W.mg_none_of X G z_int, m_isinstance := PySem.W.mg_none_of X G z_isinstance, m_list := PySem.W.mg_none_of X G z_list, m_tuple := PySem.W.mg_none_of X G z_tuple, m_bool := PySem.W.mg_none_of X G z_bool, m_all := PySem.W.mg_none_of X G z_all, m_zip := PySem.W.mg_none_of X G z_zip, m_range := PySem.W.mg_none_of X G z_range, m_enumerate := PySem.W.mg_none_of X G z_enumerate, m_str := PySem.W.mg_none_of X G z_str, m_min := PySem.W.mg_none_of X G z_min, m_any := PySem.W.mg_none_of X G z_any, c_LEAST_PLACES := ⟨_, PySem.W.mg_of X G cL⟩, c_MOST_PLACES := ⟨_, PySem.W.mg_of X G cM⟩ }
  have c : Cls K C := ⟨pg, hd, po, sa⟩
  have GBT := fun_mk (st := s_BadLine_init) lBT cBT kBT
  have bBT := GBT.binds (ps := ["self", "line"]) fun _ _ _ _ _ _ us hl => match us, hl with | [_, _], _ => rfl
  have S : SmpC K C := ⟨c, nP, nQ, kit_self, ha, hn, ht, hm⟩
  have TE := TV.toTxE
  have TZ := TE.toTxZ
  have T := TZ.toTxF
  have GF_is_integer := fun_mk (st := s_is_integer) lF_is_integer cF_is_integer kF_is_integer
  have bF_is_integer := GF_is_integer.binds (ps := ["thing"]) fun _ _ _ _ _ _ us hl => match us, hl with | [_], _ => rfl
  have GF_is_label := fun_mk (st := s_is_label) lF_is_label cF_is_label kF_is_label
  have bF_is_label := GF_is_label.binds (ps := ["thing"]) fun _ _ _ _ _ _ us hl => match us, hl with | [_], _ => rfl
  have GF_is_row := fun_mk (st := s_is_row) lF_is_row cF_is_row kF_is_row
  have bF_is_row := GF_is_row.binds (ps := ["thing"]) fun _ _ _ _ _ _ us hl => match us, hl with | [_], _ => rfl
  have GF_is_row_of := fun_mk (st := s_is_row_of) lF_is_row_of cF_is_row_of kF_is_row_of
  have bF_is_row_of := GF_is_row_of.binds (ps := ["thing", "many"]) fun _ _ _ _ _ _ us hl => match us, hl with | [_, _], _ => rfl
  have GF_is_number_of_places := fun_mk (st := s_is_number_of_places) lF_is_number_of_places cF_is_number_of_places kF_is_number_of_places
  have bF_is_number_of_places := GF_is_number_of_places.binds (ps := ["thing"]) fun _ _ _ _ _ _ us hl => match us, hl with | [_], _ => rfl
  have GF_is_point := fun_mk (st := s_is_point) lF_is_point cF_is_point kF_is_point
  have bF_is_point := GF_is_point.binds (ps := ["thing", "places"]) fun _ _ _ _ _ _ us hl => match us, hl with | [_, _], _ => rfl
  have GF_is_example := fun_mk (st := s_is_example) lF_is_example cF_is_example kF_is_example
  have bF_is_example := GF_is_example.binds (ps := ["thing", "places"]) fun _ _ _ _ _ _ us hl => match us, hl with | [_, _], _ => rfl
  have GF_copied_example := fun_mk (st := s_copied_example) lF_copied_example cF_copied_example kF_copied_example
  have bF_copied_example := GF_copied_example.binds (ps := ["example"]) fun _ _ _ _ _ _ us hl => match us, hl with | [_], _ => rfl
  have GF_read_sample := fun_mk (st := s_read_sample) lF_read_sample cF_read_sample kF_read_sample
  have bF_read_sample := GF_read_sample.binds (ps := ["text"]) fun _ _ _ _ _ _ us hl => match us, hl with | [_], _ => rfl
  have GF_places_in := fun_mk (st := s_places_in) lF_places_in cF_places_in kF_places_in
  have bF_places_in := GF_places_in.binds (ps := ["rows"]) fun _ _ _ _ _ _ us hl => match us, hl with | [_], _ => rfl
  have GF_Pis_example := fun_mk (st := s_Pis_example) lF_Pis_example cF_Pis_example kF_Pis_example
  have bF_Pis_example := GF_Pis_example.binds (ps := ["words", "places"]) fun _ _ _ _ _ _ us hl => match us, hl with | [_, _], _ => rfl
  have GF_is_written_integer := fun_mk (st := s_is_written_integer) lF_is_written_integer cF_is_written_integer kF_is_written_integer
  have bF_is_written_integer := GF_is_written_integer.binds (ps := ["word"]) fun _ _ _ _ _ _ us hl => match us, hl with | [_], _ => rfl
  have GL_source := fun_mk (st := s_source) lL_source cL_source kL_source
  have bL_source := GL_source.binds (ps := ["_law_script", "_law_at"]) fun _ _ _ _ _ _ us hl => match us, hl with | [_, _], _ => rfl
  have GL_draw := fun_mk (st := s_draw) lL_draw cL_draw kL_draw
  have bL_draw := GL_draw.binds (ps := ["_law_draws", "_law_many"]) fun _ _ _ _ _ _ us hl => match us, hl with | [_, _], _ => rfl
  have GL_pick := fun_mk (st := s_pick) lL_pick cL_pick kL_pick
  have bL_pick := GL_pick.binds (ps := ["_law_draws", "_law_things"]) fun _ _ _ _ _ _ us hl => match us, hl with | [_, _], _ => rfl
  have GL_same := fun_mk (st := s_same) lL_same cL_same kL_same
  have bL_same := GL_same.binds (ps := ["_law_found", "_law_due"]) fun _ _ _ _ _ _ us hl => match us, hl with | [_, _], _ => rfl
  have GL_point := fun_mk (st := s_point) lL_point cL_point kL_point
  have bL_point := GL_point.binds (ps := ["_law_draws", "_law_places", "_law_wide"]) fun _ _ _ _ _ _ us hl => match us, hl with | [_, _, _], _ => rfl
  have GL_rows := fun_mk (st := s_rows) lL_rows cL_rows kL_rows
  have bL_rows := GL_rows.binds (ps := ["_law_draws", "_law_places", "_law_most", "_law_wide"]) fun _ _ _ _ _ _ us hl => match us, hl with | [_, _, _, _], _ => rfl
  have GL_entry := fun_mk (st := s_entry) lL_entry cL_entry kL_entry
  have bL_entry := GL_entry.binds (ps := ["_law_word"]) fun _ _ _ _ _ _ us hl => match us, hl with | [_], _ => rfl
  have GL_read := fun_mk (st := s_read) lL_read cL_read kL_read
  have bL_read := GL_read.binds (ps := ["_law_text"]) fun _ _ _ _ _ _ us hl => match us, hl with | [_], _ => rfl
  have GL_bent := fun_mk (st := s_bent) lL_bent cL_bent kL_bent
  have bL_bent := GL_bent.binds (ps := ["_law_draws", "_law_text"]) fun _ _ _ _ _ _ us hl => match us, hl with | [_, _], _ => rfl
  have GL_met := fun_mk (st := s_met) lL_met cL_met kL_met
  have bL_met := GL_met.binds (ps := ["_law_text"]) fun _ _ _ _ _ _ us hl => match us, hl with | [_], _ => rfl
  have GL_law := fun_mk (st := s_law) lL_law cL_law kL_law
  have GM_examples := fun_mk (st := s_Sample_examples) lM_examples cM_examples kM_examples
  have bM_examples := GM_examples.binds (ps := ["self"]) fun _ _ _ _ _ _ us hl => match us, hl with | [_], _ => rfl
  have GM_text := fun_mk (st := s_Sample_text) lM_text cM_text kM_text
  have bM_text := GM_text.binds (ps := ["self"]) fun _ _ _ _ _ _ us hl => match us, hl with | [_], _ => rfl
  have GD : FunD K "__init__" "Sample.__init__" (defArgs s_Sample_init) (defBody s_Sample_init) (defScope s_Sample_init) [.ref E0] [] fM_init _ := ⟨⟨_, _, _, _, _, _, _, _, _, _, rfl, lM_init, cM_init, .inr ⟨by simp, T0, _, [.ref E0], nT, rfl, lT, rfl, .cons rfl .nil⟩, .inl rfl⟩, kM_init⟩
  obtain ⟨dsv, hdv, bInit⟩ := GD.binds1 (ps := ["self", "places", "examples"]) 3 1 (by simp) rfl (fun T kV doc pm an cdv ct us its h1 h2 => match us, its, h1, h2 with | [_, _, _], [_], _, _ => ⟨_, rfl, rfl⟩)
  cases hdv
  refine ⟨PySem.W.fnOf "law" "law" (defArgs s_law) (defBody s_law) (defScope s_law) .none kVL_law dcL_law pmL_law anL_law cdL_law ctL_law, fun s v => .of_eq rfl, fun base _ _ => ?_⟩
  have D_is_integer : DefAt l.prog w K mg base "is_integer" 1 ["thing"] (spB K isI) := ⟨_, _, ok_is_integer GF_is_integer T, M aF_is_integer, kF_is_integer, bF_is_integer⟩
  have D_is_label : DefAt l.prog w K mg base "is_label" 1 ["thing"] (spB K isL) := ⟨_, _, ok_is_label GF_is_label T, M aF_is_label, kF_is_label, bF_is_label⟩
  have D_is_row : DefAt l.prog w K mg base "is_row" 1 ["thing"] (spB K isR) := ⟨_, _, ok_is_row GF_is_row T, M aF_is_row, kF_is_row, bF_is_row⟩
  have D_is_row_of : DefAt l.prog w K mg base "is_row_of" 2 ["thing", "many"] (spBp K isO) := ⟨_, _, ok_is_row_of GF_is_row_of T D_is_row, M aF_is_row_of, kF_is_row_of, bF_is_row_of⟩
  have D_num : DefAt l.prog w K mg base "is_number_of_places" 2 ["thing"] (spB K isN) := ⟨_, _, ok_is_number_of_places GF_is_number_of_places T D_is_integer, M aF_is_number_of_places, kF_is_number_of_places, bF_is_number_of_places⟩
  have D_is_point : DefAt l.prog w K mg base "is_point" 3 ["thing", "places"] (spBp K isP) := ⟨_, _, ok_is_point GF_is_point T D_is_integer D_is_row_of, M aF_is_point, kF_is_point, bF_is_point⟩
  have D_is_example : DefAt l.prog w K mg base "is_example" 4 ["thing", "places"] (spBp K isX) := ⟨_, _, ok_is_example GF_is_example T D_is_row_of D_is_point D_is_label, M aF_is_example, kF_is_example, bF_is_example⟩
  have D_copied : DefAt l.prog w K mg base "copied_example" 1 ["example"] (spCopy K) := ⟨_, _, ok_copied_example GF_copied_example T, M aF_copied_example, kF_copied_example, bF_copied_example⟩
  have N_Sample : Mak l.prog w K mg base 5 "Sample" C (spInit K C) [] := ⟨_, _, _, _, ⟨mk, aM_init, iM_init, kc⟩, ok_Sinit GD T S D_num D_is_row D_is_example D_copied, M aC, bInit, .nil⟩
  have M_examples : Met l.prog w K mg base 1 C "examples" (spExamples K C) [] := ⟨_, _, _, _, c, ⟨aM_examples, iM_examples, kM_examples⟩, ok_Sexamples GM_examples T S, bM_examples, .nil⟩
  have M_text : Met l.prog w K mg base 1 C "text" (spTextA K C) [] := ⟨_, _, _, _, c, ⟨aM_text, iM_text, kM_text⟩, ok_StextA GM_text TZ S, bM_text, .nil⟩
  have EB : IsErr K CBT (.ref Tc :: veL) := ⟨_, _, _, _, _, _, _, _, _, _, _, _, _, _, xLBT⟩
  have FB : ErrF K CBT := ⟨saBT, gaBT, ggBT, haBT, kCBT⟩
  have ZB : IsiC K CBT := isi_of EB FB rfl hn ht
  have R : BadL l.prog w K mg base CBT := ok_BadLine (M aCBT) (oex_of EB FB rfl ZB) (xf_of EB FB ZB) nbBT aiBT tiBT GBT bBT fun s u v => .of_eq rfl
  have XM := exm_own exBT icBT tyBT selfBT
  have D_wi : DefAt l.prog w K mg base "_is_written_integer" 1 ["word"] spWIg := ⟨_, _, ok_wig GF_is_written_integer TZ ⟨_, PySem.W.mg_of X G cI⟩, M aF_is_written_integer, kF_is_written_integer, bF_is_written_integer⟩
  have D_pex : DefAt l.prog w K mg base "_is_example" 2 ["words", "places"] (spPExg K) := ⟨_, _, ok_pexg GF_Pis_example TZ D_wi, M aF_Pis_example, kF_Pis_example, bF_Pis_example⟩
  have D_plc : DefX l.prog w K mg base "_places_in" 4 ["rows"] (spPlcg K CBT) := ⟨_, _, ok_plcg GF_places_in TZ R, M aF_places_in, kF_places_in, bF_places_in⟩
  have D_read : DefX l.prog w K mg base "read_sample" 7 ["text"] (spReadG K C CBT) := ⟨_, _, ok_readg GF_read_sample TZ R D_pex D_plc N_Sample, M aF_read_sample, kF_read_sample, bF_read_sample⟩
  have D0 : DefAt l.prog w K mg base "_law_source" 1 ["_law_script", "_law_at"] (spSource K) := ⟨_, _, ok_source GL_source T.toTxB, M aL_source, kL_source, bL_source⟩
  have D1 : DefAt l.prog w K mg base "_law_draw" 1 ["_law_draws", "_law_many"] spDraw := ⟨_, _, ok_draw GL_draw T.toTxB, M aL_draw, kL_draw, bL_draw⟩
  have D2 : DefAt l.prog w K mg base "_law_pick" 2 ["_law_draws", "_law_things"] (spPickV K) := ⟨_, _, ok_pickV GL_pick T.toTxB D1, M aL_pick, kL_pick, bL_pick⟩
  have D3 : ∀ n, DefAt l.prog w K mg base "_law_same" n ["_law_found", "_law_due"] (spPrev K n) := fun n => by
    induction n with
    | zero => exact ⟨_, _, ⟨fun _ _ _ _ h => h.elim, fun _ _ _ _ _ _ _ _ _ _ _ _ _ h => h.elim⟩, M aL_same, kL_same, bL_same⟩
    | succ n ih => exact ⟨_, _, same_body GL_same T.toTxB n ih, M aL_same, kL_same, bL_same⟩
  have D4 : DefAt l.prog w K mg base "_law_point" 2 ["_law_draws", "_law_places", "_law_wide"] (spPoint K) := ⟨_, _, ok_point GL_point T D1, M aL_point, kL_point, bL_point⟩
  have D5 : DefAt l.prog w K mg base "_law_rows" 3 ["_law_draws", "_law_places", "_law_most", "_law_wide"] (spRows K) := ⟨_, _, ok_rows GL_rows T D1 D2 D4, M aL_rows, kL_rows, bL_rows⟩
  have D6 : DefAt l.prog w K mg base "_law_entry" 1 ["_law_word"] (spEntry K) := ⟨_, _, ok_entry GL_entry TE, M aL_entry, kL_entry, bL_entry⟩
  have D7 : DefAt l.prog w K mg base "_law_read" 3 ["_law_text"] (spReadL K) := ⟨_, _, ok_readL GL_read TE D6, M aL_read, kL_read, bL_read⟩
  have D8 : DefAt l.prog w K mg base "_law_bent" 3 ["_law_draws", "_law_text"] spBent := ⟨_, _, ok_bent GL_bent TE D1 D2, M aL_bent, kL_bent, bL_bent⟩
  have D9 : DefAt l.prog w K mg base "_law_met" 8 ["_law_text"] (spReadL K) := ⟨_, _, ok_met GL_met R S XM M_examples D_read, M aL_met, kL_met, bL_met⟩
  exact law_body GL_law TV S M_text N_Sample D0 D1 D2 D5 D8 D9 D7 (D3 6)
theorem walk {l : PySem.W.OpenLaw} {q : Program} {loose : List Str} {XP : (Str → Option Value) → Heap → Prop} {YP : World → Heap → Prop} {d : DefRec} {K : Params → PySem.W.Frag} (hn : l.most = some 63) (hdf : d.params.defaults = [])
    (hY : ∀ (w : World) (h : Heap), YP w h → (K w.params).In h)
    (F : ∀ (w : World) (mg : Str → Option Value) (fa : Addr) (h : Heap), (K w.params).In h → h.Ns mainGlobals mg → mg d.name = some (.ref fa) →
      ∃ fd : FuncData, (∀ (s : Shared) (u : Value), BindsTo s fd ⟨[u], []⟩ [("_law_script", u)]) ∧ ∀ base : Heap, (K w.params).In base → base.Ns mainGlobals mg → FnOk l.prog w (K w.params) mg base CX0 12 fa fd ["_law_script"] (spLaw45 (K w.params))) :
    PySem.W.WalkO q loose XP YP l.row.toRowW d [] (fun f vs => PySem.call f vs) :=
  L2.walk_of (n := 63) (k := 12) (x := "_law_script") (CX := fun _ => CX0) (sp := fun w => spLaw45 (K w.params)) hn (by decide) hdf ⟨rfl, by decide, by decide⟩ hY F (fun _ _ a ns hl _ hS => ⟨a, ns, rfl, hS, hl, fun _ _ => rfl⟩) fun _ _ _ _ _ z => z
end U

set_option Elab.async false
open PySem PySem.W PyProof.Rows in
set_option maxRecDepth 100000 in
set_option maxHeartbeats 0 in
theorem PySem.Challenge.cw_toldenough_k45_texts_of_samples_refused_holds : PySem.Challenge.rw_toldenough_k45_texts_of_samples_refused.Holds := by
  w_on; o_law; k_head; (case hw => w_witness2)
  k_fill
  refine U.walk (l := PySem.Challenge.rw_toldenough_k45_texts_of_samples_refused) rfl rfl (fun w h Y => PySem.W.kIn_of Y) ?F
  case F =>
    intro w mg fa h KX G hmg
    refine' U.all_mk KX G hmg ?aF_is_integer ?lF_is_integer ?cF_is_integer ?kF_is_integer ?aF_is_label ?lF_is_label ?cF_is_label ?kF_is_label ?aF_is_row ?lF_is_row ?cF_is_row ?kF_is_row ?aF_is_row_of ?lF_is_row_of ?cF_is_row_of ?kF_is_row_of ?aF_is_number_of_places ?lF_is_number_of_places ?cF_is_number_of_places ?kF_is_number_of_places ?aF_is_point ?lF_is_point ?cF_is_point ?kF_is_point ?aF_is_example ?lF_is_example ?cF_is_example ?kF_is_example ?aF_copied_example ?lF_copied_example ?cF_copied_example ?kF_copied_example ?aF_read_sample ?lF_read_sample ?cF_read_sample ?kF_read_sample ?aF_places_in ?lF_places_in ?cF_places_in ?kF_places_in ?aF_Pis_example ?lF_Pis_example ?cF_Pis_example ?kF_Pis_example ?aF_is_written_integer ?lF_is_written_integer ?cF_is_written_integer ?kF_is_written_integer ?aL_source ?lL_source ?cL_source ?kL_source ?aL_draw ?lL_draw ?cL_draw ?kL_draw ?aL_pick ?lL_pick ?cL_pick ?kL_pick ?aL_same ?lL_same ?cL_same ?kL_same ?aL_point ?lL_point ?cL_point ?kL_point ?aL_rows ?lL_rows ?cL_rows ?kL_rows ?aL_entry ?lL_entry ?cL_entry ?kL_entry ?aL_read ?lL_read ?cL_read ?kL_read ?aL_bent ?lL_bent ?cL_bent ?kL_bent ?aL_met ?lL_met ?cL_met ?kL_met ?aL_law ?lL_law ?cL_law ?kL_law ?aC ?pg ?hd ?po ?sa ?mk ?kc ?nP ?nQ ?ha ?hn ?ht ?hm ?ty ?ne ?cI ?cL ?cM ?aCBT ?xLBT ?saBT ?gaBT ?ggBT ?haBT ?kCBT ?nbBT ?aiBT ?tiBT ?exBT ?icBT ?tyBT ?selfBT ?lBT ?cBT ?kBT ?aM_init ?iM_init ?lM_init ?cM_init ?kM_init ?aM_examples ?iM_examples ?lM_examples ?cM_examples ?kM_examples ?aM_text ?iM_text ?lM_text ?cM_text ?kM_text ?lT ?z_len ?z_int ?z_isinstance ?z_list ?z_tuple ?z_bool ?z_all ?z_zip ?z_range ?z_enumerate ?z_str ?z_min ?z_any
    (case aF_is_integer => k_is)
    (case lF_is_integer => k_is)
    (case cF_is_integer => k_is)
    (case kF_is_integer => k_is)
    (case aF_is_label => k_is)
    (case lF_is_label => k_is)
    (case cF_is_label => k_is)
    (case kF_is_label => k_is)
    (case aF_is_row => k_is)
    (case lF_is_row => k_is)
    (case cF_is_row => k_is)
    (case kF_is_row => k_is)
    (case aF_is_row_of => k_is)
    (case lF_is_row_of => k_is)
    (case cF_is_row_of => k_is)
    (case kF_is_row_of => k_is)
    (case aF_is_number_of_places => k_is)
    (case lF_is_number_of_places => k_is)
    (case cF_is_number_of_places => k_is)
    (case kF_is_number_of_places => k_is)
    (case aF_is_point => k_is)
    (case lF_is_point => k_is)
    (case cF_is_point => k_is)
    (case kF_is_point => k_is)
    (case aF_is_example => k_is)
    (case lF_is_example => k_is)
    (case cF_is_example => k_is)
    (case kF_is_example => k_is)
    (case aF_copied_example => k_is)
    (case lF_copied_example => k_is)
    (case cF_copied_example => k_is)
    (case kF_copied_example => k_is)
    (case aF_read_sample => k_is)
    (case lF_read_sample => k_is)
    (case cF_read_sample => k_is)
    (case kF_read_sample => k_is)
    (case aF_places_in => k_is)
    (case lF_places_in => k_is)
    (case cF_places_in => k_is)
    (case kF_places_in => k_is)
    (case aF_Pis_example => k_is)
    (case lF_Pis_example => k_is)
    (case cF_Pis_example => k_is)
    (case kF_Pis_example => k_is)
    (case aF_is_written_integer => k_is)
    (case lF_is_written_integer => k_is)
    (case cF_is_written_integer => k_is)
    (case kF_is_written_integer => k_is)
    (case aL_source => k_is)
    (case lL_source => k_is)
    (case cL_source => k_is)
    (case kL_source => k_is)
    (case aL_draw => k_is)
    (case lL_draw => k_is)
    (case cL_draw => k_is)
    (case kL_draw => k_is)
    (case aL_pick => k_is)
    (case lL_pick => k_is)
    (case cL_pick => k_is)
    (case kL_pick => k_is)
    (case aL_same => k_is)
    (case lL_same => k_is)
    (case cL_same => k_is)
    (case kL_same => k_is)
    (case aL_point => k_is)
    (case lL_point => k_is)
    (case cL_point => k_is)
    (case kL_point => k_is)
    (case aL_rows => k_is)
    (case lL_rows => k_is)
    (case cL_rows => k_is)
    (case kL_rows => k_is)
    (case aL_entry => k_is)
    (case lL_entry => k_is)
    (case cL_entry => k_is)
    (case kL_entry => k_is)
    (case aL_read => k_is)
    (case lL_read => k_is)
    (case cL_read => k_is)
    (case kL_read => k_is)
    (case aL_bent => k_is)
    (case lL_bent => k_is)
    (case cL_bent => k_is)
    (case kL_bent => k_is)
    (case aL_met => k_is)
    (case lL_met => k_is)
    (case cL_met => k_is)
    (case kL_met => k_is)
    (case aL_law => k_is)
    (case lL_law => k_is)
    (case cL_law => k_is)
    (case kL_law => k_is)
    (case aC => k_is)
    (case pg => k_is)
    (case hd => k_is)
    (case po => k_is)
    (case sa => k_is)
    (case mk => k_is)
    (case kc => k_is)
    (case nP => k_is)
    (case nQ => k_is)
    (case ha => k_is)
    (case hn => k_is)
    (case ht => k_is)
    (case hm => k_is)
    (case ty => k_is)
    (case ne => k_is)
    (case cI => k_is)
    (case cL => k_is)
    (case cM => k_is)
    (case aCBT => k_is)
    (case xLBT => k_is)
    (case saBT => k_is)
    (case gaBT => k_is)
    (case ggBT => k_is)
    (case haBT => k_is)
    (case kCBT => k_is)
    (case nbBT => k_is)
    (case aiBT => k_is)
    (case tiBT => k_is)
    (case exBT => k_is)
    (case icBT => k_is)
    (case tyBT => k_is)
    (case selfBT => k_is)
    (case lBT => k_is)
    (case cBT => k_is)
    (case kBT => k_is)
    (case aM_init => k_is)
    (case iM_init => k_is)
    (case lM_init => k_is)
    (case cM_init => k_is)
    (case kM_init => k_is)
    (case aM_examples => k_is)
    (case iM_examples => k_is)
    (case lM_examples => k_is)
    (case cM_examples => k_is)
    (case kM_examples => k_is)
    (case aM_text => k_is)
    (case iM_text => k_is)
    (case lM_text => k_is)
    (case cM_text => k_is)
    (case kM_text => k_is)
    (case lT => k_is)
    (case z_len => k_is)
    (case z_int => k_is)
    (case z_isinstance => k_is)
    (case z_list => k_is)
    (case z_tuple => k_is)
    (case z_bool => k_is)
    (case z_all => k_is)
    (case z_zip => k_is)
    (case z_range => k_is)
    (case z_enumerate => k_is)
    (case z_str => k_is)
    (case z_min => k_is)
    (case z_any => k_is)


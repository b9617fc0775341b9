import PyProof.Rows.All
import Wide.All
import OpenK.AllK
import Wide.FinOn
import HandS.ForMost
import HandS.ForExc
import HandS.Iter
import HandS.Zip
import HandS.IsInst
import HandS.Defaults
import HandS.MakeKw
import HandS.ExcInit
import HandS.ExcIs
import HandS.ExcValue
import HandS.TryMany
import KE.KExcIs
import HandS.Style
import PySem.Challenge.RW_saidanew_k01_errors_and_their_values
set_option Elab.async false
set_option linter.all false
set_option maxRecDepth 100000
set_option maxHeartbeats 4000000
namespace PySem
namespace EV
open PySem.W PySem.Calls PyProof.Rows PySem.HandSPX Builtin Builtin.ObjectAttr
section
variable {os : OsState} {t : Nat} {d : Drawn} {g : Array GenState} {h : Heap} {M : Model} {A : Around} {E : Value → Shared → Prop}
variable {B newId initId : String} {C N : Addr} {nm q : Str} {k0 k1 k2 k3 k5 : Option Value} {bs bm bmB sub : List Value} {hdct ab : Bool} {sn : List Str} {col : Option Bool} {dd : Option Addr}
theorem check_newK (fb : ExcBaseFacts B newId initId bmB) (alk : ∀ X : String, bm.contains (.type X) = bmB.contains (.type X)) {us : List Value} {kw : List (Str × Value)} {Q : Unit → Shared → Prop}
    (obC : h.get? C = some (excClassObj nm q C N bs bm hdct sn sub ab col dd k0 k1 k2 k3 k5 newId)) (fin : Q () ⟨h, g, d, t, os⟩) : wpAny M A (checkBuiltinCall newId ⟨.ref C :: us, kw⟩) Q E ⟨h, g, d, t, os⟩ := by
  have isB : (Value.ref C :: bm).contains (.type B) = true := by rw [List.contains_cons, alk, fb.hasB, Bool.or_true]
  have star := fb.noStar
  simp only [checkBuiltinCall, fb.newKind, fb.newSplit, fb.newRow]
  repeat (first | refine wpAny_loadPart_at obC ?_ | (refine wpAny_isSubtype_exc obC ?_; rw [isB]) | refine wpAny_staticBase_exc obC ?_ | refine wpAny_madeBy_exc obC ?_ | simp only [bne_self_eq_false, Bool.false_eq_true, if_false] | wp_step)
  exact fin
end
section
variable {os : OsState} {t : Nat} {d : Drawn} {g : Array GenState} {h : Heap} {prog : Program} {w : World} {A : Around} {R : Result → Shared → Prop} {E : Value → Shared → Prop}
variable {B newId initId : String} {C N : Addr} {nm q : Str} {k0 k1 k2 k3 k5 : Option Value} {bs bm bmB sub : List Value} {hdct ab : Bool} {sn : List Str} {col : Option Bool} {dd : Option Addr}
theorem new_ownK (fb : ExcBaseFacts B newId initId bmB) (alk : ∀ X : String, bm.contains (.type X) = bmB.contains (.type X)) {us : List Value} {kw : List (Str × Value)}
    (obC : h.get? C = some (excClassObj nm q C N bs bm hdct sn sub ab col dd k0 k1 k2 k3 k5 newId))
    (fin : R (.ok (.ret (.ref (h.objs.size + 1)))) ⟨(h.push { cls := .type "tuple", data := .seq us.toArray }).push
      { cls := .ref C, data := .fields #[.ref h.objs.size, .none, .none, .none, .bool false, .none] }, g, d, t, os⟩) (short : us.length ≤ sizeLine) :
    codeAny (model prog w) A (.builtin newId ⟨.ref C :: us, kw⟩) R ⟨h, g, d, t, os⟩ := by
  have en := fb.ends
  have tB : (Value.ref C :: bm).contains (.type B) = true := by rw [List.contains_cons, alk, fb.hasB, Bool.or_true]
  have tA : (Value.ref C :: bm).contains (.type "AttributeError") = false := by rw [List.contains_cons, alk, fb.noAttr]; rfl
  have tN : (Value.ref C :: bm).contains (.type "NameError") = false := by rw [List.contains_cons, alk, fb.noName]; rfl
  refine codeAny_builtinAt fb.entry ?_
  unfold Builtin.«BaseException.__new__»; refine wpAt_bind ?_
  show wpAt _ _ _ (stack >>= _) _ _ _; refine wpAt_bind (wpAt_stack fun pp bl => wpAt_of_wpAny ?_)
  wp_walk
  refine wpAt_of_wpAny ?_
  rw [fb.owner]
  repeat (first | with_reducible refine wpAny_madeHere_exc fb.canon obC ?_ | with_reducible refine wpAny_loadPart_at obC ?_ | (with_reducible refine wpAny_isSubtype_exc obC ?_; first | rw [tB] | rw [tA] | rw [tN]) | wp_step)
  show R _ _
  rw [Heap.size_push]
  exact fin
theorem check_callK {M : Model} {us : List Value} {kw : List (Str × Value)} {Q : Unit → Shared → Prop} (obC : h.get? C = some (excClassObj nm q C N bs bm hdct sn sub ab col dd k0 k1 k2 k3 k5 newId))
    (fin : Q () ⟨h, g, d, t, os⟩) : wpAny M A (checkBuiltinCall "type.__call__" ⟨.ref C :: us, kw⟩) Q E ⟨h, g, d, t, os⟩ := by
  have ts := tc_sub
  have alk : (⟨h, g, d, t, os⟩ : Shared).TypeIs (.ref C) "type" := ⟨_, obC, rfl⟩
  simp only [checkBuiltinCall, tc_split, tc_kind]
  repeat (any_goals (first | assumption | with_reducible refine wpAny_loadPart_at obC ?_ | with_reducible refine wpAny_onRaise ?_ | with_reducible refine wpAny_map ?_ | wp_step))
theorem type_callK (fb : ExcBaseFacts B newId initId bmB) (alk : ∀ X : String, bm.contains (.type X) = bmB.contains (.type X)) {us : List Value} {kw : List (Str × Value)} {ini : Addr} {Q : Fin → Shared → Prop}
    (obC : h.get? C = some (excClassObj nm q C N bs bm hdct sn sub ab col dd k0 k1 k2 k3 k5 newId))
    (lkI : W.Looks (model prog w) h (typeLookup (.ref C) "__init__") (some (.ref ini))) (bdI : ∀ self, W.Looks (model prog w) h (bindSpecial (.ref ini) self) (.ref ini, [self])) (short : us.length ≤ sizeLine)
    (fin : codeAny (model prog w) A (.call (.ref ini) ⟨.ref (h.objs.size + 1) :: us, kw⟩)
      (fun res s2 => match res with | .ok (.ret v) => v = .none ∧ Q (.done (.ret (.ref (h.objs.size + 1)))) s2 | .ok _ => False | .error e => E e s2)
      ⟨(h.push (W.kdv_tup us)).push (excO C h.objs.size), g, d, t, os⟩) :
    wpAny (model prog w) A (Builtin.«type.__call__» ⟨.ref C :: us, kw⟩) Q E ⟨h, g, d, t, os⟩ := by
  repeat (first | with_reducible refine wpAny_loadPart_at obC ?_ | with_reducible refine wpAny_madeBy_exc obC ?_ | wp_step)
  refine codeAny_call_builtin_code (Code.quiet_builtin _ fb.quiet) (check_newK fb alk obC ?_)
  refine new_ownK fb alk obC ?_ short
  show wpAny _ _ _ _ _ _
  have kp : ∀ b o, h.get? b = some o → ((h.push (W.kdv_tup us)).push (excO C h.objs.size)).get? b = some o := fun b o e => Heap.get?_push_of_some _ (Heap.get?_push_of_some _ e)
  have obC1 := kp _ _ obC
  have gt : ((h.push (W.kdv_tup us)).push (excO C h.objs.size)).get? (h.objs.size + 1) = some (excO C h.objs.size) := by heap_get
  have tC : (Value.ref C :: bm).contains (.ref C) = true := by simp
  have li := lkI.keeps kp
  have lb := (bdI (.ref (h.objs.size + 1))).keeps kp
  unfold isInstance
  repeat (first | with_reducible refine wpAny_loadPart_at gt ?_ | (with_reducible refine wpAny_isSubtype_exc obC1 ?_; rw [tC]) | wp_step)
  show wpAny _ _ (typeLookup (.ref C) _) _ _ _; refine li.at ?_
  refine wpAny_holding (wpAny_bind (lb.at ?_))
  refine wpAny_bind (wpAny_call (codeAny_mono fin fun res s2 zz => ?_))
  rcases res with e | (v | _ | _ | _) <;> first | exact zz | exact zz.elim | skip
  obtain ⟨rfl, zz⟩ := zz
  first
    | exact wpAny_pure (wpAny_pure zz)
    | (wp_walk; exact zz)
theorem call_ownK (fb : ExcBaseFacts B newId initId bmB) (alk : ∀ X : String, bm.contains (.type X) = bmB.contains (.type X)) {us : List Value} {kw : List (Str × Value)} {ini : Addr}
    (obC : h.get? C = some (excClassObj nm q C N bs bm hdct sn sub ab col dd k0 k1 k2 k3 k5 newId))
    (lkI : W.Looks (model prog w) h (typeLookup (.ref C) "__init__") (some (.ref ini))) (bdI : ∀ self, W.Looks (model prog w) h (bindSpecial (.ref ini) self) (.ref ini, [self])) (short : us.length ≤ sizeLine)
    (fin : codeAny (model prog w) (A.under (.builtin "type.__call__" ⟨.ref C :: us, kw⟩)) (.call (.ref ini) ⟨.ref (h.objs.size + 1) :: us, kw⟩) (W.InitBack (h.objs.size + 1) R)
      ⟨(h.push (W.kdv_tup us)).push (excO C h.objs.size), g, d, t, os⟩) :
    codeAny (model prog w) A (.call (.ref C) ⟨us, kw⟩) R ⟨h, g, d, t, os⟩ := by
  have tl := tc_lookup
  have tb := tc_bind (.ref C)
  have ty : (⟨h, g, d, t, os⟩ : Shared).TypeIs (.ref C) "type" := ⟨_, obC, rfl⟩
  refine codeAny_of_tree ?_
  show wpAny _ _ (callAny (.ref C) _) _ _ _; repeat (any_goals (first | assumption | with_reducible refine wpAny_loadPart_at obC ?_ | wp_step))
  refine ⟨rfl, ?_⟩
  refine codeAny_call_builtin_at (Code.quiet_builtin _ (by decide +kernel)) entry_typeCall (check_callK obC (type_callK fb alk obC lkI bdI short ?_))
  refine codeAny_mono fin fun res s2 zz => ?_
  rcases res with e | (v | _ | _ | _) <;> exact zz
end
end EV
end PySem

namespace L2
open PySem PySem.Spec PyProof.Rows
/-- what the written part says of an own exception class with an own __init__ at fI -/
structure MkX (K : PySem.W.Frag) (C fI : Addr) : Prop where
  T : OexC K C
  iC : PySem.W.findIn K (.ref C) "__init__" = some (some (.ref fI))
  tI : PySem.W.typeIn K (.ref fI) = some (.type "function")
/-- C(e, .., k = v, ..), the exception as a value -/
def tMkE (n m : Nat) (C : Addr) (sp : Sp) (gV : List V → List V → List V) (t tk : TA) : TE := fun σ H Q => t σ H fun vs H1 => tk σ H1 fun zs H2 => vs.length = n ∧ zs.length = m ∧
  ∀ a, H2 a = none → sp (gV (.ref a :: vs) zs) (upd H2 a (exo a C none)) (fun v H3 => v = .non ∧ Q (.ref a) H3) E0
section
variable {X : Cx} {k n : Nat} {fI C : Addr} {fd : FuncData} {ps ks : List Str} {sp : Sp} {x : Str} {p pos : Pos} {e : Expr} {es : List Expr} {kws : List Keyword} {t tk : TA} {g : List Value → List Value → List Value} {gV : List V → List V → List V}
theorem run_mkE {pins : List (Addr × Obj)} {σ : St} {H : Hp} {s : Shared} {Q : VK} {uz wz : List Value} {vz1 zz1 : List V} (M : MkX X.K C fI) (F : FnOk X.prog X.w X.K X.mg X.base CX0 k fI fd ps sp) (rel : Room (k + 1) X.A) (base : KBn X.K fd ps (n + 1) ks g gV)
    (few1 : n ≤ 1000) (I : Inv X pins σ H s) (r : Vals vz1 uz) (vz : Vals zz1 wz) (lenA : vz1.length = n) (lenK : zz1.length = ks.length)
    (h : ∀ a, H a = none → sp (gV (.ref a :: vz1) zz1) (upd H a (exo a C none)) (fun v H3 => v = .non ∧ Q (.ref a) H3) E0) :
    wpAny (model X.prog X.w) X.A (call (.ref C) uz (ks.zip wz)) (EP X pins σ Q) X.xe s := by
  obtain ⟨nmC, q, N, bs, bm, snC, subC, abC, colC, ddC, k0, k1, k2, k3, k5, obC, okM⟩ := M.T.cls
  obtain ⟨h0, gg, dr, tk, os⟩ := s
  have fresh : h0.objs.size ≤ h0.objs.size + 1 := Nat.le_succ _
  have due := h (h0.objs.size + 1) (I.hok.fresh fresh)
  have kept : ∀ b o, h0.get? b = some o → ((h0.push (PySem.W.kdv_tup uz)).push (PySem.HandSPX.excO C h0.objs.size)).get? b = some o := fun b o e => Heap.get?_push_of_some _ (Heap.get?_push_of_some _ e)
  have there : ((h0.push (PySem.W.kdv_tup uz)).push (PySem.HandSPX.excO C h0.objs.size)).get? (h0.objs.size + 1) = some (PySem.HandSPX.excO C h0.objs.size) := by heap_get
  have J2 : Inv X pins σ (upd H (h0.objs.size + 1) (exo (h0.objs.size + 1) C none)) ⟨(h0.push (PySem.W.kdv_tup uz)).push (PySem.HandSPX.excO C h0.objs.size), gg, dr, tk, os⟩ :=
    I.laid (t' := tk) (a := h0.objs.size + 1) (o := exo (h0.objs.size + 1) C none) (h' := (h0.push (PySem.W.kdv_tup uz)).push (PySem.HandSPX.excO C h0.objs.size)) kept fresh (exo_ok there)
  have v1 : Vals (V.ref (h0.objs.size + 1) :: vz1) (Value.ref (h0.objs.size + 1) :: uz) := .cons rfl r
  have v2 := base.rel v1 vz
  have n1 : (Value.ref (h0.objs.size + 1) :: uz).length = n + 1 := v1.length.symm.trans (congrArg Nat.succ lenA)
  have n2 : wz.length = ks.length := vz.length.symm.trans lenK
  have few : uz.length ≤ sizeLine := by
    rw [← Paired.length r, sizeLine_eq]
    omega
  refine wpAny_call (PySem.EV.call_ownK PySem.F.excBase_ValueError (fun Y => PySem.HandSPX.refsVE_contains Y bm okM) (I.kIn _ _ obC) (PySem.W.looks_findIn I.kIn M.iC) (fun self => PySem.W.bind_fn I.kIn self M.tI) few
    (codeAny_mono (F.run _ X.stack _ _ ⟨Value.ref (h0.objs.size + 1) :: uz, ks.zip wz⟩ (g (Value.ref (h0.objs.size + 1) :: uz) wz) _ _ E0 (rel.make C uz (ks.zip wz)) (J2.env0.make C uz (ks.zip wz)) (base.to _ (Value.ref (h0.objs.size + 1) :: uz) wz J2.kIn n1 n2) v2 due) fun r s' aft => ?_))
  cases r with
  | error er => exact False.elim aft
  | ok fl =>
    cases fl with
    | ret u =>
      obtain ⟨v, H', I3, vr, ev, fin⟩ := J2.after aft
      subst ev
      exact ⟨vr, ⟨V.ref (h0.objs.size + 1), H', I3, rfl, fin⟩⟩
    | next => exact False.elim aft
    | brk => exact False.elim aft
    | cont => exact False.elim aft
theorem pe_mkE (M : MkX X.K C fI) (F : FnOk X.prog X.w X.K X.mg X.base CX0 k fI fd ps sp) (rel : Room (k + 1) X.A) (isGl : Gl X x) (isC : X.mg x = some (.ref C)) (base : KBn X.K fd ps (n + 1) ks g gV) (few1 : n ≤ 1000)
    (argOk : PA X (e :: es) t) (kwOk : PK X kws tk) (named : (backToKw pos (keywordEach kws X.env)).all (·.1.isSome) = true := by rfl) (keys : (backToKw pos (keywordEach kws X.env)).filterMap (·.1) = ks := by rfl)
    (nodbg : (x == ("__debug__" : Str)) = false := by decide) (noStar : starEach (e :: es) X.env = (false, eval e X.env) :: starEach es X.env := by rfl)
    (plain : ((backTo pos (starEach (e :: es) X.env)).any (·.1) || (backToKw pos (keywordEach kws X.env)).any (·.1.isNone)) = false := by rfl) :
    PE X (.Call (.Name x p) (e :: es) kws pos) (tMkE n ks.length C sp gV t tk) := by
  refine ⟨fun pins s σ H Q I h => ?_⟩; refine wpAny_Call_Name_kw (ld_glob I isGl isC ?_ nodbg)
  refine PySem.W.callWith_KW (h₀ := X.base) I.ok.mod.kin M.T.kC named (thn (argOk.run pos pins s σ H _ I h) fun uz st1 ⟨vz1, G1, J1, r, q⟩ => ?_) plain noStar
  refine thn (kwOk.run pos pins st1 σ G1 _ J1 q) fun wz st2 ⟨zz1, G2, J2, vz, lenA, lenK, goal⟩ => ⟨J2.kIn, ?_⟩
  rw [keys]
  exact run_mkE M F rel base few1 J2 r vz lenA lenK goal
theorem pe_mkE0 (M : MkX X.K C fI) (F : FnOk X.prog X.w X.K X.mg X.base CX0 k fI fd ps sp) (rel : Room (k + 1) X.A) (isGl : Gl X x) (isC : X.mg x = some (.ref C)) (base : KBn X.K fd ps (0 + 1) ks g gV)
    (kwOk : PK X kws tk) (named : (backToKw pos (keywordEach kws X.env)).all (·.1.isSome) = true := by rfl) (keys : (backToKw pos (keywordEach kws X.env)).filterMap (·.1) = ks := by rfl)
    (nodbg : (x == ("__debug__" : Str)) = false := by decide)
    (plain : ((backTo pos (starEach [] X.env)).any (·.1) || (backToKw pos (keywordEach kws X.env)).any (·.1.isNone)) = false := by rfl) :
    PE X (.Call (.Name x p) [] kws pos) (tMkE 0 ks.length C sp gV tNil tk) := by
  refine ⟨fun pins s σ H Q I h => ?_⟩; refine wpAny_Call_Name_kw (ld_glob I isGl isC ?_ nodbg)
  refine PySem.W.callWith_KW0 (h₀ := X.base) I.ok.mod.kin M.T.kC named ?_ plain
  refine thn (kwOk.run pos pins s σ H _ I h) fun wz st2 ⟨zz1, G2, J2, vz, lenA, lenK, goal⟩ => ⟨J2.kIn, ?_⟩
  rw [keys]
  exact run_mkE (uz := []) M F rel base (Nat.zero_le _) J2 .nil vz lenA lenK goal
end
section
variable {X : Cx} {C : Addr} {bmB : List Value} {B newId initId : String} {x : Str} {p pos : Pos}
/-- X(), an own exception class without own __init__, as a value -/
theorem pe_exc0 (F : ExcBaseFacts B newId initId bmB) (q : PySem.W.excIn X.K C bmB newId = true) (gC : X.mg x = some (.ref C)) (kC : PySem.W.keepIn X.K (.ref C) = true) (isGl : Gl X x)
    (nodbg : (x == ("__debug__" : Str)) = false := by decide) :
    PE X (.Call (.Name x p) [] [] pos) (fun σ H Q => ∀ a, H a = none → Q (.ref a) (upd H a (ExO (.ref C) a))) := by
  refine ⟨fun pins s σ H Q I h => ?_⟩; refine wpAny_Call_Name_kw (ld_glob I isGl gC ?_ nodbg)
  refine PySem.W.callWith_K0 I.kIn kC ?_
  obtain ⟨bm, N, nmC, qn, bs, hdct, snC, subC, abC, colC, ddC, k0, k1, k2, k3, k5, mN, obC, hN, hni, Fl⟩ := exc_obj I.kIn q
  refine wpAny_call_exc_subT F Fl obC hN hni (fun h' a isC => ?_) (by show 0 ≤ sizeLine; exact Nat.zero_le _)
  have few1 : H a = none := I.hok.gone isC.new
  obtain ⟨t, ht, _, _⟩ := isC.there
  exact ⟨.ref a, upd H a (ExO (.ref C) a), I.laidN isC.keeps isC.new few1 (exO_ok ht ⟨rfl, rfl⟩ rfl rfl rfl (show 4 < 6 by decide)), rfl, h a few1⟩
/-- raise X() -/
theorem pmk_exc0 (F : ExcBaseFacts B newId initId bmB) (q : PySem.W.excIn X.K C bmB newId = true) (gC : X.mg x = some (.ref C)) (kC : PySem.W.keepIn X.K (.ref C) = true) (r : Raises X (.ref C)) (isGl : Gl X x)
    (nodbg : (x == ("__debug__" : Str)) = false := by decide) : PMk X (.Call (.Name x p) [] [] pos) (fun _ H Q => Q (.ref C) none H) := by
  intro pins s σ H Q I h
  refine wpAny_Call_Name_kw (ld_glob I isGl gC ?_ nodbg)
  refine PySem.W.callWith_K0 I.kIn kC ?_
  obtain ⟨bm, N, nmC, qn, bs, hdct, snC, subC, abC, colC, ddC, k0, k1, k2, k3, k5, mN, obC, hN, hni, Fl⟩ := exc_obj I.kIn q
  refine wpAny_call_exc_subT F Fl obC hN hni (fun h' e isC => ?_) (by show 0 ≤ sizeLine; exact Nat.zero_le _)
  exact mk_of I isC r h (I.hok.gone isC.new)
end
/-- a class of exceptions whose instances may have a field f of their own -/
structure ExFld (K : PySem.W.Frag) (C : Addr) (f : Str) : Prop where
  exc : ExcC K C
  no : PySem.W.findIn K (.ref C) f = some none
/-- e.f, e an exception as a value -/
def tFldE (K : PySem.W.Frag) (te : TE) (f : Str) : TE := fun σ H Q => te σ H fun x G1 => ∃ (a C d : Addr) (fs : List (Str × V)) (v : V), x = .ref a ∧ ExFld K C f ∧ G1 a = some (exo a C (some d)) ∧ G1 d = some (exd d fs) ∧ fs.lookup f = some v ∧ Q v G1
theorem pe_fldE {X : Cx} {e : Expr} {te : TE} {f : Str} {pos : Pos} (noStar : PE X e te) (base : attributeBase e f X.env (eval e X.env) = eval e X.env := by rfl) : PE X (.Attribute e f pos) (tFldE X.K te f) := by
  refine ⟨fun pins s σ H Q I h => ?_⟩; refine attr_of base (thn (noStar.run pins s σ H _ I h) fun u st1 hh => ?_)
  obtain ⟨x, G1, J1, relX, a, C, d, fs, v, eqX, Fl, atA, atD, l, q⟩ := hh
  subst eqX
  obtain rfl : u = Value.ref a := relX
  obtain ⟨t1, argOk⟩ := exo_at J1.hok atA
  obtain ⟨mA, nsD, rel⟩ := exd_at J1.hok atD
  obtain ⟨od, obO, lk⟩ := lookIn_ns nsD
  obtain ⟨w, hw, relV⟩ := RelO.some_of (v := v) (o := mA f) (by rw [← l]; exact rel f)
  have JI : PySem.W.InstAt st1.heap a { cls := .ref C, dict := some d, data := .fields #[.ref t1, .none, .none, .none, .bool false, .none] } C (some od) := ⟨argOk, rfl, rfl, obO⟩
  exact HandSPX.exc_get J1.kIn JI Fl.exc.hg Fl.exc.hk Fl.exc.hs (PySem.W.findObj_own Fl.exc.hd Fl.no rfl (by rw [lk, hw])) (handed_of relV) ⟨v, G1, J1.tok _, relV, q⟩
/-- e.f, e the exception that the suite holds -/
def tFldS (K : PySem.W.Frag) (a : Addr) (cls : Value) (d : Option Addr) (te : TE) (f : Str) : TE := fun σ H Q => te σ H fun x G1 => x = .ref a ∧ ∃ (C ddC : Addr) (fs : List (Str × V)) (v : V), cls = .ref C ∧ ExFld K C f ∧ d = some ddC ∧ G1 ddC = some (.xd fs) ∧ fs.lookup f = some v ∧ Q v G1
theorem pe_fldS {X : Cx} {a : Addr} {oe : Obj} {cls : Value} {d : Option Addr} {pn : List (Addr × Obj)} {e : Expr} {te : TE} {f : Str} {pos : Pos} (clsD : Zc cls d oe) (flds : ∃ vz1, oe.data = .fields vz1) (noStar : PE (X.suite a ((a, oe) :: pn)) e te)
    (base : attributeBase e f X.env (eval e X.env) = eval e X.env := by rfl) : PE (X.suite a ((a, oe) :: pn)) (.Attribute e f pos) (tFldS X.K a cls d te f) := by
  refine ⟨fun pins s σ H Q I h => ?_⟩; refine attr_of base (thn (noStar.run pins s σ H _ I h) fun u st1 hh => ?_)
  obtain ⟨x, G1, J1, relX, eqX, C, ddC, fs, v, ec, Fl, atD, atA, l, q⟩ := hh
  subst eqX
  obtain rfl : u = Value.ref a := relX
  subst ec
  subst atD
  obtain ⟨argOk, _⟩ := J1.pin (a, oe) (List.mem_append_left _ List.mem_cons_self)
  obtain ⟨vz1, hd⟩ := flds
  obtain ⟨mA, nsD, rel⟩ := (show ObjOk X.prog X.w G1 st1.heap ddC (.xd fs) from J1.hok ddC _ atA)
  obtain ⟨od, obO, lk⟩ := lookIn_ns nsD
  obtain ⟨w, hw, relV⟩ := RelO.some_of (v := v) (o := mA f) (by rw [← l]; exact rel f)
  have JI : PySem.W.InstAt st1.heap a oe C (some od) := ⟨argOk, clsD.1, by unfold PySem.W.notCls; rw [hd] <;> rfl, by rw [clsD.2]; exact obO⟩
  exact HandSPX.exc_get J1.kIn JI Fl.exc.hg Fl.exc.hk Fl.exc.hs (PySem.W.findObj_own Fl.exc.hd Fl.no rfl (by rw [lk, hw])) (handed_of relV) ⟨v, G1, J1.tok _, relV, q⟩
end L2

namespace L2
open PySem PySem.Spec PyProof.Rows
/-- isinstance's facts of such an instance, whatever dict it has -/
theorem ExcC.kitx {K : PySem.W.Frag} {D x : Addr} {ox : Obj} {od : Option Obj} (C : ExcC K D) : PySem.W.KitX K (.ref x) (.ref D) (fun h => PySem.W.InstAt h x ox D od) :=
  PySem.W.kitx_exc (by obtain ⟨cd, e, _⟩ := PySem.W.any_some C.hd; rw [e] <;> rfl) C.hg C.hk C.hs C.ha C.hn C.ht C.hm
/-- at a stands an exception of the class C, as a value -/
def ExAt (H : Hp) (a C : Addr) : Prop := (∃ d fs, H a = some (exo a C (some d)) ∧ H d = some (exd d fs)) ∨ H a = some (ExO (.ref C) a)
theorem ExAt.mono {H H' : Hp} {a C : Addr} (s : Same H H') (h : ExAt H a C) : ExAt H' a C := by
  rcases h with ⟨d, fs, h1, h2⟩ | h
  · exact .inl ⟨d, fs, s _ _ h1, s _ _ h2⟩
  · exact .inr (s _ _ h)
def rIsX (K : PySem.W.Frag) : List V → Hp → VK → Prop := fun ys H Q => ∃ (a D : Addr) (c : V) (cv : Value) (b : Bool), ys = [.ref a, c] ∧ ClsV c cv ∧ ExcC K D ∧ ExAt H a D ∧ PySem.W.kitOne K (.ref D) cv = some b ∧ Q (.bl b) H
theorem call_isX {X : Cx} : CallR X (.builtin "isinstance") (rIsX X.K) := by
  intro pns s σ H ys uz Q inv rel h
  obtain ⟨a, D, c, cv, b, rfl, hcv, C, ea, e, q⟩ := h
  obtain ⟨ua, ub, rfl, ra, rb⟩ := vals2 rel
  have ec := hcv.eq rb
  subst ec
  cases (show ua = Value.ref a from ra)
  have J : ∃ oe oD, PySem.W.InstAt s.heap a oe D oD := by
    rcases ea with ⟨d, fs, ea, ed⟩ | ea
    · obtain ⟨t1, ha⟩ := exo_at inv.hok ea
      obtain ⟨mA, nsD, hr⟩ := exd_at inv.hok ed
      obtain ⟨oD, obO, lkO⟩ := lookIn_ns nsD
      exact ⟨_, some oD, ha, rfl, rfl, obO⟩
    · obtain ⟨⟨oe, vs, obO, hz, hd, _⟩, _, _⟩ := inv.hok a _ ea
      refine ⟨oe, none, obO, hz.1, ?_, ?_⟩
      · unfold PySem.W.notCls; rw [hd] <;> rfl
      · rw [hz.2]; exact True.intro
  obtain ⟨oe, oD, J⟩ := J
  exact PySem.W.kia_one (C.kitx (ox := oe) (od := oD)) inv.kIn J e (fun z => nomatch z) fun tk => ⟨.bl b, H, inv.kept (t' := tk) fun _ _ z => z, rfl, q⟩
/-- isinstance(e, c), e the exception that the suite holds, with a dict or none -/
def rIsS (K : PySem.W.Frag) (a : Addr) (cls : Value) (d : Option Addr) : List V → Hp → VK → Prop := fun ys H Q => ∃ (D : Addr) (c : V) (cv : Value) (b : Bool), ys = [.ref a, c] ∧ cls = .ref D ∧ ClsV c cv ∧ ExcC K D ∧ (d = none ∨ ∃ dd fs, d = some dd ∧ H dd = some (.xd fs)) ∧ PySem.W.kitOne K (.ref D) cv = some b ∧ Q (.bl b) H
theorem call_isS {X : Cx} {a : Addr} {oe : Obj} {cls : Value} {d : Option Addr} {pn : List (Addr × Obj)} (hz : Zc cls d oe) (hf : ∃ vs, oe.data = .fields vs) : CallR (X.suite a ((a, oe) :: pn)) (.builtin "isinstance") (rIsS X.K a cls d) := by
  intro pns s σ H ys uz Q inv rel h
  obtain ⟨D, c, cv, b, rfl, ecl, hcv, C, hd, e, q⟩ := h
  obtain ⟨ua, ub, rfl, ra, rb⟩ := vals2 rel
  have ec := hcv.eq rb
  subst ec
  subst ecl
  cases (show ua = Value.ref a from ra)
  obtain ⟨gotE, _⟩ := inv.pin (a, oe) (List.mem_append.mpr (.inl List.mem_cons_self))
  obtain ⟨vs, hv⟩ := hf
  have J : ∃ oD, PySem.W.InstAt s.heap a oe D oD := by
    rcases hd with hd | ⟨dd, fs, hd, ea⟩
    · refine ⟨none, gotE, hz.1, ?_, ?_⟩
      · unfold PySem.W.notCls; rw [hv] <;> rfl
      · rw [hz.2, hd]; exact True.intro
    · obtain ⟨mA, nsD, hr⟩ := (show ObjOk X.prog X.w H s.heap dd (.xd fs) from inv.hok dd _ ea)
      obtain ⟨oD, obO, lkO⟩ := lookIn_ns nsD
      refine ⟨some oD, gotE, hz.1, ?_, ?_⟩
      · unfold PySem.W.notCls; rw [hv] <;> rfl
      · rw [hz.2, hd]; exact obO
  obtain ⟨oD, J⟩ := J
  exact PySem.W.kia_one (C.kitx (ox := oe) (od := oD)) inv.kIn J e (fun z => nomatch z) fun tk => ⟨.bl b, H, inv.kept (t' := tk) fun _ _ z => z, rfl, q⟩
/-- kitOne of two own classes by k_is's words -/
theorem kit_own {K : PySem.W.Frag} {D C : Addr} {b : Bool} (hc : PySem.W.hasDictIn K C = true) (ht : PySem.W.typeIn K (.ref C) = some (.type "type")) (hs : PySem.W.subIn K (.ref D) (.ref C) = some b) (hb : D = C → b = true) : PySem.W.kitOne K (.ref D) (.ref C) = some b := by
  unfold PySem.W.kitOne
  by_cases e : D = C
  · subst e
    rw [if_pos (beq_self_eq_true _), hb rfl]
  · rw [if_neg (by simpa using e)]
    obtain ⟨cd, hc, _⟩ := PySem.W.any_some hc
    unfold PySem.W.kitCls
    dsimp only
    rw [if_pos (by rw [hc, ht] <;> rfl)]
    exact hs
theorem kit_ve {K : PySem.W.Frag} {D : Addr} {b : Bool} (hs : PySem.W.subIn K (.ref D) (.type "ValueError") = some b) : PySem.W.kitOne K (.ref D) (.type "ValueError") = some b := by
  unfold PySem.W.kitOne
  rw [if_neg (by intro z; cases z)]
  unfold PySem.W.kitCls
  dsimp only
  rw [if_pos (by decide +kernel)]
  exact hs
end L2

namespace K01
open PySem PySem.Spec PyProof.Rows L2
def top (i : Nat) : Stmt := PySem.Challenge.pw_saidanew_k01_errors_and_their_values.main.body.getD i (.Pass ⟨0, 0, 0, 0⟩)
abbrev sFeed : Stmt := top 15
abbrev sDraw : Stmt := top 16
abbrev sPick : Stmt := top 17
abbrev sSame : Stmt := top 18
abbrev sAny : Stmt := top 19
abbrev sMade : Stmt := top 20
abbrev sSorts : Stmt := top 21
abbrev sRaised : Stmt := top 22
abbrev sLaw : Stmt := top 23
theorem scF : FnScope ["_law_script", "_law_k", "_law_cell", "_law_great"] ["_law_script", "_law_k"] (defScope sFeed) := ⟨rfl, rfl, rfl, by decide +kernel, rfl, by decide +kernel, by decide +kernel⟩
theorem scD : FnScope ["_law_feed", "_law_many", "_law_digit"] ["_law_feed", "_law_many"] (defScope sDraw) := ⟨rfl, rfl, rfl, by decide +kernel, rfl, by decide +kernel, by decide +kernel⟩
theorem scP : FnScope ["_law_feed", "_law_items"] ["_law_feed", "_law_items"] (defScope sPick) := ⟨rfl, rfl, rfl, by decide +kernel, rfl, by decide +kernel, by decide +kernel⟩
theorem same_new {H : Hp} {p : Addr} {o : HO} (h : H p = none) : Same H (upd H p o) := fun b u q => by rw [upd_ne (ne_of_none q h)]; exact q
def But (f : Addr) (H H' : Hp) : Prop := ∀ b o, b ≠ f → H b = some o → H' b = some o
theorem But.refl {f : Addr} {H : Hp} : But f H H := fun _ _ _ h => h
theorem But.trans {f : Addr} {H H1 H2 : Hp} (a : But f H H1) (b : But f H1 H2) : But f H H2 := fun c o n h => b c o n (a c o n h)
theorem But.of {f : Addr} {H H' : Hp} (s : Same H H') : But f H H' := fun c o _ h => s c o h
theorem But.upd {f : Addr} {H : Hp} {o : HO} : But f H (upd H f o) := fun c u n h => by rw [upd_ne n]; exact h
section
variable {P : Program} {w : World} {K : PySem.W.Frag} {mg : Str → Option Value} {base : Heap}
/-- a draw -/
def spDraw : Sp := fun vs H Q _ => ∃ (f : Addr) (g m many : Int), vs = [.ref f, .int many] ∧ H f = some (.lst [.int g, .int m]) ∧ 0 < many ∧ many < 1073741824 ∧
  ∀ d g' m' : Int, 0 ≤ d → d < many → Q (.int d) (upd H f (.lst [.int g', .int m']))
theorem ok_draw {f : Addr} {fd : FuncData} (F : Fun K "_law_draw" "_law_draw" sDraw f fd) : FnOk P w K mg base CX0 1 f fd ["_law_feed", "_law_many"] spDraw := by
  refine F.ok scD (fun vs H Q E h => ?_) (fun cdv A outer s H vs Q E hr h => ?_)
  · obtain ⟨f, g, m, many, rfl, _⟩ := h
    rfl
  · obtain ⟨f, g, m, many, rfl, hf, h0, h1, q⟩ := h
    refine ⟨_, pss_cons (ps_if (pt_cmpR op_gt (pe_ix ix_list (pv 0) pe_int (fun _ _ => rfl)) pe_int (nomark _))
        (pss_cons (ps_set (i := 2) scD.nd rfl (.inl rfl) (pe_op op_mod (pe_ix ix_list (pv 0) pe_int (fun _ _ => rfl)) (pv 1)))
        (pss_cons (ps_asg (pe_op op_fdiv (pe_ix ix_list (pv 0) pe_int (fun _ _ => rfl)) (pv 1)) (pg_sub (pv 0) pe_int set_list))
        (pss_one (ps_ret (pv 2))))) pss_nil)
      (pss_cons (ps_asg (pe_op op_mod (pe_op op_add (pe_op op_mul (pe_ix ix_list (pv 0) pe_int (fun _ _ => rfl)) pe_int) pe_int) pe_int) (pg_sub (pv 0) pe_int set_list))
      (pss_one (ps_ret (pe_op op_mod (pe_op op_fdiv (pe_ix ix_list (pv 0) pe_int (fun _ _ => rfl)) pe_int) (pv 1))))), ?_⟩
    have hS : SqL K H f [.int g, .int m] := SqL.of hf
    refine ⟨_, rfl, f, _, _, _, rfl, rfl, hS, atI_nat (j := 0) rfl, _, _, rfl, rfl, _, rfl, ?_⟩
    refine ite2 (fun c => ?_) (fun c => ?_)
    · refine ⟨_, rfl, f, _, _, _, rfl, rfl, hS, atI_nat (j := 0) rfl, _, rfl, _, _, rfl, rfl, h0, ?_⟩
      refine ⟨_, rfl, f, _, _, _, rfl, rfl, hS, atI_nat (j := 0) rfl, _, rfl, _, _, rfl, rfl, ⟨h0, h1⟩, ?_⟩
      refine ⟨_, rfl, f, _, _, 0, rfl, rfl, hf, rfl, _, rfl, ?_⟩
      exact q _ _ _ (Int.emod_nonneg _ (by omega)) (Int.emod_lt_of_pos _ h0)
    · refine ⟨_, rfl, f, _, _, _, rfl, rfl, hS, atI_nat (j := 1) rfl, _, _, rfl, rfl, .inr ⟨by decide, by decide⟩, _, _, rfl, rfl, _, _, rfl, rfl, (by show (0 : Int) < 2147483647; decide), ?_⟩
      refine ⟨_, rfl, f, _, _, 1, rfl, rfl, hf, rfl, ?_⟩
      refine ⟨_, rfl, f, _, _, _, rfl, rfl, SqL.of upd_same, atI_nat (j := 1) rfl, _, _, rfl, rfl, ⟨by decide, by decide⟩, _, rfl, _, _, rfl, rfl, h0, ?_⟩
      exact q _ _ _ (Int.emod_nonneg _ (by omega)) (Int.emod_lt_of_pos _ h0)
end
end K01

namespace K01
open PySem PySem.Spec PyProof.Rows L2
section
variable {P : Program} {w : World} {K : PySem.W.Frag} {mg : Str → Option Value} {base : Heap}
def spPick : Sp := fun vs H Q _ => ∃ (f a : Addr) (g m : Int) (xs : List V), vs = [.ref f, .ref a] ∧ H f = some (.lst [.int g, .int m]) ∧ H a = some (.lst xs) ∧ a ≠ f ∧ 0 < xs.length ∧ xs.length ≤ 1000 ∧
  ∀ (x : V) (g' m' : Int), x ∈ xs → Q x (upd H f (.lst [.int g', .int m']))
theorem ok_pick {f fD : Addr} {fd fdD : FuncData} (F : Fun K "_law_pick" "_law_pick" sPick f fd) (G : FnOk P w K mg base CX0 1 fD fdD ["_law_feed", "_law_many"] spDraw) (bD : Binds K fdD ["_law_feed", "_law_many"] []) (kD : PySem.W.keepIn K (.ref fD) = true)
    (mD : mg "_law_draw" = some (.ref fD)) (ml : mg "len" = none) : FnOk P w K mg base CX0 2 f fd ["_law_feed", "_law_items"] spPick := by
  refine F.ok scP (fun vs H Q E h => ?_) (fun cdv A outer s H vs Q E hr h => ?_)
  · obtain ⟨f, a, g, m, xs, rfl, _⟩ := h
    rfl
  · obtain ⟨f, a, g, m, xs, rfl, hf, ha, ne, h0, h1, q⟩ := h
    refine ⟨_, pss_one (ps_ret (pe_ix ix_list (pv 1) (pe_call G hr rfl mD kD bD .nil pass0 (pa_cons (pv 0) (pa_cons (pe_callB call_len_seq rfl ml PySem.boot_len (pa_cons (pv 1) pa_nil)) pa_nil))) (fun _ _ => rfl))), ?_⟩
    refine ⟨_, rfl, _, rfl, _, rfl, a, _, rfl, .inl (SqL.of ha), f, g, m, _, rfl, hf, by omega, by omega, fun d g' m' d0 d1 => ?_⟩
    obtain ⟨j, rfl⟩ : ∃ j : Nat, d = (j : Int) := ⟨d.toNat, by omega⟩
    have hj : j < xs.length := by omega
    refine ⟨a, xs, _, _, rfl, rfl, SqL.of (by rw [upd_ne ne]; exact ha), atI_nat (List.getElem?_eq_getElem hj), ?_⟩
    exact q _ g' m' (List.getElem_mem hj)
def spFeed (K : PySem.W.Frag) : Sp := fun vs H Q _ => ∃ (a : Addr) (ns : List Int) (k : Nat), vs = [.ref a, .int k] ∧ SqL K H a (ns.map V.int) ∧ ns.length ≤ 63 ∧
  ∀ (l : Addr) (g m : Int), H l = none → Q (.ref l) (upd H l (.lst [.int g, .int m]))
theorem ok_feed {f : Addr} {fd : FuncData} (F : Fun K "_law_feed_of" "_law_feed_of" sFeed f fd) (ml : mg "len" = none) : FnOk P w K mg base CX0 1 f fd ["_law_script", "_law_k"] (spFeed K) := by
  refine F.ok scF (fun vs H Q E h => ?_) (fun cdv A outer s H vs Q E hr h => ?_)
  · obtain ⟨a, ns, k, rfl, _⟩ := h
    rfl
  · obtain ⟨a, ns, k, rfl, hS, hlen, q⟩ := h
    refine ⟨_, pss_cons (ps_set (i := 2) scF.nd rfl (.inl rfl) (pe_op op_add (pe_op op_mul pe_int (pv 1)) pe_int))
      (pss_cons (ps_if (pt_cmpR op_lt (pv 1) (pe_callB call_len_seq rfl ml PySem.boot_len (pa_cons (pv 0) pa_nil)) (nomark _)) (pss_one (ps_set (i := 2) scF.nd rfl (.inl rfl) (pe_ix ix_list (pv 0) (pv 1) (fun _ _ => rfl)))) pss_nil)
      (pss_cons (ps_if (pt_cmpR op_lt (pv 2) pe_int (nomark _)) (pss_one (ps_set (i := 2) scF.nd rfl (.inl rfl) (pe_op op_sub pe_int (pe_op op_mul pe_int (pv 2))))) pss_nil)
      (pss_cons (ps_set (i := 3) scF.nd rfl (.inl rfl) (pe_ifExp (pt_cmpR op_ge (pv 2) (pe_op op_pow pe_int pe_int) (nomark _)) (pv 2) pe_int))
      (pss_one (ps_ret (pe_lst (pa_cons (pv 3) (pa_cons (pe_op op_add (pe_op op_add (pe_op op_mod (pv 2) pe_int) (pe_op op_mul pe_int (pv 1))) pe_int) pa_nil)))))))), ?_⟩
    refine ⟨_, rfl, _, _, rfl, rfl, .inl ⟨by decide, by decide⟩, _, _, rfl, rfl, ?_⟩
    refine ⟨_, rfl, _, rfl, a, _, rfl, .inl hS, _, _, rfl, rfl, _, rfl, ?_⟩
    refine ite2 (fun c => ?_) (fun c => ?_)
    · have c' : (k : Int) < (((ns.map V.int).length : Nat) : Int) := of_decide_eq_true c
      rw [List.length_map] at c'
      have hk : k < ns.length := by omega
      refine ⟨_, rfl, _, rfl, a, _, _, _, rfl, rfl, hS, atI_nat (v := V.int ns[k]) (by rw [List.getElem?_map, List.getElem?_eq_getElem hk]; rfl), ?_⟩
      refine ⟨_, rfl, _, _, rfl, rfl, _, rfl, ?_⟩
      refine ite2 (fun c => ?_) (fun c => ?_)
      · refine ⟨_, rfl, _, _, rfl, rfl, .inl ⟨by decide, by decide⟩, _, _, rfl, rfl, ?_⟩
        refine ⟨_, rfl, _, _, rfl, rfl, ⟨by decide, by decide, by decide⟩, _, _, rfl, rfl, _, rfl, ?_⟩
        refine ite2 (fun c => ?_) (fun c => ?_)
        · refine ⟨_, rfl, _, rfl, _, rfl, _, _, rfl, rfl, (by show (0 : Int) < 1000003; decide), _, rfl, _, _, rfl, rfl, .inl ⟨by decide, by decide⟩, _, _, rfl, rfl, _, _, rfl, rfl, (by show 2 ≤ sizeLine; decide), fun l hl => q l _ _ hl⟩
        · refine ⟨_, rfl, _, rfl, _, _, rfl, rfl, (by show (0 : Int) < 1000003; decide), _, rfl, _, _, rfl, rfl, .inl ⟨by decide, by decide⟩, _, _, rfl, rfl, _, _, rfl, rfl, (by show 2 ≤ sizeLine; decide), fun l hl => q l _ _ hl⟩
      · refine ⟨_, rfl, _, _, rfl, rfl, ⟨by decide, by decide, by decide⟩, _, _, rfl, rfl, _, rfl, ?_⟩
        refine ite2 (fun c => ?_) (fun c => ?_)
        · refine ⟨_, rfl, _, rfl, _, rfl, _, _, rfl, rfl, (by show (0 : Int) < 1000003; decide), _, rfl, _, _, rfl, rfl, .inl ⟨by decide, by decide⟩, _, _, rfl, rfl, _, _, rfl, rfl, (by show 2 ≤ sizeLine; decide), fun l hl => q l _ _ hl⟩
        · refine ⟨_, rfl, _, rfl, _, _, rfl, rfl, (by show (0 : Int) < 1000003; decide), _, rfl, _, _, rfl, rfl, .inl ⟨by decide, by decide⟩, _, _, rfl, rfl, _, _, rfl, rfl, (by show 2 ≤ sizeLine; decide), fun l hl => q l _ _ hl⟩
    · refine ⟨_, rfl, _, _, rfl, rfl, _, rfl, ?_⟩
      refine ite2 (fun c => ?_) (fun c => ?_)
      · refine ⟨_, rfl, _, _, rfl, rfl, .inl ⟨by decide, by decide⟩, _, _, rfl, rfl, ?_⟩
        refine ⟨_, rfl, _, _, rfl, rfl, ⟨by decide, by decide, by decide⟩, _, _, rfl, rfl, _, rfl, ?_⟩
        refine ite2 (fun c => ?_) (fun c => ?_)
        · refine ⟨_, rfl, _, rfl, _, rfl, _, _, rfl, rfl, (by show (0 : Int) < 1000003; decide), _, rfl, _, _, rfl, rfl, .inl ⟨by decide, by decide⟩, _, _, rfl, rfl, _, _, rfl, rfl, (by show 2 ≤ sizeLine; decide), fun l hl => q l _ _ hl⟩
        · refine ⟨_, rfl, _, rfl, _, _, rfl, rfl, (by show (0 : Int) < 1000003; decide), _, rfl, _, _, rfl, rfl, .inl ⟨by decide, by decide⟩, _, _, rfl, rfl, _, _, rfl, rfl, (by show 2 ≤ sizeLine; decide), fun l hl => q l _ _ hl⟩
      · refine ⟨_, rfl, _, _, rfl, rfl, ⟨by decide, by decide, by decide⟩, _, _, rfl, rfl, _, rfl, ?_⟩
        refine ite2 (fun c => ?_) (fun c => ?_)
        · refine ⟨_, rfl, _, rfl, _, rfl, _, _, rfl, rfl, (by show (0 : Int) < 1000003; decide), _, rfl, _, _, rfl, rfl, .inl ⟨by decide, by decide⟩, _, _, rfl, rfl, _, _, rfl, rfl, (by show 2 ≤ sizeLine; decide), fun l hl => q l _ _ hl⟩
        · refine ⟨_, rfl, _, rfl, _, _, rfl, rfl, (by show (0 : Int) < 1000003; decide), _, rfl, _, _, rfl, rfl, .inl ⟨by decide, by decide⟩, _, _, rfl, rfl, _, _, rfl, rfl, (by show 2 ≤ sizeLine; decide), fun l hl => q l _ _ hl⟩
end
end K01

namespace K01
open PySem PySem.Spec PyProof.Rows L2
/-! ### data of a depth -/
/-- flat, or a tuple or a list of such, all of them at places of N -/
def Dn (N : Addr → Prop) (H : Hp) : Nat → V → Prop
  | 0, v => flatV v = true
  | n + 1, v => flatV v = true ∨ ∃ a xs, v = .ref a ∧ N a ∧ (H a = some (.tup xs) ∨ H a = some (.lst xs)) ∧ xs.length ≤ 3 ∧ ∀ x ∈ xs, Dn N H n x
theorem Dn.flat {N : Addr → Prop} {H : Hp} : ∀ {n : Nat} {v : V}, flatV v = true → Dn N H n v
  | 0, _, h => h
  | _ + 1, _, h => .inl h
theorem Dn.mono {N N' : Addr → Prop} {H H' : Hp} (hN : ∀ a, N a → N' a) (s : ∀ a o, N a → H a = some o → H' a = some o) : ∀ {n : Nat} {v : V}, Dn N H n v → Dn N' H' n v
  | 0, _, h => h
  | n + 1, v, h => by
    rcases h with h | ⟨a, xs, e, ne, h, l, q⟩
    · exact .inl h
    · refine .inr ⟨a, xs, e, hN a ne, ?_, l, fun x hx => Dn.mono hN s (q x hx)⟩
      rcases h with h | h
      · exact .inl (s _ _ ne h)
      · exact .inr (s _ _ ne h)
theorem But.none {f a : Addr} {H H' : Hp} {u : HO} (s : But f H H') (hf : H' f = some u) (h : H' a = none) : H a = none := by
  cases e : H a with
  | none => rfl
  | some o =>
    by_cases q : a = f
    · rw [q, hf] at h
      cases h
    · rw [s a o q e] at h
      cases h
abbrev nAny : List Str := ["_law_feed", "_law_deep", "_law_form", "_law_some", "_law_turn"]
theorem scA : FnScope nAny ["_law_feed", "_law_deep"] (defScope sAny) := ⟨rfl, rfl, rfl, by decide +kernel, rfl, by decide +kernel, by decide +kernel⟩
def someA : List V := [.int 0, .int 1, .int (-1), .int 17, .int (10 ^ 30), .bl true, .bl false, .non, .str "", .str "a", .str "red", .str "plus", .str "use", .str "Name", .str "a b", .str "abcdefghi", .str "int"]
def someB : List V := [.str "where", .str "rule", .str "true", .str "try", .str "cell", .str "global", .str "list", .str "same", .str "first", .str "none", .str "run", .str "made"]
theorem some_flat : ∀ x ∈ someA ++ someB, flatV x = true := by decide +kernel
section
variable {P : Program} {w : World} {K : PySem.W.Frag} {mg : Str → Option Value} {base : Heap}
def spAny (n : Nat) : Sp := fun vs H Q _ => ∃ (f : Addr) (g m : Int) (d : Nat), vs = [.ref f, .int d] ∧ H f = some (.lst [.int g, .int m]) ∧ d < n ∧
  ∀ (v : V) (H' : Hp) (g' m' : Int), But f H H' → H' f = some (.lst [.int g', .int m']) → Dn (fun a => H a = none) H' d v → Q v H'

def tA1 : TA := tCons (tC (V.int 0)) (tCons (tC (V.int 1)) (tCons (tUn (rU fun i => V.int (-i)) (tC (V.int 1))) (tCons (tC (V.int 17)) (tCons (tOp (rI CPow fun i j => V.int (i ^ j.toNat)) (tC (V.int 10)) (tC (V.int 30)))
  (tCons (tC (V.bl true)) (tCons (tC (V.bl false)) (tCons (tC V.non) (tCons (tC (V.str "")) (tCons (tC (V.str "a")) (tCons (tC (V.str "red")) (tCons (tC (V.str "plus")) (tCons (tC (V.str "use")) (tCons (tC (V.str "Name")) (tCons (tC (V.str "a b")) (tCons (tC (V.str "abcdefghi")) (tCons (tC (V.str "int")) tNil))))))))))))))))
def tA2 : TA := tCons (tC (V.str "where")) (tCons (tC (V.str "rule")) (tCons (tC (V.str "true")) (tCons (tC (V.str "try")) (tCons (tC (V.str "cell")) (tCons (tC (V.str "global")) (tCons (tC (V.str "list")) (tCons (tC (V.str "same")) (tCons (tC (V.str "first")) (tCons (tC (V.str "none")) (tCons (tC (V.str "run")) (tCons (tC (V.str "made")) tNil)))))))))))
theorem tail_ok {D : Ends} {f : Addr} {g m : Int} {H : Hp} {x1 x2 x3 x4 : Option V} (hf : H f = some (.lst [.int g, .int m]))
    (q : ∀ (v : V) (H' : Hp) (g' m' : Int), But f H H' → H' f = some (.lst [.int g', .int m']) → flatV v = true → D.rt v H') :
    tSeq (tAsg (tLst tA1) (gName 3)) (tSeq (tAsg (tOp rCat (tVar 3) (tLst tA2)) (gName 3)) (tRet (tCall spPick [] E0 (tCons (tVar 0) (tCons (tVar 3) tNil))))) D [some (.ref f), x1, x2, x3, x4] H := by
  refine ⟨_, rfl, _, _, rfl, rfl, ⟨by decide, by decide, by decide⟩, (by show 17 ≤ sizeLine; decide), fun p hp => ?_⟩
  refine ⟨_, rfl, (by show 12 ≤ sizeLine; decide), fun p2 hp2 => ?_⟩
  refine ⟨p, p2, _, _, rfl, rfl, (by rw [upd_ne (ne_of_none upd_same hp2)]; exact upd_same), upd_same, (by show 17 + 12 ≤ sizeLine; decide), fun t ht => ?_⟩
  have hft : (upd (upd (upd H p (.lst someA)) p2 (.lst someB)) t (.lst (someA ++ someB))) f = some (.lst [.int g, .int m]) := same_new ht _ _ (same_new hp2 _ _ (same_new hp _ _ hf))
  have hb : But f H (upd (upd (upd H p (.lst someA)) p2 (.lst someB)) t (.lst (someA ++ someB))) := But.of ((same_new hp).trans ((same_new hp2).trans (same_new ht)))
  refine ⟨_, rfl, _, rfl, f, t, g, m, someA ++ someB, rfl, hft, upd_same, ?_, by decide, by decide, fun x g' m' hx => ?_⟩
  · have z : (upd (upd H p (.lst someA)) p2 (.lst someB)) f = some (.lst [.int g, .int m]) := same_new hp2 _ _ (same_new hp _ _ hf)
    exact (ne_of_none z ht).symm
  · exact q x _ g' m' (hb.trans But.upd) upd_same (some_flat x hx)
def tCmp (many : Int) (n : Nat) : TE := tLc (iRng1 (tCons (tCall spDraw [] E0 (tCons (tVar 0) (tCons (tC (V.int many)) tNil))) tNil)) (gName 4) tYes
  (tCall (spAny n) [] E0 (tCons (tVar 0) (tCons (tOp (rI0 fun i j => V.int (i - j)) (tVar 1) (tC (V.int 1))) tNil))) [4]
theorem comp_ok {n d : Nat} {many : Int} {f : Addr} {g m : Int} {H : Hp} {Q : VK} {x2 x3 x4 : Option V} (h0 : 0 < many) (h4 : many ≤ 4) (hd : 0 < d) (hn : d ≤ n) (hf : H f = some (.lst [.int g, .int m]))
    (q : ∀ (D : Addr) (acc : List V) (H' : Hp) (g' m' : Int), But f H H' → H' f = some (.lst [.int g', .int m']) → H D = none → D ≠ f → H' D = some (.lst acc) → acc.length ≤ 3 → (∀ x ∈ acc, Dn (fun a => H a = none ∧ a ≠ D) H' (d - 1) x) → Q (.ref D) H') :
    tCmp many n [some (.ref f), some (.int d), x2, x3, x4] H Q := by
  refine ⟨_, rfl, f, g, m, many, rfl, hf, h0, by omega, fun k g1 m1 k0 k1 => ?_⟩
  have b1 : But f H (upd H f (.lst [.int g1, .int m1])) := But.upd
  have hf1 : (upd H f (.lst [.int g1, .int m1])) f = some (.lst [.int g1, .int m1]) := upd_same
  generalize upd H f (.lst [.int g1, .int m1]) = H1 at b1 hf1 ⊢
  obtain ⟨kn, rfl⟩ : ∃ kn : Nat, k = (kn : Int) := ⟨k.toNat, by omega⟩
  refine ⟨_, rfl, by omega, by omega, fun D hD => ?_⟩
  have hDf : D ≠ f := fun e => by rw [e, hf1] at hD; cases hD
  refine lc_range (lo := 0) (n := ((kn : Int)).toNat) (fun i H2 => ∃ (acc : List V) (g2 m2 : Int), H2 D = some (.lst acc) ∧ acc.length = i ∧ H2 f = some (.lst [.int g2, .int m2]) ∧ (∀ b o, b ≠ f → H1 b = some o → H2 b = some o) ∧ ∀ x ∈ acc, Dn (fun a => H a = none ∧ a ≠ D) H2 (d - 1) x)
    ⟨[], g1, m1, upd_same, rfl, by rw [upd_ne hDf.symm]; exact hf1, fun b o hb e => by rw [upd_ne (ne_of_none e hD)]; exact e, fun x hx => by cases hx⟩ ?_ ?_
  · rintro i H2 hi ⟨acc, g2, m2, eD, la, hf2, b2, ha⟩
    refine ⟨rfl, ?_⟩
    dsimp only [tYes]
    refine iteT ?_
    refine ⟨_, rfl, _, rfl, _, _, rfl, rfl, f, g2, m2, d - 1, ?_, hf2, by omega, fun v H3 g3 m3 b3 hf3 dv => ?_⟩
    · show [V.ref f, V.int ((d : Int) - 1)] ++ [] = _
      rw [show ((d : Int) - 1) = ((d - 1 : Nat) : Int) by omega]
      rfl
    have eD3 : H3 D = some (.lst acc) := b3 _ _ hDf eD
    have hfN : ∀ a, H a = none → a ≠ f := fun a z e => by rw [e, hf] at z; cases z
    have old : ∀ x ∈ acc, Dn (fun a => H a = none ∧ a ≠ D) H3 (d - 1) x := fun x hx => (ha x hx).mono (fun _ z => z) fun a o z e => b3 a o (hfN a z.1) e
    have dv' : Dn (fun a => H a = none ∧ a ≠ D) H3 (d - 1) v := dv.mono (fun a z => ⟨b1.none hf1 (But.none (f := f) (H' := H2) b2 hf2 z), fun e => by rw [e, eD] at z; cases z⟩) fun _ _ _ e => e
    refine ⟨acc, eD3, ?_, acc ++ [v], g3, m3, upd_same, by rw [List.length_append, la]; rfl, by rw [upd_ne hDf.symm]; exact hf3, fun b o hb e => ?_, fun x hx => ?_⟩
    · exact small1000 (by omega)
    · rw [upd_ne (ne_of_none e hD)]
      exact b3 _ _ hb (b2 _ _ hb e)
    · have fin : ∀ y, Dn (fun a => H a = none ∧ a ≠ D) H3 (d - 1) y → Dn (fun a => H a = none ∧ a ≠ D) (upd H3 D (.lst (acc ++ [v]))) (d - 1) y := fun y z => z.mono (fun _ z => z) fun a o z e => by rw [upd_ne z.2]; exact e
      rcases List.mem_append.mp hx with hx | hx
      · exact fin x (old x hx)
      · rw [List.mem_singleton] at hx
        rw [hx]
        exact fin v dv'
  · rintro H2 ⟨acc, g2, m2, eD, la, hf2, b2, ha⟩
    exact q D acc H2 g2 m2 (b1.trans b2) hf2 (b1.none hf1 hD) hDf eD (by omega) ha
/-- what stands of the defs that are called -/
structure TA1 (P : Program) (w : World) (K : PySem.W.Frag) (mg : Str → Option Value) (base : Heap) (fD fP fA : Addr) (fdD fdP fdA : FuncData) : Prop where
  GD : FnOk P w K mg base CX0 1 fD fdD ["_law_feed", "_law_many"] spDraw
  bD : Binds K fdD ["_law_feed", "_law_many"] []
  kD : PySem.W.keepIn K (.ref fD) = true
  mD : mg "_law_draw" = some (.ref fD)
  GP : FnOk P w K mg base CX0 2 fP fdP ["_law_feed", "_law_items"] spPick
  bP : Binds K fdP ["_law_feed", "_law_items"] []
  kP : PySem.W.keepIn K (.ref fP) = true
  mP : mg "_law_pick" = some (.ref fP)
  bA : Binds K fdA ["_law_feed", "_law_deep"] []
  kA : PySem.W.keepIn K (.ref fA) = true
  mA : mg "_law_any_value" = some (.ref fA)
  mt : mg "tuple" = none
  mr : mg "range" = none
theorem ok_any_step {n : Nat} {fD fP fA : Addr} {fdD fdP fdA : FuncData} {dvs : List V} {kws : List (Str × V)} (F : FunD K "_law_any_value" "_law_any_value" (defArgs sAny) (defBody sAny) (defScope sAny) dvs kws fA fdA) (T : TA1 P w K mg base fD fP fA fdD fdP fdA)
    (G : FnOk P w K mg base CX0 (n + 2) fA fdA ["_law_feed", "_law_deep"] (spAny n)) : FnOk P w K mg base CX0 (n + 3) fA fdA ["_law_feed", "_law_deep"] (spAny (n + 1)) := by
  refine F.ok (CX := CX0) scA (fun vs H Q E h => ?_) (fun cdv A outer s H vs Q E hr h => ?_)
  · obtain ⟨f, g, m, d, rfl, _⟩ := h
    rfl
  · obtain ⟨f, g, m, d, rfl, hf, hd, q⟩ := h
    have hr1 : Room 1 _ := hr.mono (by omega)
    have hr2 : Room 2 _ := hr.mono (by omega)
    refine ⟨_, pss_cons (ps_set (i := 2) scA.nd rfl (.inl rfl) (pe_call T.GD hr1 rfl T.mD T.kD T.bD .nil pass0 (pa_cons (pv 0) (pa_cons pe_int pa_nil))))
      (pss_cons (ps_if (PW.pt (pw_and (pt_cmpR op_lt (pv 2) pe_int (nomark _)) (pw_and1 (pt_cmpR op_gt (pv 1) pe_int (nomark _)))))
        (pss_one (ps_ret (pe_callTy call_tuple_of (by rfl) T.mt (by decide +kernel) (pa_cons
          (pe_lc (own := [("_law_turn", 4)]) (g := gName 4) (tt := tYes) rfl scA.nd (pi_range1 rfl T.mr (pa_cons (pe_call T.GD hr1 rfl T.mD T.kD T.bD .nil pass0 (pa_cons (pv 0) (pa_cons pe_int pa_nil))) pa_nil)) (blkOk_by (N := nAny) (sc := defScope sAny) (by decide +kernel))
            (fun _ _ _ _ _ => pg_name (i := 4) scA.nd rfl (Or.inl rfl)) (fun _ _ _ _ _ => pts_nil) (fun _ _ _ _ _ => pe_call G hr rfl T.mA T.kA T.bA .nil pass0 (pa_cons (pv 0) (pa_cons (pe_op op_sub (pv 1) pe_int) pa_nil)))) pa_nil)))) pss_nil)
      (pss_cons (ps_if (PW.pt (pw_and (pt_cmpR op_eq (pv 2) pe_int (nomark _)) (pw_and1 (pt_cmpR op_gt (pv 1) pe_int (nomark _)))))
        (pss_one (ps_ret
          (pe_lc (own := [("_law_turn", 4)]) (g := gName 4) (tt := tYes) rfl scA.nd (pi_range1 rfl T.mr (pa_cons (pe_call T.GD hr1 rfl T.mD T.kD T.bD .nil pass0 (pa_cons (pv 0) (pa_cons pe_int pa_nil))) pa_nil)) (blkOk_by (N := nAny) (sc := defScope sAny) (by decide +kernel))
            (fun _ _ _ _ _ => pg_name (i := 4) scA.nd rfl (Or.inl rfl)) (fun _ _ _ _ _ => pts_nil) (fun _ _ _ _ _ => pe_call G hr rfl T.mA T.kA T.bA .nil pass0 (pa_cons (pv 0) (pa_cons (pe_op op_sub (pv 1) pe_int) pa_nil)))))) pss_nil)
      (pss_cons (ps_set (i := 3) scA.nd rfl (.inl rfl) (pe_lst (pa_cons pe_int (pa_cons pe_int (pa_cons (pe_un un_neg pe_int) (pa_cons pe_int (pa_cons (pe_op op_pow pe_int pe_int) (pa_cons pe_bl (pa_cons pe_bl (pa_cons pe_non (pa_cons pe_str (pa_cons pe_str (pa_cons pe_str (pa_cons pe_str (pa_cons pe_str (pa_cons pe_str (pa_cons pe_str (pa_cons pe_str (pa_cons pe_str pa_nil)))))))))))))))))))
      (pss_cons (ps_set (i := 3) scA.nd rfl (.inl rfl) (pe_op op_cat (pv 3) (pe_lst (pa_cons pe_str (pa_cons pe_str (pa_cons pe_str (pa_cons pe_str (pa_cons pe_str (pa_cons pe_str (pa_cons pe_str (pa_cons pe_str (pa_cons pe_str (pa_cons pe_str (pa_cons pe_str (pa_cons pe_str pa_nil)))))))))))))))
      (pss_one (ps_ret (pe_call T.GP hr2 rfl T.mP T.kP T.bP .nil pass0 (pa_cons (pv 0) (pa_cons (pv 3) pa_nil))))))))), ?_⟩
    -- the draw of the form
    refine ⟨_, rfl, f, g, m, 12, rfl, hf, by decide, by decide, fun form g1 m1 f0 f1 => ?_⟩
    have b1 : But f H (upd H f (.lst [.int g1, .int m1])) := But.upd
    have hf1 : (upd H f (.lst [.int g1, .int m1])) f = some (.lst [.int g1, .int m1]) := upd_same
    generalize upd H f (.lst [.int g1, .int m1]) = H1 at b1 hf1 ⊢
    have fin : ∀ (v : V) (H' : Hp) (g' m' : Int), But f H1 H' → H' f = some (.lst [.int g', .int m']) → flatV v = true → Q v H' := fun v H' g' m' b e fl => q v H' g' m' (b1.trans b) e (Dn.flat fl)
    have finL : ∀ (D : Addr) (acc : List V) (H' : Hp) (g' m' : Int), 0 < d → But f H1 H' → H' f = some (.lst [.int g', .int m']) → H1 D = none → D ≠ f → H' D = some (.lst acc) → acc.length ≤ 3 → (∀ x ∈ acc, Dn (fun a => H1 a = none ∧ a ≠ D) H' (d - 1) x) → Q (.ref D) H' := fun D acc H' g' m' hd0 b e nD nf eD la ha => by
      refine q _ H' g' m' (b1.trans b) e ?_
      obtain ⟨d', rfl⟩ : ∃ d', d = d' + 1 := ⟨d - 1, by omega⟩
      exact .inr ⟨D, acc, rfl, b1.none hf1 nD, .inr eD, la, fun x hx => (ha x hx).mono (fun a z => b1.none hf1 z.1) fun _ _ _ e => e⟩
    have finT : ∀ (D l : Addr) (acc : List V) (H' : Hp) (g' m' : Int), 0 < d → But f H1 H' → H' f = some (.lst [.int g', .int m']) → H1 D = none → D ≠ f → H' D = some (.lst acc) → acc.length ≤ 3 → (∀ x ∈ acc, Dn (fun a => H1 a = none ∧ a ≠ D) H' (d - 1) x) → H' l = none → Q (.ref l) (upd H' l (.tup acc)) := fun D l acc H' g' m' hd0 b e nD nf eD la ha nl => by
      refine q _ _ g' m' (b1.trans (b.trans (But.of (same_new nl)))) (same_new nl _ _ e) ?_
      obtain ⟨d', rfl⟩ : ∃ d', d = d' + 1 := ⟨d - 1, by omega⟩
      exact .inr ⟨l, acc, rfl, (b1.trans b).none e nl, .inl upd_same, la, fun x hx => (ha x hx).mono (fun a z => b1.none hf1 z.1) fun a o _ e => same_new nl _ _ e⟩
    have second : tSeq (tIfS (tAnd (tTest (tOp rEq (tVar 2) (tC (V.int 3)))) (tTest (tOp (rI0 fun i j => V.bl (decide (j < i))) (tVar 1) (tC (V.int 0))))) (tRet (tCmp 3 n)) tNext)
        (tSeq (tAsg (tLst tA1) (gName 3)) (tSeq (tAsg (tOp rCat (tVar 3) (tLst tA2)) (gName 3)) (tRet (tCall spPick [] E0 (tCons (tVar 0) (tCons (tVar 3) tNil))))))
        { nx := fun _ H' => Q V.non H', rt := Q } [some (.ref f), some (.int d), some (.int form), none, none] H1 := by
      refine ⟨_, rfl, rfl, _, rfl, ?_⟩
      refine ite2 (fun c => ?_) (fun c => ?_)
      · refine ⟨_, rfl, _, _, rfl, rfl, _, rfl, ?_⟩
        refine ite2 (fun c2 => ?_) (fun c2 => ?_)
        · have c2' : (0 : Int) < (d : Int) := of_decide_eq_true c2
          exact comp_ok (by decide) (by decide) (by omega) (by omega) hf1 fun D acc H' g' m' b e nD nf eD la ha => finL D acc H' g' m' (by omega) b e nD nf eD la ha
        · exact tail_ok hf1 fin
      · exact iteF (tail_ok hf1 fin)
    refine ⟨_, rfl, _, _, rfl, rfl, _, rfl, ?_⟩
    refine ite2 (fun c => ?_) (fun c => ?_)
    · refine ⟨_, rfl, _, _, rfl, rfl, _, rfl, ?_⟩
      refine ite2 (fun c2 => ?_) (fun c2 => ?_)
      · have c2' : (0 : Int) < (d : Int) := of_decide_eq_true c2
        unfold tRet tCB
        show tCmp 4 n [some (.ref f), some (.int d), some (.int form), none, none] H1 (fun x H2 => tNil (List.set (L2.start nAny [V.ref f, V.int ↑d]) 2 (some (V.int form))) H2 _)
        refine comp_ok (many := 4) (n := n) (d := d) (g := g1) (m := m1) (by decide) (by decide) (by omega) (by omega) hf1 ?_
        intro D acc H' g' m' b e nD nf eD la ha
        exact ⟨D, acc, rfl, .inl ⟨SqL.of eD, fun l nl => finT D l acc H' g' m' (by omega) b e nD nf eD la ha nl⟩⟩
      · exact second
    · exact iteF second
theorem any_none {f : Addr} {fd : FuncData} : FnOk P w K mg base CX0 2 f fd ["_law_feed", "_law_deep"] (spAny 0) := by
  have no : ∀ vs H Q E, ¬ spAny 0 vs H Q E := fun vs H Q E h => by
    obtain ⟨f, g, m, d, _, _, h1, _⟩ := h
    omega
  exact ⟨fun vs H Q E h => absurd h (no vs H Q E), fun A outer s H args us vs Q E _ _ _ _ h => absurd h (no vs H Q E)⟩
theorem ok_any {fD fP fA : Addr} {fdD fdP fdA : FuncData} {dvs : List V} {kws : List (Str × V)} (F : FunD K "_law_any_value" "_law_any_value" (defArgs sAny) (defBody sAny) (defScope sAny) dvs kws fA fdA) (T : TA1 P w K mg base fD fP fA fdD fdP fdA) :
    ∀ n : Nat, FnOk P w K mg base CX0 (n + 2) fA fdA ["_law_feed", "_law_deep"] (spAny n)
  | 0 => any_none
  | n + 1 => ok_any_step F T (ok_any F T n)
end
end K01

namespace K01
open PySem PySem.Spec PyProof.Rows L2
/-! ### a comprehension over zip of two lists or two tuples of one length -/
theorem lc_zipG {J : It} {xs ys : List V} {g : TG} {tt : TT} {te : TE} {vs : List Nat} {σ : L2.St} {H1 : Hp} {D : Addr} {Qd : Hp → Prop} (hl : xs.length = ys.length) (Pv : Nat → Hp → Prop) (h0 : Pv 0 (upd H1 D (.lst [])))
    (hgo : ∀ i H x y, Pv i H → xs[i]? = some x → ys[i]? = some y → J.go i H) (hst : ∀ H, Pv xs.length H → J.stop xs.length H)
    (hy : ∀ i H v H' x y, Pv i H → xs[i]? = some x → ys[i]? = some y → J.yld i H v H' → ∃ T, v = .ref T ∧ H T = none ∧ H' = upd H T (.tup [x, y]))
    (hs : ∀ i x y T H, xs[i]? = some x → ys[i]? = some y → Pv i H → H T = none → g (.ref T) (wipe σ vs) (upd H T (.tup [x, y])) fun σ2 H2 => wipe σ2 vs = wipe σ vs ∧ tt σ2 H2 fun b H3 =>
      if b = true then te σ2 H3 fun y H4 => ∃ sofar, H4 D = some (.lst sofar) ∧ sofar.length < sizeLine ∧ Pv (i + 1) (upd H4 D (.lst (sofar ++ [y]))) else Pv (i + 1) H3) (hd : ∀ H, Pv xs.length H → Qd H) :
    ∃ Wz : Nat → Nat → Hp → Prop, (∃ m, Wz 0 m (upd H1 D (.lst []))) ∧ ∀ i m H, Wz i m H →
      (J.stop i H ∧ Qd H) ∨ (J.go i H ∧ ∃ Go : Hp → Prop, (∀ H', Go H' → ∃ m', m' < m ∧ Wz (i + 1) m' H') ∧ ∀ x H', J.yld i H x H' → g x (wipe σ vs) H' fun σ2 H2 => wipe σ2 vs = wipe σ vs ∧ tt σ2 H2 fun b H3 =>
        if b = true then te σ2 H3 fun y H4 => ∃ sofar, H4 D = some (.lst sofar) ∧ sofar.length < sizeLine ∧ Go (upd H4 D (.lst (sofar ++ [y]))) else Go H3) := by
  refine ⟨fun i m H => m = xs.length - i ∧ i ≤ xs.length ∧ Pv i H, ⟨xs.length, by simp, Nat.zero_le _, h0⟩, ?_⟩
  rintro i m H ⟨rfl, hi, pi0⟩
  by_cases lt1 : i < xs.length
  · have gx : xs[i]? = some xs[i] := List.getElem?_eq_getElem lt1
    have lt2 : i < ys.length := by omega
    have hyy : ys[i]? = some ys[i] := List.getElem?_eq_getElem lt2
    refine .inr ⟨hgo i H _ _ pi0 gx hyy, Pv (i + 1), fun H' p' => ⟨xs.length - (i + 1), by omega, rfl, lt1, p'⟩, fun x H' y => ?_⟩
    obtain ⟨T, rfl, hT, rfl⟩ := hy i H x H' _ _ pi0 gx hyy y
    exact hs i _ _ T H gx hyy pi0 hT
  · have eqi : i = xs.length := by omega
    subst eqi
    exact .inl ⟨hst H pi0, hd H pi0⟩
/-! ### two data that are alike -/
def Alike (H : Hp) : Nat → V → V → Prop
  | 0, x, y => flatV x = true ∧ x = y
  | n + 1, x, y => (flatV x = true ∧ x = y) ∨ ∃ a b xs ys, x = .ref a ∧ y = .ref b ∧ ((H a = some (.tup xs) ∧ H b = some (.tup ys)) ∨ (H a = some (.lst xs) ∧ H b = some (.lst ys))) ∧ xs.length ≤ 100 ∧ xs.length = ys.length ∧
      ∀ (i : Nat) (u v : V), xs[i]? = some u → ys[i]? = some v → Alike H n u v
theorem Alike.flat {H : Hp} : ∀ {n : Nat} {x : V}, flatV x = true → Alike H n x x
  | 0, _, h => ⟨h, rfl⟩
  | _ + 1, _, h => .inl ⟨h, rfl⟩
theorem Alike.mono {H H' : Hp} (s : Same H H') : ∀ {n : Nat} {x y : V}, Alike H n x y → Alike H' n x y
  | 0, _, _, h => h
  | n + 1, x, y, h => by
    rcases h with h | ⟨a, b, xs, ys, e1, e2, h, l, l2, q⟩
    · exact .inl h
    · refine .inr ⟨a, b, xs, ys, e1, e2, ?_, l, l2, fun i u v h1 h2 => Alike.mono s (q i u v h1 h2)⟩
      rcases h with ⟨h1, h2⟩ | ⟨h1, h2⟩
      · exact .inl ⟨s _ _ h1, s _ _ h2⟩
      · exact .inr ⟨s _ _ h1, s _ _ h2⟩
theorem Alike.up {H : Hp} : ∀ {n : Nat} {x y : V}, Alike H n x y → Alike H (n + 1) x y
  | 0, _, _, h => .inl h
  | n + 1, x, y, h => by
    rcases h with h | ⟨a, b, xs, ys, e1, e2, h, l, l2, q⟩
    · exact .inl h
    · exact .inr ⟨a, b, xs, ys, e1, e2, h, l, l2, fun i u v h1 h2 => (q i u v h1 h2).up⟩
theorem Dn.alike {N : Addr → Prop} {H : Hp} : ∀ {n : Nat} {v : V}, Dn N H n v → Alike H n v v
  | 0, _, h => ⟨h, rfl⟩
  | n + 1, v, h => by
    rcases h with h | ⟨a, xs, e, ne, h, l, q⟩
    · exact .inl ⟨h, rfl⟩
    · refine .inr ⟨a, a, xs, xs, e, e, ?_, by omega, rfl, fun i u w h1 h2 => ?_⟩
      · rcases h with h | h
        · exact .inl ⟨h, h⟩
        · exact .inr ⟨h, h⟩
      · rw [h1] at h2
        cases h2
        exact (q u (List.mem_of_getElem? h1)).alike
def tyS : V → String
  | .non => "NoneType"
  | .bl _ => "bool"
  | .int _ => "int"
  | _ => "str"
theorem tyS_of {K : PySem.W.Frag} {H : Hp} {x : V} (h : flatV x = true) : TyX K H x (.type (tyS x)) := by
  cases x <;> first | exact .base .non | exact .base (.bl _) | exact .base (.int _) | exact .base (.str _) | cases h
theorem tyS_one (x : V) : tyS x = "NoneType" ∨ tyS x = "bool" ∨ tyS x = "int" ∨ tyS x = "str" := by
  cases x <;> first | exact .inl rfl | exact .inr (.inl rfl) | exact .inr (.inr (.inl rfl)) | exact .inr (.inr (.inr rfl))
theorem tyS_tup {K : PySem.W.Frag} {x : V} : PySem.W.kitOne K (.type (tyS x)) (.type "tuple") = some false := by
  rcases tyS_one x with e | e | e | e <;> rw [e] <;> exact kit_ty (by decide +kernel)
theorem tyS_lst {K : PySem.W.Frag} {x : V} : PySem.W.kitOne K (.type (tyS x)) (.type "list") = some false := by
  rcases tyS_one x with e | e | e | e <;> rw [e] <;> exact kit_ty (by decide +kernel)
theorem tyS_bl {K : PySem.W.Frag} {x : V} : ∃ b, PySem.W.kitOne K (.type (tyS x)) (.type "bool") = some b := by
  rcases tyS_one x with e | e | e | e <;> rw [e] <;> first | exact ⟨true, kit_ty (by decide +kernel)⟩ | exact ⟨false, kit_ty (by decide +kernel)⟩
theorem scal_flat {x : V} (h : flatV x = true) : scal x x = true := by
  cases x <;> first | rfl | cases h
abbrev nSame : List Str := ["_law_found", "_law_due", "_law_one", "_law_other"]
theorem scS : FnScope nSame ["_law_found", "_law_due"] (defScope sSame) := ⟨rfl, rfl, rfl, by decide +kernel, rfl, by decide +kernel, by decide +kernel⟩
section
variable {P : Program} {w : World} {K : PySem.W.Frag} {mg : Str → Option Value} {base : Heap}
def spSame (n : Nat) : Sp := fun vs H Q _ => ∃ (x y : V) (d : Nat), vs = [x, y] ∧ d < n ∧ Alike H d x y ∧ ∀ H', Same H H' → Q (.bl true) H'
structure TB (mg : Str → Option Value) : Prop where
  mi : mg "isinstance" = none
  mt : mg "tuple" = none
  ml : mg "list" = none
  mb : mg "bool" = none
  mn : mg "len" = none
  ma : mg "all" = none
  mz : mg "zip" = none
theorem ok_same_step {n : Nat} {f : Addr} {fd : FuncData} (F : Fun K "_law_same" "_law_same" sSame f fd) (T : TB mg) (bS : Binds K fd ["_law_found", "_law_due"] []) (mS : mg "_law_same" = some (.ref f))
    (G : FnOk P w K mg base CX0 n f fd ["_law_found", "_law_due"] (spSame n)) : FnOk P w K mg base CX0 (n + 1) f fd ["_law_found", "_law_due"] (spSame (n + 1)) := by
  refine F.ok scS (fun vs H Q E h => ?_) (fun cdv A outer s H vs Q E hr h => ?_)
  · obtain ⟨x, y, d, rfl, _⟩ := h
    rfl
  · obtain ⟨x, y, d, rfl, hd, al, q⟩ := h
    have kS := F.kp
    refine ⟨_, pss_cons (ps_if (pt_val (pe_callB call_isiT (by rfl) T.mi (by decide +kernel) (pa_cons (pv 1) (pa_cons (pe_tup (pa_cons (pe_bltn (v := .ty "tuple") (by rfl) T.mt (by decide +kernel) rfl) (pa_cons (pe_bltn (v := .ty "list") (by rfl) T.ml (by decide +kernel) rfl) pa_nil))) pa_nil))))
        (pss_cons (ps_if (PW.pt (pw_or
            (pt_cmpR op_ne (pe_callB call_isi (by rfl) T.mi (by decide +kernel) (pa_cons (pv 0) (pa_cons (pe_bltn (v := .ty "tuple") (by rfl) T.mt (by decide +kernel) rfl) pa_nil)))
              (pe_callB call_isi (by rfl) T.mi (by decide +kernel) (pa_cons (pv 1) (pa_cons (pe_bltn (v := .ty "tuple") (by rfl) T.mt (by decide +kernel) rfl) pa_nil))) (nomark _))
            (pw_or1 (pt_cmpR op_ne (pe_callB call_isi (by rfl) T.mi (by decide +kernel) (pa_cons (pv 0) (pa_cons (pe_bltn (v := .ty "list") (by rfl) T.ml (by decide +kernel) rfl) pa_nil)))
              (pe_callB call_isi (by rfl) T.mi (by decide +kernel) (pa_cons (pv 1) (pa_cons (pe_bltn (v := .ty "list") (by rfl) T.ml (by decide +kernel) rfl) pa_nil))) (nomark _)))))
            (pss_one (ps_ret pe_bl)) pss_nil)
        (pss_one (ps_ret (pe_and (pe_cmpR op_eq (pe_callB call_len_seq rfl T.mn PySem.boot_len (pa_cons (pv 0) pa_nil)) (pe_callB call_len_seq rfl T.mn PySem.boot_len (pa_cons (pv 1) pa_nil)) (nomark _))
          (pe_one (pe_callB (cr_all rfl) (by rfl) T.ma (by decide +kernel) (pa_cons
            (pe_lc (own := [("_law_one", 2), ("_law_other", 3)]) (g := gTup K 2 (gCons (gName 2) (gCons (gName 3) gNil))) (tt := tYes) rfl scS.nd (RZ.pi_zipA (by rfl) T.mz (pa_cons (pv 0) (pa_cons (pv 1) pa_nil))) (blkOk_by (N := nSame) (sc := defScope sSame) (by decide +kernel))
              (fun _ _ _ _ _ => pg_tup rfl (pgs_cons (pg_name (i := 2) scS.nd rfl (.inl rfl)) (pgs_cons (pg_name (i := 3) scS.nd rfl (.inl rfl)) pgs_nil))) (fun _ _ _ _ _ => pts_nil)
              (fun _ _ _ _ _ => pe_call G hr rfl mS kS bS .nil pass0 (pa_cons (pv 2) (pa_cons (pv 3) pa_nil)))) pa_nil))))))) pss_nil)
      (pss_one (ps_ret (pe_and (pe_cmpR op_eq (pe_callB call_isi (by rfl) T.mi (by decide +kernel) (pa_cons (pv 0) (pa_cons (pe_bltn (v := .ty "bool") (by rfl) T.mb (by decide +kernel) rfl) pa_nil)))
          (pe_callB call_isi (by rfl) T.mi (by decide +kernel) (pa_cons (pv 1) (pa_cons (pe_bltn (v := .ty "bool") (by rfl) T.mb (by decide +kernel) rfl) pa_nil))) (nomark _))
        (pe_one (pe_cmpR op_eq (pv 0) (pv 1) (nomark _)))))), ?_⟩
    refine ⟨_, rfl, (by show 2 ≤ sizeLine; decide), fun p hp => ?_⟩
    have s1 : Same H (upd H p (.tup [.ty "tuple", .ty "list"])) := same_new hp
    have hp1 : (upd H p (.tup [.ty "tuple", .ty "list"])) p = some (.tup [.ty "tuple", .ty "list"]) := upd_same
    generalize upd H p (.tup [.ty "tuple", .ty "list"]) = H1 at s1 hp1 ⊢
    have clv : Paired ClsV [.ty "tuple", .ty "list"] [.type "tuple", .type "list"] := .cons (.ty _) (.cons (.ty _) .nil)
    have al1 := al.mono s1
    -- flat or not
    have two : (flatV x = true ∧ x = y) ∨ ∃ (a b : Addr) (xs ys : List V) (n' : Nat), x = .ref a ∧ y = .ref b ∧ ((H1 a = some (.tup xs) ∧ H1 b = some (.tup ys)) ∨ (H1 a = some (.lst xs) ∧ H1 b = some (.lst ys))) ∧ xs.length ≤ 100 ∧ xs.length = ys.length ∧ n' < n ∧
        ∀ (i : Nat) (u v : V), xs[i]? = some u → ys[i]? = some v → Alike H1 n' u v := by
      cases d with
      | zero => exact .inl al1
      | succ d =>
        rcases al1 with h | ⟨a, b, xs, ys, e1, e2, h, l, l2, q⟩
        · exact .inl h
        · exact .inr ⟨a, b, xs, ys, d, e1, e2, h, l, l2, by omega, q⟩
    rcases two with ⟨fx, rfl⟩ | ⟨a, b, xs, ys, n', rfl, rfl, hab, hl, hl2, hn', hall⟩
    · refine ⟨x, p, _, _, _, false, rfl, hp1, clv, tyS_of fx, kitAny_cons tyS_tup (fun _ => kitAny_cons tyS_lst (fun _ => kitAny_nil) (fun z => nomatch z)) (fun z => nomatch z), false, rfl, iteF ?_⟩
      obtain ⟨bb, hbb⟩ := tyS_bl (K := K) (x := x)
      refine ⟨_, rfl, x, _, _, _, bb, rfl, .ty _, tyS_of fx, hbb, _, rfl, x, _, _, _, bb, rfl, .ty _, tyS_of fx, hbb, rfl, true, ?_, iteT ?_⟩
      · rw [decide_eq_true rfl]
      · refine ⟨_, rfl, _, rfl, scal_flat fx, ?_⟩
        rw [decide_eq_true rfl]
        exact q H1 s1
    · -- the lists' common end: the comprehension
      have fin : ∀ (J : It) (D : Addr) (H2 : Hp) (Qd : Hp → Prop), Same H1 H2 → H2 D = none → (∀ i H, Same H2 H → (∀ u v, xs[i]? = some u → ys[i]? = some v → J.go i H)) → (∀ H, Same H2 H → J.stop xs.length H) →
          (∀ i H v H' u w, Same H2 H → xs[i]? = some u → ys[i]? = some w → J.yld i H v H' → ∃ T, v = .ref T ∧ H T = none ∧ H' = upd H T (.tup [u, w])) → (∀ (H3 : Hp) (bs : List Bool), Same H H3 → H3 D = some (.lst (bs.map V.bl)) → bs.all id = true → Qd H3) →
          ∃ W : Nat → Nat → Hp → Prop, (∃ m, W 0 m (upd H2 D (.lst []))) ∧ ∀ i m H, W i m H →
            (J.stop i H ∧ Qd H) ∨ (J.go i H ∧ ∃ Nx : Hp → Prop, (∀ H', Nx H' → ∃ m', m' < m ∧ W (i + 1) m' H') ∧ ∀ x H', J.yld i H x H' → gTup K 2 (gCons (gName 2) (gCons (gName 3) gNil)) x (wipe [some (.ref a), some (.ref b), none, none] [2, 3]) H' fun σ2 H2 => wipe σ2 [2, 3] = wipe [some (.ref a), some (.ref b), none, none] [2, 3] ∧ tYes σ2 H2 fun b H3 =>
              if b = true then tCall (spSame n) [] E0 (tCons (tVar 2) (tCons (tVar 3) tNil)) σ2 H3 fun y H4 => ∃ acc, H4 D = some (.lst acc) ∧ acc.length < sizeLine ∧ Nx (upd H4 D (.lst (acc ++ [y]))) else Nx H3) := by
        intro J D H2 Qd s2 nD hgo hstop hyld hQ
        refine lc_zipG hl2 (fun i H3 => Same H2 H3 ∧ ∃ bs : List Bool, H3 D = some (.lst (bs.map V.bl)) ∧ bs.length = i ∧ bs.all id = true)
          ⟨same_new nD, [], upd_same, rfl, rfl⟩ (fun i H u v p h1 h2 => hgo i H p.1 u v h1 h2) (fun H p => hstop H p.1) (fun i H v H' u w p h1 h2 hy => hyld i H v H' u w p.1 h1 h2 hy) ?_ ?_
        · rintro i u v T H3 hu hv ⟨s3, bs, eD, lb, ab⟩ nT
          have s4 : Same H3 (upd H3 T (.tup [u, v])) := same_new nT
          refine ⟨T, _, rfl, SqT.of upd_same, rfl, u, _, rfl, v, _, rfl, rfl, rfl, ?_⟩
          dsimp only [tYes]
          refine iteT ?_
          refine ⟨_, rfl, _, rfl, u, v, n', rfl, hn', (hall i u v hu hv).mono (s2.trans (s3.trans s4)), fun H5 s5 => ?_⟩
          have eD5 : H5 D = some (.lst (bs.map V.bl)) := s5 _ _ (s4 _ _ eD)
          refine ⟨_, eD5, ?_, fun b o e => ?_, bs ++ [true], ?_, ?_, ?_⟩
          · rw [List.length_map]
            have := (List.getElem?_eq_some_iff.mp hu).1
            exact small1000 (by omega)
          · by_cases hb : b = D
            · rw [hb, nD] at e
              cases e
            · rw [upd_ne hb]
              exact s5 _ _ (s4 _ _ (s3 _ _ e))
          · rw [upd_same, List.map_append]
            rfl
          · rw [List.length_append, lb]
            rfl
          · rw [List.all_append, ab]
            rfl
        · rintro H3 ⟨s3, bs, eD, lb, ab⟩
          exact hQ H3 bs (s1.trans (s2.trans s3)) eD ab
      rcases hab with ⟨ha, hb⟩ | ⟨ha, hb⟩
      · refine ⟨_, p, _, _, _, true, rfl, hp1, clv, .base (.tup hb), kitAny_cons (b := true) (kit_ty (by decide +kernel)) (fun z => nomatch z) (fun _ => rfl), true, rfl, iteT ?_⟩
        refine ⟨_, rfl, _, _, _, _, true, rfl, .ty _, .base (.tup ha), kit_ty (by decide +kernel), _, rfl, _, _, _, _, true, rfl, .ty _, .base (.tup hb), kit_ty (by decide +kernel), rfl, false, rfl, iteF ?_⟩
        refine ⟨_, rfl, _, _, _, _, false, rfl, .ty _, .base (.tup ha), kit_ty (by decide +kernel), _, rfl, _, _, _, _, false, rfl, .ty _, .base (.tup hb), kit_ty (by decide +kernel), rfl, false, rfl, iteF ?_⟩
        refine ⟨_, rfl, a, xs, rfl, .inr (SqT.of ha), _, rfl, b, ys, rfl, .inr (SqT.of hb), rfl, true, by rw [hl2, decide_eq_true rfl], iteT ?_⟩
        refine ⟨_, rfl, _, rfl, a, b, xs, ys, rfl, .inr ⟨SqT.of ha, SqT.of hb, fun D nD => ?_⟩⟩
        refine fin (RZ.ItzT K a b) D H1 _ (Same.refl _) nD (fun i H s u v h1 h2 => ⟨xs, ys, u, v, SqT.of (s _ _ ha), SqT.of (s _ _ hb), h1, h2⟩) (fun H s => ⟨xs, ys, SqT.of (s _ _ ha), SqT.of (s _ _ hb), .inl (Nat.le_refl _)⟩) ?_ ?_
        · rintro i H v H' u w s h1 h2 ⟨T, u', w', rfl, nT, rfl, f1, f2⟩
          have e1 : u = u' := Option.some.inj (h1.symm.trans (f1 xs (SqT.of (s _ _ ha))))
          have e2 : w = w' := Option.some.inj (h2.symm.trans (f2 ys (SqT.of (s _ _ hb))))
          rw [e1, e2]
          exact ⟨T, rfl, nT, rfl⟩
        · intro H3 bs s3 eD ab
          refine ⟨D, bs, rfl, SqL.of eD, ?_⟩
          rw [ab]
          exact q H3 s3
      · refine ⟨_, p, _, _, _, true, rfl, hp1, clv, .base (.lst hb), kitAny_cons (b := false) (kit_ty (by decide +kernel)) (fun _ => kitAny_cons (b := true) (kit_ty (by decide +kernel)) (fun z => nomatch z) (fun _ => rfl)) (fun z => nomatch z), true, rfl, iteT ?_⟩
        refine ⟨_, rfl, _, _, _, _, false, rfl, .ty _, .base (.lst ha), kit_ty (by decide +kernel), _, rfl, _, _, _, _, false, rfl, .ty _, .base (.lst hb), kit_ty (by decide +kernel), rfl, false, rfl, iteF ?_⟩
        refine ⟨_, rfl, _, _, _, _, true, rfl, .ty _, .base (.lst ha), kit_ty (by decide +kernel), _, rfl, _, _, _, _, true, rfl, .ty _, .base (.lst hb), kit_ty (by decide +kernel), rfl, false, rfl, iteF ?_⟩
        refine ⟨_, rfl, a, xs, rfl, .inl (SqL.of ha), _, rfl, b, ys, rfl, .inl (SqL.of hb), rfl, true, by rw [hl2, decide_eq_true rfl], iteT ?_⟩
        refine ⟨_, rfl, _, rfl, a, b, xs, ys, rfl, .inl ⟨SqL.of ha, SqL.of hb, fun D nD => ?_⟩⟩
        refine fin (Itz K a b) D H1 _ (Same.refl _) nD (fun i H s u v h1 h2 => ⟨xs, ys, u, v, SqL.of (s _ _ ha), SqL.of (s _ _ hb), h1, h2⟩) (fun H s => ⟨xs, ys, SqL.of (s _ _ ha), SqL.of (s _ _ hb), .inl (Nat.le_refl _)⟩) ?_ ?_
        · rintro i H v H' u w s h1 h2 ⟨T, u', w', rfl, nT, rfl, f1, f2⟩
          have e1 : u = u' := Option.some.inj (h1.symm.trans (f1 xs (SqL.of (s _ _ ha))))
          have e2 : w = w' := Option.some.inj (h2.symm.trans (f2 ys (SqL.of (s _ _ hb))))
          rw [e1, e2]
          exact ⟨T, rfl, nT, rfl⟩
        · intro H3 bs s3 eD ab
          refine ⟨D, bs, rfl, SqL.of eD, ?_⟩
          rw [ab]
          exact q H3 s3
theorem same_none {f : Addr} {fd : FuncData} : FnOk P w K mg base CX0 0 f fd ["_law_found", "_law_due"] (spSame 0) := by
  have no : ∀ vs H Q E, ¬ spSame 0 vs H Q E := fun vs H Q E h => by
    obtain ⟨x, y, d, _, h1, _⟩ := h
    omega
  exact ⟨fun vs H Q E h => absurd h (no vs H Q E), fun A outer s H args us vs Q E _ _ _ _ h => absurd h (no vs H Q E)⟩
theorem ok_same {f : Addr} {fd : FuncData} (F : Fun K "_law_same" "_law_same" sSame f fd) (T : TB mg) (bS : Binds K fd ["_law_found", "_law_due"] []) (mS : mg "_law_same" = some (.ref f)) :
    ∀ n : Nat, FnOk P w K mg base CX0 n f fd ["_law_found", "_law_due"] (spSame n)
  | 0 => same_none
  | n + 1 => ok_same_step F T bS mS (ok_same F T bS mS n)
end
end K01

namespace K01
open PySem PySem.Spec PyProof.Rows L2
abbrev sInit (i : Nat) : Stmt := inClass (top i) 0
/-- an __init__ that keeps its arguments in fields -/
def spI (C : Addr) (fs : List V → List (Str × V)) (n : Nat) : Sp := fun vs H Q _ => ∃ (a : Addr) (xs : List V), vs = .ref a :: xs ∧ xs.length = n ∧ H a = some (exo a C none) ∧
  ∀ (d : Addr) (H' : Hp), H d = none → (∀ b o, b ≠ a → H b = some o → H' b = some o) → H' a = some (exo a C (some d)) → H' d = some (exd d (fs xs)) → Q .non H'
def f1 (f : Str) : List V → List (Str × V)
  | [x] => [(f, x)]
  | _ => []
def f2 : List V → List (Str × V)
  | [x, y] => [("why", y), ("row", x)]
  | _ => []
section
variable {P : Program} {w : World} {K : PySem.W.Frag} {mg : Str → Option Value} {base : Heap}
theorem scNoText : FnScope ["self", "at"] ["self", "at"] (defScope (sInit 3)) := ⟨rfl, rfl, rfl, by decide +kernel, rfl, by decide +kernel, by decide +kernel⟩
theorem ok_NoText {f C : Addr} {fd : FuncData} (F : Fun K "__init__" "NoText.__init__" (sInit 3) f fd) (T : OexC K C) (no : PySem.W.findIn K (.ref C) "at" = some none) : FnOk P w K mg base CX0 1 f fd ["self", "at"] (spI C (f1 "at") 1) := by
  refine F.ok scNoText (fun vs H Q E h => ?_) (fun cdv A outer s H vs Q E hr h => ?_)
  · obtain ⟨a, xs, rfl, hl, _⟩ := h
    match xs, hl with
    | [_], _ => rfl
  · obtain ⟨a, xs, rfl, hl, ha, q⟩ := h
    match xs, hl, q with
    | [x], _, q =>
      refine ⟨_, pss_one (ps_ost (pv 0) (pv 1)), ?_⟩
      refine ⟨_, rfl, _, rfl, a, C, rfl, T, no, .inl ⟨ha, fun d nd ne => ?_⟩⟩
      exact q d _ nd (fun b o hb e => by rw [upd_ne hb, upd_ne (ne_of_none e nd)]; exact e) upd_same (by rw [upd_ne ne]; exact upd_same)
theorem scNoTree : FnScope ["self", "path"] ["self", "path"] (defScope (sInit 4)) := ⟨rfl, rfl, rfl, by decide +kernel, rfl, by decide +kernel, by decide +kernel⟩
theorem ok_NoTree {f C : Addr} {fd : FuncData} (F : Fun K "__init__" "NoTree.__init__" (sInit 4) f fd) (T : OexC K C) (no : PySem.W.findIn K (.ref C) "path" = some none) : FnOk P w K mg base CX0 1 f fd ["self", "path"] (spI C (f1 "path") 1) := by
  refine F.ok scNoTree (fun vs H Q E h => ?_) (fun cdv A outer s H vs Q E hr h => ?_)
  · obtain ⟨a, xs, rfl, hl, _⟩ := h
    match xs, hl with
    | [_], _ => rfl
  · obtain ⟨a, xs, rfl, hl, ha, q⟩ := h
    match xs, hl, q with
    | [x], _, q =>
      refine ⟨_, pss_one (ps_ost (pv 0) (pv 1)), ?_⟩
      refine ⟨_, rfl, _, rfl, a, C, rfl, T, no, .inl ⟨ha, fun d nd ne => ?_⟩⟩
      exact q d _ nd (fun b o hb e => by rw [upd_ne hb, upd_ne (ne_of_none e nd)]; exact e) upd_same (by rw [upd_ne ne]; exact upd_same)
theorem scNoKind : FnScope ["self", "path"] ["self", "path"] (defScope (sInit 7)) := ⟨rfl, rfl, rfl, by decide +kernel, rfl, by decide +kernel, by decide +kernel⟩
theorem ok_NoKind {f C : Addr} {fd : FuncData} (F : Fun K "__init__" "NoKind.__init__" (sInit 7) f fd) (T : OexC K C) (no : PySem.W.findIn K (.ref C) "path" = some none) : FnOk P w K mg base CX0 1 f fd ["self", "path"] (spI C (f1 "path") 1) := by
  refine F.ok scNoKind (fun vs H Q E h => ?_) (fun cdv A outer s H vs Q E hr h => ?_)
  · obtain ⟨a, xs, rfl, hl, _⟩ := h
    match xs, hl with
    | [_], _ => rfl
  · obtain ⟨a, xs, rfl, hl, ha, q⟩ := h
    match xs, hl, q with
    | [x], _, q =>
      refine ⟨_, pss_one (ps_ost (pv 0) (pv 1)), ?_⟩
      refine ⟨_, rfl, _, rfl, a, C, rfl, T, no, .inl ⟨ha, fun d nd ne => ?_⟩⟩
      exact q d _ nd (fun b o hb e => by rw [upd_ne hb, upd_ne (ne_of_none e nd)]; exact e) upd_same (by rw [upd_ne ne]; exact upd_same)
theorem scNoPlace : FnScope ["self", "path"] ["self", "path"] (defScope (sInit 8)) := ⟨rfl, rfl, rfl, by decide +kernel, rfl, by decide +kernel, by decide +kernel⟩
theorem ok_NoPlace {f C : Addr} {fd : FuncData} (F : Fun K "__init__" "NoPlace.__init__" (sInit 8) f fd) (T : OexC K C) (no : PySem.W.findIn K (.ref C) "path" = some none) : FnOk P w K mg base CX0 1 f fd ["self", "path"] (spI C (f1 "path") 1) := by
  refine F.ok scNoPlace (fun vs H Q E h => ?_) (fun cdv A outer s H vs Q E hr h => ?_)
  · obtain ⟨a, xs, rfl, hl, _⟩ := h
    match xs, hl with
    | [_], _ => rfl
  · obtain ⟨a, xs, rfl, hl, ha, q⟩ := h
    match xs, hl, q with
    | [x], _, q =>
      refine ⟨_, pss_one (ps_ost (pv 0) (pv 1)), ?_⟩
      refine ⟨_, rfl, _, rfl, a, C, rfl, T, no, .inl ⟨ha, fun d nd ne => ?_⟩⟩
      exact q d _ nd (fun b o hb e => by rw [upd_ne hb, upd_ne (ne_of_none e nd)]; exact e) upd_same (by rw [upd_ne ne]; exact upd_same)
theorem scTooMany : FnScope ["self", "most"] ["self", "most"] (defScope (sInit 9)) := ⟨rfl, rfl, rfl, by decide +kernel, rfl, by decide +kernel, by decide +kernel⟩
theorem ok_TooMany {f C : Addr} {fd : FuncData} (F : Fun K "__init__" "TooMany.__init__" (sInit 9) f fd) (T : OexC K C) (no : PySem.W.findIn K (.ref C) "most" = some none) : FnOk P w K mg base CX0 1 f fd ["self", "most"] (spI C (f1 "most") 1) := by
  refine F.ok scTooMany (fun vs H Q E h => ?_) (fun cdv A outer s H vs Q E hr h => ?_)
  · obtain ⟨a, xs, rfl, hl, _⟩ := h
    match xs, hl with
    | [_], _ => rfl
  · obtain ⟨a, xs, rfl, hl, ha, q⟩ := h
    match xs, hl, q with
    | [x], _, q =>
      refine ⟨_, pss_one (ps_ost (pv 0) (pv 1)), ?_⟩
      refine ⟨_, rfl, _, rfl, a, C, rfl, T, no, .inl ⟨ha, fun d nd ne => ?_⟩⟩
      exact q d _ nd (fun b o hb e => by rw [upd_ne hb, upd_ne (ne_of_none e nd)]; exact e) upd_same (by rw [upd_ne ne]; exact upd_same)
theorem scNoBook : FnScope ["self", "row", "why"] ["self", "row", "why"] (defScope (sInit 2)) := ⟨rfl, rfl, rfl, by decide +kernel, rfl, by decide +kernel, by decide +kernel⟩
theorem ok_NoBook {f C : Addr} {fd : FuncData} (F : Fun K "__init__" "NoBook.__init__" (sInit 2) f fd) (T : OexC K C) (no1 : PySem.W.findIn K (.ref C) "row" = some none) (no2 : PySem.W.findIn K (.ref C) "why" = some none) : FnOk P w K mg base CX0 1 f fd ["self", "row", "why"] (spI C f2 2) := by
  refine F.ok scNoBook (fun vs H Q E h => ?_) (fun cdv A outer s H vs Q E hr h => ?_)
  · obtain ⟨a, xs, rfl, hl, _⟩ := h
    match xs, hl with
    | [_, _], _ => rfl
  · obtain ⟨a, xs, rfl, hl, ha, q⟩ := h
    match xs, hl, q with
    | [x, y], _, q =>
      refine ⟨_, pss_cons (ps_ost (pv 0) (pv 1)) (pss_one (ps_ost (pv 0) (pv 2))), ?_⟩
      refine ⟨_, rfl, _, rfl, a, C, rfl, T, no1, .inl ⟨ha, fun d nd ne => ?_⟩⟩
      refine ⟨_, rfl, _, rfl, a, C, rfl, T, no2, .inr ⟨d, _, upd_same, (by rw [upd_ne ne]; exact upd_same), (by show 1 ≤ 900; decide), ?_⟩⟩
      have nda : d ≠ a := ne
      exact q d _ nd (fun b o hb e => by rw [upd_ne (ne_of_none e nd), upd_ne hb, upd_ne (ne_of_none e nd)]; exact e) (by rw [upd_ne nda.symm]; exact upd_same) upd_same
theorem scNoProgram : FnScope ["self", "row", "why"] ["self", "row", "why"] (defScope (sInit 5)) := ⟨rfl, rfl, rfl, by decide +kernel, rfl, by decide +kernel, by decide +kernel⟩
theorem ok_NoProgram {f C : Addr} {fd : FuncData} (F : Fun K "__init__" "NoProgram.__init__" (sInit 5) f fd) (T : OexC K C) (no1 : PySem.W.findIn K (.ref C) "row" = some none) (no2 : PySem.W.findIn K (.ref C) "why" = some none) : FnOk P w K mg base CX0 1 f fd ["self", "row", "why"] (spI C f2 2) := by
  refine F.ok scNoProgram (fun vs H Q E h => ?_) (fun cdv A outer s H vs Q E hr h => ?_)
  · obtain ⟨a, xs, rfl, hl, _⟩ := h
    match xs, hl with
    | [_, _], _ => rfl
  · obtain ⟨a, xs, rfl, hl, ha, q⟩ := h
    match xs, hl, q with
    | [x, y], _, q =>
      refine ⟨_, pss_cons (ps_ost (pv 0) (pv 1)) (pss_one (ps_ost (pv 0) (pv 2))), ?_⟩
      refine ⟨_, rfl, _, rfl, a, C, rfl, T, no1, .inl ⟨ha, fun d nd ne => ?_⟩⟩
      refine ⟨_, rfl, _, rfl, a, C, rfl, T, no2, .inr ⟨d, _, upd_same, (by rw [upd_ne ne]; exact upd_same), (by show 1 ≤ 900; decide), ?_⟩⟩
      have nda : d ≠ a := ne
      exact q d _ nd (fun b o hb e => by rw [upd_ne (ne_of_none e nd), upd_ne hb, upd_ne (ne_of_none e nd)]; exact e) (by rw [upd_ne nda.symm]; exact upd_same) upd_same
theorem kbn2 {x q : Str} {st : Stmt} {f : Addr} {fd : FuncData} {ps : List Str} (n : Nat) (F : Fun K x q st f fd)
    (h : ∀ (kV doc pm : Value) (an : Option Addr) (cdv ct : Value) (us : List Value), us.length = n → bindArgs (PySem.W.fnOf x q (defArgs st) (defBody st) (defScope st) .none kV doc pm an cdv ct) ⟨us, []⟩ = pure (ps.zip us)) : KBn K fd ps n [] (fun us _ => us) (fun vs _ => vs) := by
  obtain ⟨oc, od, kV, doc, pm, an, cdv, ct, osl, rfl, lk, hcd⟩ := F.ex
  exact ⟨fun s us ws _ l1 l2 => .of_eq (by have e : ([] : List Str).zip ws = [] := rfl; rw [e]; exact h kV doc pm an cdv ct us l1), fun r1 _ => r1⟩
theorem kbnK {x q : Str} {st : Stmt} {f : Addr} {fd : FuncData} {ps : List Str} (n : Nat) (k : Str) (F : Fun K x q st f fd)
    (h : ∀ (kV doc pm : Value) (an : Option Addr) (cdv ct : Value) (us : List Value) (v : Value), us.length = n → bindArgs (PySem.W.fnOf x q (defArgs st) (defBody st) (defScope st) .none kV doc pm an cdv ct) ⟨us, [(k, v)]⟩ = pure (ps.zip (us ++ [v]))) : KBn K fd ps n [k] (fun us ws => us ++ ws) (fun vs zs => vs ++ zs) := by
  obtain ⟨oc, od, kV, doc, pm, an, cdv, ct, osl, rfl, lk, hcd⟩ := F.ex
  exact ⟨fun s us ws _ l1 l2 => .of_eq (by match ws, l2 with | [v], _ => exact h kV doc pm an cdv ct us v l1), fun r1 r2 => r1.append r2⟩
end
end K01

namespace K01
open PySem PySem.Spec PyProof.Rows L2
/-! ### the errors that are made, with what they keep -/
def ExF (H : Hp) (e C : Addr) (fs : List (Str × V)) : Prop := ∃ d, H e = some (exo e C (some d)) ∧ H d = some (exd d fs)
theorem ExF.mono {H H' : Hp} {e C : Addr} {fs : List (Str × V)} (s : Same H H') (h : ExF H e C fs) : ExF H' e C fs := by
  obtain ⟨d, h1, h2⟩ := h
  exact ⟨d, s _ _ h1, s _ _ h2⟩
theorem ExF.at {H : Hp} {e C : Addr} {fs : List (Str × V)} (h : ExF H e C fs) : ExAt H e C := by
  obtain ⟨d, h1, h2⟩ := h
  exact .inl ⟨d, fs, h1, h2⟩
def Row (x y : V) (H : Hp) (t C : Addr) : Prop := ∃ (e k d : Addr) (ks : List V), H t = some (.tup [.ref e, .ref k, .ref d]) ∧ ExAt H e C ∧ H k = some (.lst ks) ∧ H d = some (.lst ks) ∧ ks.length ≤ 2 ∧ ∀ z ∈ ks, z = x ∨ z = y
theorem Row.mono {x y : V} {H H' : Hp} {t C : Addr} (s : Same H H') (h : Row x y H t C) : Row x y H' t C := by
  obtain ⟨e, k, d, ks, h1, h2, h3, h4, h5⟩ := h
  exact ⟨e, k, d, ks, s _ _ h1, h2.mono s, s _ _ h3, s _ _ h4, h5⟩
inductive Rows (x y : V) (H : Hp) : List V → List Addr → Prop
  | nil : Rows x y H [] []
  | cons {t C : Addr} {ts : List V} {Cs : List Addr} : Row x y H t C → Rows x y H ts Cs → Rows x y H (.ref t :: ts) (C :: Cs)
theorem Rows.get {x y : V} {H : Hp} : ∀ {ts : List V} {Cs : List Addr} {i : Nat} {v : V}, Rows x y H ts Cs → ts[i]? = some v → ∃ t C, v = .ref t ∧ Cs[i]? = some C ∧ Row x y H t C
  | _, _, _, _, .nil, h => by simp at h
  | _, _, 0, v, .cons r _, h => by
    simp at h
    exact ⟨_, _, h.symm, rfl, r⟩
  | _, _, i + 1, v, .cons _ rs, h => by
    obtain ⟨t, C, e1, e2, r⟩ := Rows.get (i := i) (v := v) rs (by simpa using h)
    exact ⟨t, C, e1, by simpa using e2, r⟩
theorem Rows.length {x y : V} {H : Hp} : ∀ {ts : List V} {Cs : List Addr}, Rows x y H ts Cs → ts.length = Cs.length
  | _, _, .nil => rfl
  | _, _, .cons _ rs => congrArg Nat.succ rs.length
theorem Rows.mono {x y : V} {H H' : Hp} (s : Same H H') : ∀ {ts : List V} {Cs : List Addr}, Rows x y H ts Cs → Rows x y H' ts Cs
  | _, _, .nil => .nil
  | _, _, .cons r rs => .cons (r.mono s) (rs.mono s)
theorem Rows.append {x y : V} {H : Hp} : ∀ {ts us : List V} {Cs Ds : List Addr}, Rows x y H ts Cs → Rows x y H us Ds → Rows x y H (ts ++ us) (Cs ++ Ds)
  | _, _, _, _, .nil, s => s
  | _, _, _, _, .cons r rs, s => .cons r (rs.append s)
theorem mk_same {H H' : Hp} {a : Addr} {u : HO} (na : H a = none) (k : ∀ b o, b ≠ a → (upd H a u) b = some o → H' b = some o) : Same H H' := fun b o e => by
  have ne := ne_of_none e na
  exact k b o ne (by rw [upd_ne ne]; exact e)
section
variable {K : PySem.W.Frag} {σ : L2.St} {H : Hp} {Q : VK} {x y : V} {e C : Addr}
theorem row_two {i : Nat} {fs : List (Str × V)} (hi : σ[i]? = some (some (.ref e))) (h0 : σ[0]? = some (some x)) (h1 : σ[1]? = some (some y)) (he : ExF H e C fs) (fr : ExFld K C "row") (fw : ExFld K C "why")
    (l1 : fs.lookup ("row" : Str) = some x) (l2 : fs.lookup ("why" : Str) = some y) (q : ∀ (t : Addr) (H' : Hp), Same H H' → Row x y H' t C → Q (.ref t) H') :
    tTup (tCons (tVar i) (tCons (tLst (tCons (tFldE K (tVar i) "row") (tCons (tFldE K (tVar i) "why") tNil))) (tCons (tLst (tCons (tVar 0) (tCons (tVar 1) tNil))) tNil))) σ H Q := by
  obtain ⟨d, ea, ed⟩ := he
  refine ⟨_, hi, _, hi, e, C, d, fs, x, rfl, fr, ea, ed, l1, _, hi, e, C, d, fs, y, rfl, fw, ea, ed, l2, (by show 2 ≤ sizeLine; decide), fun k nk => ?_⟩
  refine ⟨_, h0, _, h1, (by show 2 ≤ sizeLine; decide), fun c nc => ?_⟩
  refine ⟨(by show 3 ≤ sizeLine; decide), fun t nt => ?_⟩
  have s1 := same_new (o := .lst [x, y]) nk
  have s2 := same_new (o := .lst [x, y]) nc
  have s3 := same_new (o := .tup [.ref e, .ref k, .ref c]) nt
  refine q t _ (s1.trans (s2.trans s3)) ⟨e, k, c, [x, y], upd_same, ExAt.mono (s1.trans (s2.trans s3)) (.inl ⟨d, fs, ea, ed⟩), s3 _ _ (s2 _ _ upd_same), s3 _ _ upd_same, (by show 2 ≤ 2; decide), fun z hz => ?_⟩
  simpa using hz
theorem row_one {i j : Nat} {f : Str} {z : V} {fs : List (Str × V)} (hi : σ[i]? = some (some (.ref e))) (hj : σ[j]? = some (some z)) (hz : z = x ∨ z = y) (he : ExF H e C fs) (fr : ExFld K C f)
    (l1 : fs.lookup f = some z) (q : ∀ (t : Addr) (H' : Hp), Same H H' → Row x y H' t C → Q (.ref t) H') :
    tTup (tCons (tVar i) (tCons (tLst (tCons (tFldE K (tVar i) f) tNil)) (tCons (tLst (tCons (tVar j) tNil)) tNil))) σ H Q := by
  obtain ⟨d, ea, ed⟩ := he
  refine ⟨_, hi, _, hi, e, C, d, fs, z, rfl, fr, ea, ed, l1, (by show 1 ≤ sizeLine; decide), fun k nk => ?_⟩
  refine ⟨_, hj, (by show 1 ≤ sizeLine; decide), fun c nc => ?_⟩
  refine ⟨(by show 3 ≤ sizeLine; decide), fun t nt => ?_⟩
  have s1 := same_new (o := .lst [z]) nk
  have s2 := same_new (o := .lst [z]) nc
  have s3 := same_new (o := .tup [.ref e, .ref k, .ref c]) nt
  refine q t _ (s1.trans (s2.trans s3)) ⟨e, k, c, [z], upd_same, ExAt.mono (s1.trans (s2.trans s3)) (.inl ⟨d, fs, ea, ed⟩), s3 _ _ (s2 _ _ upd_same), s3 _ _ upd_same, (by show 1 ≤ 2; decide), fun w hw => ?_⟩
  rw [List.mem_singleton] at hw
  rw [hw]
  exact hz
theorem row_none (q : ∀ (t : Addr) (H' : Hp), Same H H' → Row x y H' t C → Q (.ref t) H') :
    tTup (tCons (fun σ H Q => ∀ a, H a = none → Q (.ref a) (upd H a (ExO (.ref C) a))) (tCons (tLst tNil) (tCons (tLst tNil) tNil))) σ H Q := by
  intro a na
  refine ⟨(by show 0 ≤ sizeLine; exact Nat.zero_le _), fun k nk => ⟨(by show 0 ≤ sizeLine; exact Nat.zero_le _), fun c nc => ⟨(by show 3 ≤ sizeLine; decide), fun t nt => ?_⟩⟩⟩
  have s0 := same_new (o := ExO (.ref C) a) na
  have s1 := same_new (o := .lst []) nk
  have s2 := same_new (o := .lst []) nc
  have s3 := same_new (o := .tup [.ref a, .ref k, .ref c]) nt
  refine q t _ (s0.trans (s1.trans (s2.trans s3))) ⟨a, k, c, [], upd_same, .inr (s3 _ _ (s2 _ _ (s1 _ _ upd_same))), s3 _ _ (s2 _ _ upd_same), s3 _ _ upd_same, by decide, fun w hw => by cases hw⟩
end
end K01

namespace K01
open PySem PySem.Spec PyProof.Rows L2
abbrev nMade : List Str := ["_law_a", "_law_b", "_law_one", "_law_two", "_law_three", "_law_four", "_law_five", "_law_six", "_law_seven", "_law_found"]
theorem scM : FnScope nMade ["_law_a", "_law_b"] (defScope sMade) := ⟨rfl, rfl, rfl, by decide +kernel, rfl, by decide +kernel, by decide +kernel⟩
/-- an own error class with an __init__ -/
structure EC (P : Program) (w : World) (K : PySem.W.Frag) (mg : Str → Option Value) (base : Heap) (x : Str) (C fI : Addr) (fd : FuncData) (ps : List Str) (fs : List V → List (Str × V)) (n : Nat) : Prop where
  M : MkX K C fI
  G : FnOk P w K mg base CX0 1 fI fd ps (spI C fs n)
  m : mg x = some (.ref C)
abbrev bmVE : List Value := [.type "ValueError", .type "Exception", .type "BaseException", .type "object"]
/-- an own error class without one -/
structure EN (K : PySem.W.Frag) (mg : Str → Option Value) (x : Str) (C : Addr) : Prop where
  q : PySem.W.excIn K C bmVE "ValueError.__new__" = true
  k : PySem.W.keepIn K (.ref C) = true
  m : mg x = some (.ref C)
section
variable {P : Program} {w : World} {K : PySem.W.Frag} {mg : Str → Option Value} {base : Heap}
/-- all the classes: c1 NoBook, c2 NoProgram, c3 NoText, c4 NoTree, c5 NoKind, c6 NoPlace, c7 TooMany, c8 AtEnd, c9 NoLine, ca NoRow, cb NoRun, cc NoChange -/
structure TM (P : Program) (w : World) (K : PySem.W.Frag) (mg : Str → Option Value) (base : Heap) (c1 c2 c3 c4 c5 c6 c7 c8 c9 ca cb cc i1 i2 i3 i4 i5 i6 i7 : Addr) (d1 d2 d3 d4 d5 d6 d7 : FuncData) : Prop where
  e1 : EC P w K mg base "NoBook" c1 i1 d1 ["self", "row", "why"] f2 2
  e2 : EC P w K mg base "NoProgram" c2 i2 d2 ["self", "row", "why"] f2 2
  e3 : EC P w K mg base "NoText" c3 i3 d3 ["self", "at"] (f1 "at") 1
  e4 : EC P w K mg base "NoTree" c4 i4 d4 ["self", "path"] (f1 "path") 1
  e5 : EC P w K mg base "NoKind" c5 i5 d5 ["self", "path"] (f1 "path") 1
  e6 : EC P w K mg base "NoPlace" c6 i6 d6 ["self", "path"] (f1 "path") 1
  e7 : EC P w K mg base "TooMany" c7 i7 d7 ["self", "most"] (f1 "most") 1
  b1 : KBn K d1 ["self", "row", "why"] (2 + 1) [] (fun us _ => us) (fun vs _ => vs)
  b2 : KBn K d2 ["self", "row", "why"] (1 + 1) ["why"] (fun us ws => us ++ ws) (fun vs zs => vs ++ zs)
  b3 : KBn K d3 ["self", "at"] (1 + 1) [] (fun us _ => us) (fun vs _ => vs)
  b4 : KBn K d4 ["self", "path"] (0 + 1) ["path"] (fun us ws => us ++ ws) (fun vs zs => vs ++ zs)
  b5 : KBn K d5 ["self", "path"] (1 + 1) [] (fun us _ => us) (fun vs _ => vs)
  b6 : KBn K d6 ["self", "path"] (0 + 1) ["path"] (fun us ws => us ++ ws) (fun vs zs => vs ++ zs)
  b7 : KBn K d7 ["self", "most"] (0 + 1) ["most"] (fun us ws => us ++ ws) (fun vs zs => vs ++ zs)
  r1 : ExFld K c1 "row"
  w1 : ExFld K c1 "why"
  r2 : ExFld K c2 "row"
  w2 : ExFld K c2 "why"
  r3 : ExFld K c3 "at"
  r4 : ExFld K c4 "path"
  r5 : ExFld K c5 "path"
  r6 : ExFld K c6 "path"
  r7 : ExFld K c7 "most"
  e8 : EN K mg "AtEnd" c8
  e9 : EN K mg "NoLine" c9
  ea : EN K mg "NoRow" ca
  eb : EN K mg "NoRun" cb
  ec : EN K mg "NoChange" cc
def spMade (Cs : List Addr) : Sp := fun vs H Q _ => ∃ x y : V, vs = [x, y] ∧ ∀ (L : Addr) (H' : Hp) (ts : List V), Same H H' → H' L = some (.lst ts) → Rows x y H' ts Cs → Q (.ref L) H'
theorem ok_made {f : Addr} {fd : FuncData} {c1 c2 c3 c4 c5 c6 c7 c8 c9 ca cb cc i1 i2 i3 i4 i5 i6 i7 : Addr} {d1 d2 d3 d4 d5 d6 d7 : FuncData} (F : Fun K "_law_made" "_law_made" sMade f fd)
    (T : TM P w K mg base c1 c2 c3 c4 c5 c6 c7 c8 c9 ca cb cc i1 i2 i3 i4 i5 i6 i7 d1 d2 d3 d4 d5 d6 d7) : FnOk P w K mg base CX0 3 f fd ["_law_a", "_law_b"] (spMade [c1, c2, c3, c4, c5, c6, c7, c8, c9, ca, cb, cc]) := by
  refine F.ok scM (fun vs H Q E h => ?_) (fun cdv A outer s H vs Q E hr h => ?_)
  · obtain ⟨x, y, rfl, _⟩ := h
    rfl
  · obtain ⟨x, y, rfl, q⟩ := h
    refine ⟨_, pss_cons (ps_asg (pe_tup (pa_cons (pe_mkE T.e1.M T.e1.G hr rfl T.e1.m T.b1 (by decide) (pa_cons (pv 0) (pa_cons (pv 1) pa_nil)) pk_nil)
          (pa_cons (pe_mkE T.e2.M T.e2.G hr rfl T.e2.m T.b2 (by decide) (pa_cons (pv 0) pa_nil) (pk_cons (pv 1) pk_nil))
          (pa_cons (pe_mkE T.e3.M T.e3.G hr rfl T.e3.m T.b3 (by decide) (pa_cons (pv 0) pa_nil) pk_nil)
          (pa_cons (pe_mkE0 T.e4.M T.e4.G hr rfl T.e4.m T.b4 (pk_cons (pv 0) pk_nil)) pa_nil)))))
        (pg_tup rfl (pgs_cons (pg_name (i := 2) scM.nd rfl (.inl rfl)) (pgs_cons (pg_name (i := 3) scM.nd rfl (.inl rfl)) (pgs_cons (pg_name (i := 4) scM.nd rfl (.inl rfl)) (pgs_cons (pg_name (i := 5) scM.nd rfl (.inl rfl)) pgs_nil))))))
      (pss_cons (ps_par3 (i := 6) (j := 7) (l := 8) rfl scM.nd rfl rfl rfl (by decide) (by decide) (by decide) rfl rfl rfl
        (pa_cons (pe_mkE T.e5.M T.e5.G hr rfl T.e5.m T.b5 (by decide) (pa_cons (pv 0) pa_nil) pk_nil)
        (pa_cons (pe_mkE0 T.e6.M T.e6.G hr rfl T.e6.m T.b6 (pk_cons (pv 1) pk_nil))
        (pa_cons (pe_mkE0 T.e7.M T.e7.G hr rfl T.e7.m T.b7 (pk_cons (pv 0) pk_nil)) pa_nil))) (by rfl))
      (pss_cons (ps_set (i := 9) scM.nd rfl (.inl rfl) (pe_lst
        (pa_cons (pe_tup (pa_cons (pv 2) (pa_cons (pe_lst (pa_cons (pe_fldE (pv 2)) (pa_cons (pe_fldE (pv 2)) pa_nil))) (pa_cons (pe_lst (pa_cons (pv 0) (pa_cons (pv 1) pa_nil))) pa_nil))))
        (pa_cons (pe_tup (pa_cons (pv 3) (pa_cons (pe_lst (pa_cons (pe_fldE (pv 3)) (pa_cons (pe_fldE (pv 3)) pa_nil))) (pa_cons (pe_lst (pa_cons (pv 0) (pa_cons (pv 1) pa_nil))) pa_nil))))
        (pa_cons (pe_tup (pa_cons (pv 4) (pa_cons (pe_lst (pa_cons (pe_fldE (pv 4)) pa_nil)) (pa_cons (pe_lst (pa_cons (pv 0) pa_nil)) pa_nil)))) pa_nil)))))
      (pss_cons (ps_set (i := 9) scM.nd rfl (.inl rfl) (pe_op op_cat (pv 9) (pe_lst
        (pa_cons (pe_tup (pa_cons (pv 5) (pa_cons (pe_lst (pa_cons (pe_fldE (pv 5)) pa_nil)) (pa_cons (pe_lst (pa_cons (pv 0) pa_nil)) pa_nil))))
        (pa_cons (pe_tup (pa_cons (pv 6) (pa_cons (pe_lst (pa_cons (pe_fldE (pv 6)) pa_nil)) (pa_cons (pe_lst (pa_cons (pv 0) pa_nil)) pa_nil))))
        (pa_cons (pe_tup (pa_cons (pv 7) (pa_cons (pe_lst (pa_cons (pe_fldE (pv 7)) pa_nil)) (pa_cons (pe_lst (pa_cons (pv 1) pa_nil)) pa_nil)))) pa_nil))))))
      (pss_cons (ps_set (i := 9) scM.nd rfl (.inl rfl) (pe_op op_cat (pv 9) (pe_lst
        (pa_cons (pe_tup (pa_cons (pv 8) (pa_cons (pe_lst (pa_cons (pe_fldE (pv 8)) pa_nil)) (pa_cons (pe_lst (pa_cons (pv 0) pa_nil)) pa_nil))))
        (pa_cons (pe_tup (pa_cons (pe_exc0 PySem.F.excBase_ValueError T.e8.q T.e8.m T.e8.k rfl) (pa_cons (pe_lst pa_nil) (pa_cons (pe_lst pa_nil) pa_nil))))
        (pa_cons (pe_tup (pa_cons (pe_exc0 PySem.F.excBase_ValueError T.e9.q T.e9.m T.e9.k rfl) (pa_cons (pe_lst pa_nil) (pa_cons (pe_lst pa_nil) pa_nil))))
        (pa_cons (pe_tup (pa_cons (pe_exc0 PySem.F.excBase_ValueError T.ea.q T.ea.m T.ea.k rfl) (pa_cons (pe_lst pa_nil) (pa_cons (pe_lst pa_nil) pa_nil)))) pa_nil)))))))
      (pss_one (ps_ret (pe_op op_cat (pv 9) (pe_lst
        (pa_cons (pe_tup (pa_cons (pe_exc0 PySem.F.excBase_ValueError T.eb.q T.eb.m T.eb.k rfl) (pa_cons (pe_lst pa_nil) (pa_cons (pe_lst pa_nil) pa_nil))))
        (pa_cons (pe_tup (pa_cons (pe_exc0 PySem.F.excBase_ValueError T.ec.q T.ec.m T.ec.k rfl) (pa_cons (pe_lst pa_nil) (pa_cons (pe_lst pa_nil) pa_nil)))) pa_nil)))))))))), ?_⟩
    refine ⟨_, rfl, _, rfl, rfl, rfl, fun a1 n1 => ⟨a1, [x, y], rfl, rfl, upd_same, fun dd H1 nd k ea ed => ⟨rfl, ?_⟩⟩⟩
    have s1 : Same H H1 := mk_same n1 k
    have x1 : ExF H1 a1 c1 [("why", y), ("row", x)] := ⟨dd, ea, ed⟩
    clear nd k ea ed
    refine ⟨_, rfl, _, rfl, rfl, rfl, fun a2 n2 => ⟨a2, [x, y], rfl, rfl, upd_same, fun dd H2 nd k ea ed => ⟨rfl, ?_⟩⟩⟩
    have s2 : Same H1 H2 := mk_same n2 k
    have x2 : ExF H2 a2 c2 [("why", y), ("row", x)] := ⟨dd, ea, ed⟩
    clear nd k ea ed
    refine ⟨_, rfl, rfl, rfl, fun a3 n3 => ⟨a3, [x], rfl, rfl, upd_same, fun dd H3 nd k ea ed => ⟨rfl, ?_⟩⟩⟩
    have s3 : Same H2 H3 := mk_same n3 k
    have x3 : ExF H3 a3 c3 [("at", x)] := ⟨dd, ea, ed⟩
    clear nd k ea ed
    refine ⟨_, rfl, rfl, rfl, fun a4 n4 => ⟨a4, [x], rfl, rfl, upd_same, fun dd H4 nd k ea ed => ⟨rfl, ?_⟩⟩⟩
    have s4 : Same H3 H4 := mk_same n4 k
    have x4 : ExF H4 a4 c4 [("path", x)] := ⟨dd, ea, ed⟩
    clear nd k ea ed
    refine ⟨(by show 4 ≤ sizeLine; decide), fun p np => ?_⟩
    have sp : Same H4 (upd H4 p (.tup [.ref a1, .ref a2, .ref a3, .ref a4])) := same_new np
    refine ⟨p, _, rfl, SqT.of upd_same, rfl, _, _, rfl, _, _, rfl, _, _, rfl, _, _, rfl, rfl, ?_⟩
    generalize upd H4 p (.tup [.ref a1, .ref a2, .ref a3, .ref a4]) = H0 at sp ⊢
    refine ⟨_, rfl, rfl, rfl, fun a5 n5 => ⟨a5, [x], rfl, rfl, upd_same, fun dd H5 nd k ea ed => ⟨rfl, ?_⟩⟩⟩
    have s5 : Same H0 H5 := mk_same n5 k
    have x5 : ExF H5 a5 c5 [("path", x)] := ⟨dd, ea, ed⟩
    clear nd k ea ed
    refine ⟨_, rfl, rfl, rfl, fun a6 n6 => ⟨a6, [y], rfl, rfl, upd_same, fun dd H6 nd k ea ed => ⟨rfl, ?_⟩⟩⟩
    have s6 : Same H5 H6 := mk_same n6 k
    have x6 : ExF H6 a6 c6 [("path", y)] := ⟨dd, ea, ed⟩
    clear nd k ea ed
    refine ⟨_, rfl, rfl, rfl, fun a7 n7 => ⟨a7, [x], rfl, rfl, upd_same, fun dd H7 nd k ea ed => ⟨rfl, ?_⟩⟩⟩
    have s7 : Same H6 H7 := mk_same n7 k
    have x7 : ExF H7 a7 c7 [("most", x)] := ⟨dd, ea, ed⟩
    clear nd k ea ed
    refine ⟨_, _, _, rfl, ?_⟩
    have t1 : Same H1 H7 := s2.trans (s3.trans (s4.trans (sp.trans (s5.trans (s6.trans s7)))))
    have t2 : Same H2 H7 := s3.trans (s4.trans (sp.trans (s5.trans (s6.trans s7))))
    have t3 : Same H3 H7 := s4.trans (sp.trans (s5.trans (s6.trans s7)))
    have t4 : Same H4 H7 := sp.trans (s5.trans (s6.trans s7))
    have t5 : Same H5 H7 := s6.trans s7
    have t0 : Same H H7 := s1.trans t1
    replace x1 := x1.mono t1
    replace x2 := x2.mono t2
    replace x3 := x3.mono t3
    replace x4 := x4.mono t4
    replace x5 := x5.mono t5
    replace x6 := x6.mono s7
    clear t1 t2 t3 t4 t5 s1 s2 s3 s4 sp s5 s6 s7
    -- the first three rows
    unfold tSeq tAsg tLst tCons
    dsimp only
    refine row_two (σ := [some x, some y, some (.ref a1), some (.ref a2), some (.ref a3), some (.ref a4), some (.ref a5), some (.ref a6), some (.ref a7), none]) (x := x) (y := y) (i := 2) rfl rfl rfl x1 T.r1 T.w1 rfl rfl fun p1 G1 u1 R1 => ?_
    refine row_two (σ := [some x, some y, some (.ref a1), some (.ref a2), some (.ref a3), some (.ref a4), some (.ref a5), some (.ref a6), some (.ref a7), none]) (x := x) (y := y) (i := 3) rfl rfl rfl (x2.mono u1) T.r2 T.w2 rfl rfl fun p2 G2 u2 R2 => ?_
    have v2 : Same H7 G2 := u1.trans u2
    refine row_one (σ := [some x, some y, some (.ref a1), some (.ref a2), some (.ref a3), some (.ref a4), some (.ref a5), some (.ref a6), some (.ref a7), none]) (x := x) (y := y) (i := 4) (j := 0) rfl rfl (.inl rfl) (x3.mono v2) T.r3 rfl fun p3 G3 u3 R3 => ?_
    have v3 : Same H7 G3 := v2.trans u3
    refine ⟨(by show 3 ≤ sizeLine; decide), fun l1 nl1 => ?_⟩
    have v4 : Same G3 (upd G3 l1 (.lst [.ref p1, .ref p2, .ref p3])) := same_new nl1
    have L1 : (upd G3 l1 (.lst [.ref p1, .ref p2, .ref p3])) l1 = some (.lst [.ref p1, .ref p2, .ref p3]) := upd_same
    generalize upd G3 l1 (.lst [.ref p1, .ref p2, .ref p3]) = G4 at v4 L1 ⊢
    have A1 : Rows x y G4 [.ref p1, .ref p2, .ref p3] [c1, c2, c3] := .cons (R1.mono (u2.trans (u3.trans v4))) (.cons (R2.mono (u3.trans v4)) (.cons (R3.mono v4) .nil))
    have z4 : Same H7 G4 := v3.trans v4
    clear R1 R2 R3 u1 u2 u3 v2 v3 v4
    refine ⟨_, rfl, ?_⟩
    refine row_one (σ := [some x, some y, some (.ref a1), some (.ref a2), some (.ref a3), some (.ref a4), some (.ref a5), some (.ref a6), some (.ref a7), some (.ref l1)]) (x := x) (y := y) (i := 5) (j := 0) rfl rfl (.inl rfl) (x4.mono z4) T.r4 rfl fun p4 G5 u1 R1 => ?_
    refine row_one (σ := [some x, some y, some (.ref a1), some (.ref a2), some (.ref a3), some (.ref a4), some (.ref a5), some (.ref a6), some (.ref a7), some (.ref l1)]) (x := x) (y := y) (i := 6) (j := 0) rfl rfl (.inl rfl) (x5.mono (z4.trans u1)) T.r5 rfl fun p5 G6 u2 R2 => ?_
    refine row_one (σ := [some x, some y, some (.ref a1), some (.ref a2), some (.ref a3), some (.ref a4), some (.ref a5), some (.ref a6), some (.ref a7), some (.ref l1)]) (x := x) (y := y) (i := 7) (j := 1) rfl rfl (.inr rfl) (x6.mono (z4.trans (u1.trans u2))) T.r6 rfl fun p6 G7 u3 R3 => ?_
    refine ⟨(by show 3 ≤ sizeLine; decide), fun l2 nl2 => ?_⟩
    have v4 : Same G7 (upd G7 l2 (.lst [.ref p4, .ref p5, .ref p6])) := same_new nl2
    have L2 : (upd G7 l2 (.lst [.ref p4, .ref p5, .ref p6])) l2 = some (.lst [.ref p4, .ref p5, .ref p6]) := upd_same
    generalize upd G7 l2 (.lst [.ref p4, .ref p5, .ref p6]) = G8 at v4 L2 ⊢
    have w4 : Same G4 G8 := u1.trans (u2.trans (u3.trans v4))
    refine ⟨l1, l2, _, _, rfl, rfl, w4 _ _ L1, L2, (by show 3 + 3 ≤ sizeLine; decide), fun l3 nl3 => ?_⟩
    have v5 : Same G8 (upd G8 l3 (.lst ([.ref p1, .ref p2, .ref p3] ++ [.ref p4, .ref p5, .ref p6]))) := same_new nl3
    have L3 : (upd G8 l3 (.lst ([.ref p1, .ref p2, .ref p3] ++ [.ref p4, .ref p5, .ref p6]))) l3 = some (.lst ([.ref p1, .ref p2, .ref p3] ++ [.ref p4, .ref p5, .ref p6])) := upd_same
    generalize upd G8 l3 (.lst ([.ref p1, .ref p2, .ref p3] ++ [.ref p4, .ref p5, .ref p6])) = G9 at v5 L3 ⊢
    replace L3 : G9 l3 = some (.lst [.ref p1, .ref p2, .ref p3, .ref p4, .ref p5, .ref p6]) := L3
    have A2 : Rows x y G9 [.ref p1, .ref p2, .ref p3, .ref p4, .ref p5, .ref p6] [c1, c2, c3, c4, c5, c6] :=
      (A1.mono (w4.trans v5)).append (.cons (R1.mono (u2.trans (u3.trans (v4.trans v5)))) (.cons (R2.mono (u3.trans (v4.trans v5))) (.cons (R3.mono (v4.trans v5)) .nil)))
    have z9 : Same H7 G9 := z4.trans (w4.trans v5)
    clear R1 R2 R3 u1 u2 u3 v4 v5 w4 A1 z4 L1 L2
    refine ⟨_, rfl, ?_⟩
    refine row_one (σ := [some x, some y, some (.ref a1), some (.ref a2), some (.ref a3), some (.ref a4), some (.ref a5), some (.ref a6), some (.ref a7), some (.ref l3)]) (x := x) (y := y) (i := 8) (j := 0) rfl rfl (.inl rfl) (x7.mono z9) T.r7 rfl fun p7 Ga u1 R1 => ?_
    refine row_none (σ := [some x, some y, some (.ref a1), some (.ref a2), some (.ref a3), some (.ref a4), some (.ref a5), some (.ref a6), some (.ref a7), some (.ref l3)]) (C := c8) (x := x) (y := y) fun p8 Gb u2 R2 => ?_
    refine row_none (σ := [some x, some y, some (.ref a1), some (.ref a2), some (.ref a3), some (.ref a4), some (.ref a5), some (.ref a6), some (.ref a7), some (.ref l3)]) (C := c9) (x := x) (y := y) fun p9 Gc u3 R3 => ?_
    refine row_none (σ := [some x, some y, some (.ref a1), some (.ref a2), some (.ref a3), some (.ref a4), some (.ref a5), some (.ref a6), some (.ref a7), some (.ref l3)]) (C := ca) (x := x) (y := y) fun pa Gd u4 R4 => ?_
    refine ⟨(by show 4 ≤ sizeLine; decide), fun l4 nl4 => ?_⟩
    have v4 : Same Gd (upd Gd l4 (.lst [.ref p7, .ref p8, .ref p9, .ref pa])) := same_new nl4
    have L4 : (upd Gd l4 (.lst [.ref p7, .ref p8, .ref p9, .ref pa])) l4 = some (.lst [.ref p7, .ref p8, .ref p9, .ref pa]) := upd_same
    generalize upd Gd l4 (.lst [.ref p7, .ref p8, .ref p9, .ref pa]) = Ge at v4 L4 ⊢
    have w4 : Same G9 Ge := u1.trans (u2.trans (u3.trans (u4.trans v4)))
    refine ⟨l3, l4, _, _, rfl, rfl, w4 _ _ L3, L4, (by show 6 + 4 ≤ sizeLine; decide), fun l5 nl5 => ?_⟩
    have v5 : Same Ge (upd Ge l5 (.lst ([.ref p1, .ref p2, .ref p3, .ref p4, .ref p5, .ref p6] ++ [.ref p7, .ref p8, .ref p9, .ref pa]))) := same_new nl5
    have L5 : (upd Ge l5 (.lst ([.ref p1, .ref p2, .ref p3, .ref p4, .ref p5, .ref p6] ++ [.ref p7, .ref p8, .ref p9, .ref pa]))) l5 = some (.lst ([.ref p1, .ref p2, .ref p3, .ref p4, .ref p5, .ref p6] ++ [.ref p7, .ref p8, .ref p9, .ref pa])) := upd_same
    generalize upd Ge l5 (.lst ([.ref p1, .ref p2, .ref p3, .ref p4, .ref p5, .ref p6] ++ [.ref p7, .ref p8, .ref p9, .ref pa])) = Gf at v5 L5 ⊢
    replace L5 : Gf l5 = some (.lst [.ref p1, .ref p2, .ref p3, .ref p4, .ref p5, .ref p6, .ref p7, .ref p8, .ref p9, .ref pa]) := L5
    have A3 : Rows x y Gf [.ref p1, .ref p2, .ref p3, .ref p4, .ref p5, .ref p6, .ref p7, .ref p8, .ref p9, .ref pa] [c1, c2, c3, c4, c5, c6, c7, c8, c9, ca] :=
      (A2.mono (w4.trans v5)).append (.cons (R1.mono (u2.trans (u3.trans (u4.trans (v4.trans v5))))) (.cons (R2.mono (u3.trans (u4.trans (v4.trans v5)))) (.cons (R3.mono (u4.trans (v4.trans v5))) (.cons (R4.mono (v4.trans v5)) .nil))))
    have zf : Same H7 Gf := z9.trans (w4.trans v5)
    clear R1 R2 R3 R4 u1 u2 u3 u4 v4 v5 w4 A2 z9 L3 L4
    refine ⟨_, rfl, ?_⟩
    refine row_none (σ := [some x, some y, some (.ref a1), some (.ref a2), some (.ref a3), some (.ref a4), some (.ref a5), some (.ref a6), some (.ref a7), some (.ref l5)]) (C := cb) (x := x) (y := y) fun p7' Ga' u1 R1 => ?_
    refine row_none (σ := [some x, some y, some (.ref a1), some (.ref a2), some (.ref a3), some (.ref a4), some (.ref a5), some (.ref a6), some (.ref a7), some (.ref l5)]) (C := cc) (x := x) (y := y) fun p8' Gb' u2 R2 => ?_
    refine ⟨(by show 2 ≤ sizeLine; decide), fun l6 nl6 => ?_⟩
    have v4 : Same Gb' (upd Gb' l6 (.lst [.ref p7', .ref p8'])) := same_new nl6
    have L6 : (upd Gb' l6 (.lst [.ref p7', .ref p8'])) l6 = some (.lst [.ref p7', .ref p8']) := upd_same
    generalize upd Gb' l6 (.lst [.ref p7', .ref p8']) = Ge' at v4 L6 ⊢
    have w4 : Same Gf Ge' := u1.trans (u2.trans v4)
    refine ⟨l5, l6, _, _, rfl, rfl, w4 _ _ L5, L6, (by show 10 + 2 ≤ sizeLine; decide), fun l7 nl7 => ?_⟩
    have v5 := same_new (o := .lst ([.ref p1, .ref p2, .ref p3, .ref p4, .ref p5, .ref p6, .ref p7, .ref p8, .ref p9, .ref pa] ++ [.ref p7', .ref p8'])) nl7
    exact q l7 _ _ (t0.trans (zf.trans (w4.trans v5))) upd_same ((A3.mono (w4.trans v5)).append (.cons (R1.mono (u2.trans (v4.trans v5))) (.cons (R2.mono (v4.trans v5)) .nil)))
end
end K01

namespace K01
open PySem PySem.Spec PyProof.Rows L2
theorem scO : FnScope ["_law_e", "_law_found"] ["_law_e"] (defScope sSorts) := ⟨rfl, rfl, rfl, by decide +kernel, rfl, by decide +kernel, by decide +kernel⟩
def bools (i : Nat) : List V := (List.range 12).map fun j => V.bl (decide (j = i))
section
variable {P : Program} {w : World} {K : PySem.W.Frag} {mg : Str → Option Value} {base : Heap}
/-- the classes tell one another apart -/
structure Kits (K : PySem.W.Frag) (Cs : List Addr) : Prop where
  kit : ∀ (i j : Nat) (C D : Addr), Cs[i]? = some C → Cs[j]? = some D → PySem.W.kitOne K (.ref C) (.ref D) = some (decide (j = i))
  exc : ∀ (i : Nat) (C : Addr), Cs[i]? = some C → ExcC K C
def spSorts (Cs : List Addr) : Sp := fun vs H Q _ => ∃ (a C : Addr) (i : Nat), vs = [.ref a] ∧ Cs[i]? = some C ∧ ExAt H a C ∧ ∀ (p : Addr) (H' : Hp), Same H H' → H' p = some (.lst (bools i)) → Q (.ref p) H'
theorem ok_sorts {f : Addr} {fd : FuncData} {c1 c2 c3 c4 c5 c6 c7 c8 c9 ca cb cc i1 i2 i3 i4 i5 i6 i7 : Addr} {d1 d2 d3 d4 d5 d6 d7 : FuncData} (F : Fun K "_law_sorts" "_law_sorts" sSorts f fd)
    (T : TM P w K mg base c1 c2 c3 c4 c5 c6 c7 c8 c9 ca cb cc i1 i2 i3 i4 i5 i6 i7 d1 d2 d3 d4 d5 d6 d7) (KT : Kits K [c1, c2, c3, c4, c5, c6, c7, c8, c9, ca, cb, cc]) (mi : mg "isinstance" = none) : FnOk P w K mg base CX0 1 f fd ["_law_e"] (spSorts [c1, c2, c3, c4, c5, c6, c7, c8, c9, ca, cb, cc]) := by
  refine F.ok scO (fun vs H Q E h => ?_) (fun cdv A outer s H vs Q E hr h => ?_)
  · obtain ⟨a, C, i, rfl, _⟩ := h
    rfl
  · obtain ⟨a, C, i, rfl, hi, ea, q⟩ := h
    have hC := KT.exc i C hi
    refine ⟨_, pss_cons (ps_set (i := 1) scO.nd rfl (.inl rfl) (pe_lst
        (pa_cons (pe_callB call_isX (by rfl) mi (by decide +kernel) (pa_cons (pv 0) (pa_cons (pe_glob (v := .ref c1) rfl T.e1.m rfl) pa_nil)))
        (pa_cons (pe_callB call_isX (by rfl) mi (by decide +kernel) (pa_cons (pv 0) (pa_cons (pe_glob (v := .ref c2) rfl T.e2.m rfl) pa_nil)))
        (pa_cons (pe_callB call_isX (by rfl) mi (by decide +kernel) (pa_cons (pv 0) (pa_cons (pe_glob (v := .ref c3) rfl T.e3.m rfl) pa_nil)))
        (pa_cons (pe_callB call_isX (by rfl) mi (by decide +kernel) (pa_cons (pv 0) (pa_cons (pe_glob (v := .ref c4) rfl T.e4.m rfl) pa_nil))) pa_nil))))))
      (pss_cons (ps_set (i := 1) scO.nd rfl (.inl rfl) (pe_op op_cat (pv 1) (pe_lst
        (pa_cons (pe_callB call_isX (by rfl) mi (by decide +kernel) (pa_cons (pv 0) (pa_cons (pe_glob (v := .ref c5) rfl T.e5.m rfl) pa_nil)))
        (pa_cons (pe_callB call_isX (by rfl) mi (by decide +kernel) (pa_cons (pv 0) (pa_cons (pe_glob (v := .ref c6) rfl T.e6.m rfl) pa_nil)))
        (pa_cons (pe_callB call_isX (by rfl) mi (by decide +kernel) (pa_cons (pv 0) (pa_cons (pe_glob (v := .ref c7) rfl T.e7.m rfl) pa_nil)))
        (pa_cons (pe_callB call_isX (by rfl) mi (by decide +kernel) (pa_cons (pv 0) (pa_cons (pe_glob (v := .ref c8) rfl T.e8.m rfl) pa_nil))) pa_nil)))))))
      (pss_one (ps_ret (pe_op op_cat (pv 1) (pe_lst
        (pa_cons (pe_callB call_isX (by rfl) mi (by decide +kernel) (pa_cons (pv 0) (pa_cons (pe_glob (v := .ref c9) rfl T.e9.m rfl) pa_nil)))
        (pa_cons (pe_callB call_isX (by rfl) mi (by decide +kernel) (pa_cons (pv 0) (pa_cons (pe_glob (v := .ref ca) rfl T.ea.m rfl) pa_nil)))
        (pa_cons (pe_callB call_isX (by rfl) mi (by decide +kernel) (pa_cons (pv 0) (pa_cons (pe_glob (v := .ref cb) rfl T.eb.m rfl) pa_nil)))
        (pa_cons (pe_callB call_isX (by rfl) mi (by decide +kernel) (pa_cons (pv 0) (pa_cons (pe_glob (v := .ref cc) rfl T.ec.m rfl) pa_nil))) pa_nil))))))))), ?_⟩
    refine ⟨_, rfl, a, C, _, _, _, rfl, .own _, hC, ea, KT.kit i 0 _ _ hi rfl, _, rfl, a, C, _, _, _, rfl, .own _, hC, ea, KT.kit i 1 _ _ hi rfl, _, rfl, a, C, _, _, _, rfl, .own _, hC, ea, KT.kit i 2 _ _ hi rfl,
      _, rfl, a, C, _, _, _, rfl, .own _, hC, ea, KT.kit i 3 _ _ hi rfl, (by show 4 ≤ sizeLine; decide), fun l1 n1 => ?_⟩
    have s1 : Same H (upd H l1 (.lst [.bl (decide (0 = i)), .bl (decide (1 = i)), .bl (decide (2 = i)), .bl (decide (3 = i))])) := same_new n1
    have L1 : (upd H l1 (.lst [.bl (decide (0 = i)), .bl (decide (1 = i)), .bl (decide (2 = i)), .bl (decide (3 = i))])) l1 = some (.lst [.bl (decide (0 = i)), .bl (decide (1 = i)), .bl (decide (2 = i)), .bl (decide (3 = i))]) := upd_same
    generalize upd H l1 (.lst [.bl (decide (0 = i)), .bl (decide (1 = i)), .bl (decide (2 = i)), .bl (decide (3 = i))]) = H1 at s1 L1 ⊢
    have ea1 := ea.mono s1
    refine ⟨_, rfl, _, rfl, a, C, _, _, _, rfl, .own _, hC, ea1, KT.kit i 4 _ _ hi rfl, _, rfl, a, C, _, _, _, rfl, .own _, hC, ea1, KT.kit i 5 _ _ hi rfl, _, rfl, a, C, _, _, _, rfl, .own _, hC, ea1, KT.kit i 6 _ _ hi rfl,
      _, rfl, a, C, _, _, _, rfl, .own _, hC, ea1, KT.kit i 7 _ _ hi rfl, (by show 4 ≤ sizeLine; decide), fun l2 n2 => ?_⟩
    have s2 : Same H1 (upd H1 l2 (.lst [.bl (decide (4 = i)), .bl (decide (5 = i)), .bl (decide (6 = i)), .bl (decide (7 = i))])) := same_new n2
    have L2 : (upd H1 l2 (.lst [.bl (decide (4 = i)), .bl (decide (5 = i)), .bl (decide (6 = i)), .bl (decide (7 = i))])) l2 = some (.lst [.bl (decide (4 = i)), .bl (decide (5 = i)), .bl (decide (6 = i)), .bl (decide (7 = i))]) := upd_same
    generalize upd H1 l2 (.lst [.bl (decide (4 = i)), .bl (decide (5 = i)), .bl (decide (6 = i)), .bl (decide (7 = i))]) = H2 at s2 L2 ⊢
    refine ⟨l1, l2, _, _, rfl, rfl, s2 _ _ L1, L2, (by show 4 + 4 ≤ sizeLine; decide), fun l3 n3 => ?_⟩
    have s3 := same_new (o := .lst ([.bl (decide (0 = i)), .bl (decide (1 = i)), .bl (decide (2 = i)), .bl (decide (3 = i))] ++ [.bl (decide (4 = i)), .bl (decide (5 = i)), .bl (decide (6 = i)), .bl (decide (7 = i))])) n3
    have L3 : (upd H2 l3 (.lst ([.bl (decide (0 = i)), .bl (decide (1 = i)), .bl (decide (2 = i)), .bl (decide (3 = i))] ++ [.bl (decide (4 = i)), .bl (decide (5 = i)), .bl (decide (6 = i)), .bl (decide (7 = i))]))) l3 = some (.lst ([.bl (decide (0 = i)), .bl (decide (1 = i)), .bl (decide (2 = i)), .bl (decide (3 = i))] ++ [.bl (decide (4 = i)), .bl (decide (5 = i)), .bl (decide (6 = i)), .bl (decide (7 = i))])) := upd_same
    generalize upd H2 l3 (.lst ([.bl (decide (0 = i)), .bl (decide (1 = i)), .bl (decide (2 = i)), .bl (decide (3 = i))] ++ [.bl (decide (4 = i)), .bl (decide (5 = i)), .bl (decide (6 = i)), .bl (decide (7 = i))])) = H3 at s3 L3 ⊢
    have ea3 := ea1.mono (s2.trans s3)
    refine ⟨_, rfl, _, rfl, a, C, _, _, _, rfl, .own _, hC, ea3, KT.kit i 8 _ _ hi rfl, _, rfl, a, C, _, _, _, rfl, .own _, hC, ea3, KT.kit i 9 _ _ hi rfl, _, rfl, a, C, _, _, _, rfl, .own _, hC, ea3, KT.kit i 10 _ _ hi rfl,
      _, rfl, a, C, _, _, _, rfl, .own _, hC, ea3, KT.kit i 11 _ _ hi rfl, (by show 4 ≤ sizeLine; decide), fun l4 n4 => ?_⟩
    have s4 := same_new (o := .lst [.bl (decide (8 = i)), .bl (decide (9 = i)), .bl (decide (10 = i)), .bl (decide (11 = i))]) n4
    refine ⟨l3, l4, _, _, rfl, rfl, s4 _ _ L3, upd_same, (by show 8 + 4 ≤ sizeLine; decide), fun l5 n5 => ?_⟩
    exact q l5 _ (s1.trans (s2.trans (s3.trans (s4.trans (same_new n5))))) (by rw [upd_same]; rfl)
end
end K01

namespace L2
open PySem PySem.Spec PyProof.Rows
/-- the clauses' wishes, one after the other, each with a name at a slot -/
def wManyAs (K : PySem.W.Frag) (Wout : WX) (D : Ends) : List (Value × Nat × (Addr → Value → Option Addr → TS)) → WX
  | [] => Wout
  | (c, i, ts) :: r => fun cls d σ H => ∃ b, PySem.W.exmOne K cls c = some b ∧
    (b = true → ∀ a, H a = none → ts a cls d { nx := fun σ' H' => D.nx (σ'.set i none) H', rt := D.rt, bk := fun σ' H' => D.bk (σ'.set i none) H', ct := fun σ' H' => D.ct (σ'.set i none) H' } (σ.set i (some (.ref a))) H) ∧
    (b = false → wManyAs K Wout D r cls d σ H)
inductive HdsAs (X : Cx) : List ExceptHandler → List (Value × Nat × (Addr → Value → Option Addr → TS)) → Prop
  | nil : HdsAs X [] []
  | cons {x n : Str} {i : Nat} {c : Value} {ts : Addr → Value → Option Addr → TS} {b₀ : Stmt} {suite : List Stmt} {np pos' : Pos} {hds : List ExceptHandler} {l : List (Value × Nat × (Addr → Value → Option Addr → TS))}
      (hi : X.N[i]? = some n) (hln : X.env.kindOf n = some .local) (hc : Names X x c)
      (hsu : ∀ (a : Addr) (oe : Obj) (cls : Value) (d : Option Addr) (pn : List (Addr × Obj)), Zc cls d oe → (∃ vs, oe.data = .fields vs) → PSs (X.suite a ((a, oe) :: pn)) (b₀ :: suite) (ts a cls d)) (r : HdsAs X hds l) :
      HdsAs X (.ExceptHandler (some (.Name x np)) (some n) (b₀ :: suite) pos' :: hds) ((c, i, ts) :: l)
section
variable {X : Cx} {body : List Stmt} {h₀ : ExceptHandler} {hds : List ExceptHandler} {l : List (Value × Nat × (Addr → Value → Option Addr → TS))} {pos : Pos} {tb : WX → TS} {Wout : WX}
theorem ps_try_manyAs (stk : X.stack = X.env :: X.outer) (ownF : X.env.frame = some X.env.locals) (nodN : X.N.Nodup) (tks : Takes X Wout)
    (bodyOk : ∀ (W : WX) (pn : List (Addr × Obj)) (xe : Value → Shared → Prop), Takes (X.tr pn xe) W → PassesOwn (model X.prog X.w) X.A X.env xe → PSs (X.tr pn xe) body (tb W))
    (clausesOk : HdsAs X (h₀ :: hds) ls) : PS X (.Try body (h₀ :: hds) [] [] pos) (fun Dn σ H => tb (wManyAs X.K Wout Dn ls) Dn σ H) := by
  refine ⟨fun pins s σ H Dn I h => ?_⟩
  have oX := I.ok
  have hfrs : X.A.frames = some (X.env :: X.outer) := by rw [oX.frames, stk]
  refine wpAny_Try_except ?_
  refine wpAny_mono ((bodyOk (wManyAs X.K Wout Dn ls) (X.pn ++ pins) (fun e s₁ => wpAny (model X.prog X.w) X.A (noteFrame e X.env) (fun _ s₂ => wpAny (model X.prog X.w) X.A (setFlight e none) (fun _ s₃ =>
    wpAny (model X.prog X.w) X.A (handleBy e X.env (h₀ :: hds)) (SP X pins Dn) X.xe s₃) X.xe s₂) X.xe s₁) (fun uu sN esc => ?_) PassesOwn.looking).run [] s σ H Dn (I.toTry _) h) (fun f s1 aft => ?_) (fun e s1 oee => oee)
  · -- the catch
    obtain ⟨a, B, sI, pn1, σ1, H1, cls, d, rfl, K1, old, upw, air, frA, eos, bar, ww⟩ := esc
    have K0 : Inv X pins σ1 H1 sI := K1.ofTry oX
    have air1 : Sky B (X.env :: X.outer) a (Zc cls d) X.env.locals sN.heap := by rw [← stk]; exact air
    show wpAny (model X.prog X.w) X.A (noteFrame (.ref a) X.env) _ _ _; refine Sky.land Zc.steady hfrs ownF air1 fun g3 fly3 upw3 => ?_
    have K3 : Inv X pins σ1 H1 { sN with heap := g3 } := K0.landed old fly3.1 (upw.trans upw3) eos bar
    obtain ⟨ob3, fs3, ge3, gz3, gd3⟩ := fly3.there
    have off : ∀ {h : Heap} {o : Obj} {vs : Array Value}, h.FunFrames B (X.env :: X.outer) → h.get? a = some o → o.data = .fields vs → a ∉ frs (X.env :: X.outer) := fun {h o vs} ff e dd mm => by
      obtain ⟨_, o', e', hnf⟩ := ff.mem mm
      rw [e] at e'; cases e'
      exact hnf _ dd
    have offF := off fly3.2.2.1 ge3 gd3
    have offL : a ≠ X.env.locals := fun z => offF (List.mem_filterMap.mpr ⟨X.env, List.mem_cons_self, by rw [ownF, z]⟩)
    have offS : a ∉ X.fs := fun mm => by
      obtain ⟨e, oee, q⟩ := List.mem_filterMap.mp mm
      exact offF (List.mem_filterMap.mpr ⟨e, List.mem_cons_of_mem _ oee, q⟩)
    have T3 := K3.suite ge3 gd3 frA offL offS
    have walk : ∀ {hds' : List ExceptHandler} {l' : List (Value × Nat × (Addr → Value → Option Addr → TS))}, HdsAs X hds' l' → wManyAs X.K Wout Dn l' cls d σ1 H1 →
        wpAny (model X.prog X.w) X.A (handleBy (.ref a) X.env hds') (SP X pins Dn) X.xe { sN with heap := g3 } := by
      intro hds' l' hds1
      induction hds1 with
      | nil =>
        intro ww
        refine wpAny_handleBy_nil ?_
        obtain ⟨a1, a2, a3, oe, vs, T0, o0, t0, oee, ozz, odd, e1, rr⟩ := id fly3
        unfold PySem.passOn
        refine wpAny_bind (wpAny_field oee odd e1 ?_)
        rw [if_neg (show ¬ ((Value.ref T0 == Value.none) = true) from by simp)]
        have endT : wpAny (model X.prog X.w) X.A (setFlight (.ref a) X.env.frame) (fun _ s4 => wpAny (model X.prog X.w) X.A (throw (.ref a) : Sem Flow) (SP X pins Dn) X.xe s4) X.xe { sN with heap := g3 } := by
          rw [ownF]
          refine HandSPX.setFlight_upZ fly3 fun g4 held4 upw4 => wpAny_throw (tks _ _ ?_)
          exact ⟨a, B, sI, pins, σ1, H1, cls, d, rfl, K0, old, (upw.trans upw3).trans upw4, .inr (.inr (by rw [stk]; exact held4)), frA, eos, bar, ww⟩
        first
          | exact wpAny_bind (wpAny_pure (wpAny_bind endT))
          | exact wpAny_bind endT
      | @cons x nm ix cl ts b₀ suite np pos' hds2 l2 hi hln hc hsu r ih =>
        intro ww
        obtain ⟨bb, isit, yes, no⟩ := ww; refine wpAny_handleBy_cons (codeAny_handlers_test ?_) (by intro q; cases q)
        have lookT : PySem.W.Looks (model X.prog X.w) g3 (typeOf (.ref a)) cls := fun A Q E s k q => wpAny_typeOf_ref (k _ _ ge3) (by rw [gz3.1]; exact q)
        have lookM := PySem.W.exm_one (M := model X.prog X.w) (K3.kIn) lookT isit
        have tst : ∀ {Q : Value → Shared → Prop} {E : Value → Shared → Prop}, Q cl { sN with heap := g3 } → wpAny (model X.prog X.w) (X.A.mark (some (.ref a))) (eval (.Name x np) X.env) Q E { sN with heap := g3 } := fun {Q E} q => by
          obtain ⟨gg, ndb, mm | ⟨mm, vv, nnm⟩⟩ := hc
          · exact ld_glob (X := X.suite a ((a, ob3) :: (X.pn ++ pins))) T3 gg mm q ndb
          · exact ld_blt (X := X.suite a ((a, ob3) :: (X.pn ++ pins))) T3 gg mm vv q nnm ndb
        refine tst (lookM.here ?_)
        cases bb with
        | true =>
          refine codeAny_handlers_suite_as ?_; refine HandSPX.lands_againZ fly3 fun g4 fly4 upw4 => ?_
          have K4 : Inv X pins σ1 H1 { sN with heap := g4 } := K0.landed old fly4.1 ((upw.trans upw3).trans upw4) eos bar
          obtain ⟨ob4, fs4, ge4, gz4, gd4⟩ := fly4.there
          have T4 := K4.suite ge4 gd4 frA offL offS
          refine store_ok (X := X.suite a ((a, ob4) :: (X.pn ++ pins))) (v := .ref a) T4 nodN hi (.inl hln) rfl (fun r5 T5 => ?_) (.inr hln)
          refine wpAny_mono ((hsu a ob4 cls d (X.pn ++ pins) gz4 ⟨_, gd4⟩).run [] r5 _ H1 _ T5 (yes rfl a frA)) (fun f r6 aft => ?_) (fun _ _ z => False.elim z)
          have leave : ∀ {σ8 : St} {H8 : Hp} {Q : Shared → Prop}, Inv (X.suite a ((a, ob4) :: (X.pn ++ pins))) [] σ8 H8 r6 → (∀ r7, Inv X pins (σ8.set ix none) H8 r7 → Q r7) →
              wpAny (model X.prog X.w) X.A (do bindName X.env nm .none; unbindBehindTheSuite X.env nm pos') (fun _ r7 => Q r7) X.xe r6 := fun {σ8 H8 Q} T6 hq => gone_ok (T6.unsuite oX) nodN hi hln hq
          cases f with
          | next =>
            obtain ⟨σ8, H8, T6, qq⟩ := aft
            exact leave T6 fun r7 K7 => ⟨_, _, K7, qq⟩
          | brk =>
            obtain ⟨σ8, H8, T6, qq⟩ := aft
            exact leave T6 fun r7 K7 => ⟨_, _, K7, qq⟩
          | cont =>
            obtain ⟨σ8, H8, T6, qq⟩ := aft
            exact leave T6 fun r7 K7 => ⟨_, _, K7, qq⟩
          | ret uu =>
            obtain ⟨v8, σ8, H8, T6, r6, qq⟩ := aft
            exact leave T6 fun r7 K7 => ⟨_, _, _, K7, r6, qq⟩
        | false =>
          show wpAny _ X.A (handleBy (.ref a) X.env hds2) _ _ _; exact ih (no rfl)
    exact walk clausesOk ww
  · cases f with
    | next =>
      obtain ⟨σ1, H1, K1, q⟩ := aft
      exact wpAny_execs_nil ⟨σ1, H1, K1.ofTry oX, q⟩
    | brk =>
      obtain ⟨σ1, H1, K1, q⟩ := aft
      exact ⟨σ1, H1, K1.ofTry oX, q⟩
    | cont =>
      obtain ⟨σ1, H1, K1, q⟩ := aft
      exact ⟨σ1, H1, K1.ofTry oX, q⟩
    | ret uu =>
      obtain ⟨v, σ1, H1, K1, r, q⟩ := aft
      exact ⟨v, σ1, H1, K1.ofTry oX, r, q⟩
end
end L2

namespace K01
open PySem PySem.Spec PyProof.Rows L2
abbrev nRs : List Str := ["_law_form", "_law_a", "_law_found", "_law_e"]
theorem scR : FnScope nRs ["_law_form", "_law_a"] (defScope sRaised) := ⟨rfl, rfl, rfl, by decide +kernel, rfl, by decide +kernel, by decide +kernel⟩
theorem itT {c : Bool} {A B : Prop} (hc : c = true) (h : A) : if c = true then A else B := by
  rw [hc]
  exact iteT h
theorem itF {c : Bool} {A B : Prop} (hc : c = false) (h : B) : if c = true then A else B := by
  rw [hc]
  exact iteF h
/-- what is due of the n-th form -/
def Due (H : Hp) (x : V) : Nat → V → Prop
  | 0, v => ∃ t, v = .ref t ∧ H t = some (.tup [.str "tree", x])
  | 1, v => ∃ t, v = .ref t ∧ H t = some (.tup [.str "other", .bl false, .bl true])
  | 2, v => ∃ t, v = .ref t ∧ H t = some (.tup [.str "other", .bl true, .bl true])
  | _, v => v = .str "none"
theorem Due.mono {H H' : Hp} {x v : V} (s : Same H H') : ∀ {n : Nat}, Due H x n v → Due H' x n v
  | 0, h => by obtain ⟨t, e, h⟩ := h; exact ⟨t, e, s _ _ h⟩
  | 1, h => by obtain ⟨t, e, h⟩ := h; exact ⟨t, e, s _ _ h⟩
  | 2, h => by obtain ⟨t, e, h⟩ := h; exact ⟨t, e, s _ _ h⟩
  | _ + 3, h => h
section
variable {P : Program} {w : World} {K : PySem.W.Frag} {mg : Str → Option Value} {base : Heap}
/-- what the except clauses ask: S is SaidError -/
structure TR (K : PySem.W.Frag) (mg : Str → Option Value) (c4 c7 c8 S : Addr) (d4 d7 : FuncData) : Prop where
  mS : mg "SaidError" = some (.ref S)
  mi : mg "isinstance" = none
  mv : mg "ValueError" = none
  b4 : Binds K d4 ["self", "path"] []
  b7 : Binds K d7 ["self", "most"] []
  r8 : PySem.W.subIn K (.ref c8) (.type "BaseException") = some true
  t8 : PySem.W.typeIn K (.ref c8) = some (.type "type")
  m44 : PySem.W.exmOne K (.ref c4) (.ref c4) = some true
  m74 : PySem.W.exmOne K (.ref c7) (.ref c4) = some false
  m84 : PySem.W.exmOne K (.ref c8) (.ref c4) = some false
  m7S : PySem.W.exmOne K (.ref c7) (.ref S) = some true
  m8S : PySem.W.exmOne K (.ref c8) (.ref S) = some true
  x7 : ExcC K c7
  x8 : ExcC K c8
  k78 : PySem.W.kitOne K (.ref c7) (.ref c8) = some false
  k88 : PySem.W.kitOne K (.ref c8) (.ref c8) = some true
  v7 : PySem.W.kitOne K (.ref c7) (.type "ValueError") = some true
  v8 : PySem.W.kitOne K (.ref c8) (.type "ValueError") = some true
def spRaised : Sp := fun vs H Q _ => ∃ (n : Nat) (x : V), vs = [.int n, x] ∧ n < 4 ∧ ∀ (v : V) (H' : Hp), Same H H' → Due H' x n v → Q v H'
theorem ok_raised {f : Addr} {fd : FuncData} {S c1 c2 c3 c4 c5 c6 c7 c8 c9 ca cb cc i1 i2 i3 i4 i5 i6 i7 : Addr} {d1 d2 d3 d4 d5 d6 d7 : FuncData} (F : Fun K "_law_raised" "_law_raised" sRaised f fd)
    (T : TM P w K mg base c1 c2 c3 c4 c5 c6 c7 c8 c9 ca cb cc i1 i2 i3 i4 i5 i6 i7 d1 d2 d3 d4 d5 d6 d7) (R : TR K mg c4 c7 c8 S d4 d7) : FnOk P w K mg base CX0 3 f fd ["_law_form", "_law_a"] spRaised := by
  refine F.ok scR (fun vs H Q E h => ?_) (fun cdv A outer s H vs Q E hr h => ?_)
  · obtain ⟨n, x, rfl, _⟩ := h
    rfl
  · obtain ⟨n, x, rfl, hn, q⟩ := h
    refine ⟨_, pss_cons (ps_set (i := 2) scR.nd rfl (.inl rfl) pe_str)
      (pss_cons (ps_try_manyAs rfl rfl scR.nd takes0
        (fun W pn xe tk po => pss_cons (ps_if (pt_cmpR op_eq (pv 0) pe_int (nomark _)) (pss_one (ps_raise rfl tk (pmk_oex T.e4.M.T T.e4.M.iC T.e4.M.tI T.e4.G hr R.b4 .nil pass0 rfl T.e4.m (pa_cons (pv 1) pa_nil)))) pss_nil)
          (pss_cons (ps_if (pt_cmpR op_eq (pv 0) pe_int (nomark _)) (pss_one (ps_raise rfl tk (pmk_oex T.e7.M.T T.e7.M.iC T.e7.M.tI T.e7.G hr R.b7 .nil pass0 rfl T.e7.m (pa_cons (pv 1) pa_nil)))) pss_nil)
          (pss_one (ps_if (pt_cmpR op_eq (pv 0) pe_int (nomark _)) (pss_one (ps_raise rfl tk (pmk_exc0 PySem.F.excBase_ValueError T.e8.q T.e8.m T.e8.k (raises_own R.r8 R.t8) rfl))) pss_nil))))
        (.cons (i := 3) (c := .ref c4) rfl rfl ⟨rfl, by decide, .inl T.e4.m⟩ (fun a oe cls d pn hz hf => pss_one (ps_set (i := 2) scR.nd rfl (.inl rfl) (pe_tup (pa_cons pe_str (pa_cons (pe_fldS hz hf (pv 3)) pa_nil)))))
        (.cons (i := 3) (c := .ref S) rfl rfl ⟨rfl, by decide, .inl R.mS⟩ (fun a oe cls d pn hz hf => pss_one (ps_set (i := 2) scR.nd rfl (.inl rfl) (pe_tup (pa_cons pe_str
            (pa_cons (pe_callB (call_isS hz hf) (by rfl) R.mi (by decide +kernel) (pa_cons (pv 3) (pa_cons (pe_glob (v := .ref c8) rfl T.e8.m rfl) pa_nil)))
            (pa_cons (pe_callB (call_isS hz hf) (by rfl) R.mi (by decide +kernel) (pa_cons (pv 3) (pa_cons (pe_bltn (v := .ty "ValueError") (by rfl) R.mv (by decide +kernel) rfl) pa_nil))) pa_nil))))))
        .nil)))
      (pss_one (ps_ret (pv 2)))), ?_⟩
    have go : ∀ (e d : Addr) (H2 : Hp) (fs : List (Str × V)), H e = none → (upd H e (exo e c4 none)) d = none ∨ (upd H e (exo e c7 none)) d = none → (∀ b o, b ≠ e → H b = some o → H2 b = some o) → H d = none ∧ Same H (upd (del H2 e) d (.xd fs)) := by
      intro e d H2 fs ne nd k
      have hde : d ≠ e := by
        intro z
        rw [z] at nd
        rcases nd with nd | nd <;> rw [upd_same] at nd <;> cases nd
      have hd : H d = none := by
        rcases nd with nd | nd <;> rw [upd_ne hde] at nd <;> exact nd
      exact ⟨hd, fun b o z => by rw [upd_ne (ne_of_none z hd), del_ne (ne_of_none z ne)]; exact k b o (ne_of_none z ne) z⟩
    obtain rfl | rfl | rfl | rfl : n = 0 ∨ n = 1 ∨ n = 2 ∨ n = 3 := by omega
    · refine ⟨_, rfl, rfl, _, rfl, itT (by decide) ?_⟩
      refine ⟨_, rfl, (by show 1 ≤ 1000; decide), fun e ne => ⟨e, [x], rfl, rfl, upd_same, fun d H2 nd k ea ed => ⟨rfl, d, _, ea, ed, ?_⟩⟩⟩
      have k' : ∀ b o, b ≠ e → H b = some o → H2 b = some o := fun b o hb z => k b o hb (by rw [upd_ne hb]; exact z)
      obtain ⟨hd, s1⟩ := go e d H2 (f1 "path" [x]) ne (.inl nd) k'
      refine ⟨hd, true, R.m44, fun _ a na => ?_, fun z => nomatch z⟩
      refine ⟨_, rfl, rfl, c4, d, _, x, rfl, T.r4, rfl, upd_same, rfl, (by show 2 ≤ sizeLine; decide), fun t nt => ?_⟩
      exact ⟨_, rfl, q _ _ (s1.trans (same_new nt)) ⟨t, rfl, upd_same⟩⟩
    · refine ⟨_, rfl, rfl, _, rfl, itF (by decide) ?_⟩
      refine ⟨_, rfl, rfl, _, rfl, itT (by decide) ?_⟩
      refine ⟨_, rfl, (by show 1 ≤ 1000; decide), fun e ne => ⟨e, [x], rfl, rfl, upd_same, fun d H2 nd k ea ed => ⟨rfl, d, _, ea, ed, ?_⟩⟩⟩
      have k' : ∀ b o, b ≠ e → H b = some o → H2 b = some o := fun b o hb z => k b o hb (by rw [upd_ne hb]; exact z)
      obtain ⟨hd, s1⟩ := go e d H2 (f1 "most" [x]) ne (.inr nd) k'
      refine ⟨hd, false, R.m74, (fun z => nomatch z), fun _ => ⟨true, R.m7S, fun _ a na => ?_, fun z => nomatch z⟩⟩
      refine ⟨_, rfl, c7, _, _, _, rfl, rfl, .own _, R.x7, .inr ⟨d, _, rfl, upd_same⟩, R.k78, _, rfl, c7, _, _, _, rfl, rfl, .ty _, R.x7, .inr ⟨d, _, rfl, upd_same⟩, R.v7, (by show 3 ≤ sizeLine; decide), fun t nt => ?_⟩
      exact ⟨_, rfl, q _ _ (s1.trans (same_new nt)) ⟨t, rfl, upd_same⟩⟩
    · refine ⟨_, rfl, rfl, _, rfl, itF (by decide) ?_⟩
      refine ⟨_, rfl, rfl, _, rfl, itF (by decide) ?_⟩
      refine ⟨_, rfl, rfl, _, rfl, itT (by decide) ?_⟩
      refine ⟨false, R.m84, (fun z => nomatch z), fun _ => ⟨true, R.m8S, fun _ a na => ?_, fun z => nomatch z⟩⟩
      refine ⟨_, rfl, c8, _, _, _, rfl, rfl, .own _, R.x8, .inl rfl, R.k88, _, rfl, c8, _, _, _, rfl, rfl, .ty _, R.x8, .inl rfl, R.v8, (by show 3 ≤ sizeLine; decide), fun t nt => ?_⟩
      exact ⟨_, rfl, q _ _ (same_new nt) ⟨t, rfl, upd_same⟩⟩
    · refine ⟨_, rfl, rfl, _, rfl, itF (by decide) ?_⟩
      refine ⟨_, rfl, rfl, _, rfl, itF (by decide) ?_⟩
      refine ⟨_, rfl, rfl, _, rfl, itF (by decide) ?_⟩
      exact ⟨_, rfl, q _ _ (Same.refl _) rfl⟩
end
end K01

namespace K01
open PySem PySem.Spec PyProof.Rows L2
abbrev nLaw : List Str := ["_law_script", "_law_k", "_law_feed", "_law_a", "_law_b", "_law_index", "_law_error", "_law_kept", "_law_due", "_law_at", "_law_form"]
theorem scL : FnScope nLaw ["_law_script"] (defScope sLaw) := ⟨rfl, rfl, rfl, by decide +kernel, rfl, by decide +kernel, by decide +kernel⟩
/-! ### a loop over enumerate of a list that stands -/
theorem for_enumL {K : PySem.W.Frag} {a : Addr} {xs : List V} {g : TG} {tb : TS} {D : Ends} {σ : L2.St} {H : Hp} (Pv : Nat → L2.St → Hp → Prop) (h0 : Pv 0 σ H) (hq : ∀ i σ H, Pv i σ H → SqL K H a xs)
    (hs : ∀ (i : Nat) (x : V) (T : Addr) (σ : L2.St) (H : Hp), xs[i]? = some x → Pv i σ H → H T = none → g (.ref T) σ (upd H T (.tup [.int (i : Nat), x])) fun σ2 H2 => tb { D with nx := Pv (i + 1), ct := Pv (i + 1), bk := D.nx } σ2 H2) (hd : ∀ σ H, Pv xs.length σ H → D.nx σ H) :
    ∃ Wz : Nat → Nat → L2.St → Hp → Prop, (∃ m, Wz 0 m σ H) ∧ ∀ i m σ H, Wz i m σ H →
      ((Ite K a).stop i H ∧ D.nx σ H) ∨ ((Ite K a).go i H ∧ ∃ Go : L2.St → Hp → Prop, (∀ σ' H', Go σ' H' → ∃ m1, m1 < m ∧ Wz (i + 1) m1 σ' H') ∧ ∀ v H', (Ite K a).yld i H v H' → g v σ H' fun σ2 H2 => tb { D with nx := Go, ct := Go, bk := D.nx } σ2 H2) := by
  refine ⟨fun i m σ H => m = xs.length - i ∧ i ≤ xs.length ∧ Pv i σ H, ⟨xs.length, rfl, Nat.zero_le _, h0⟩, ?_⟩
  rintro i m σ H ⟨rfl, hi, pi0⟩
  have qx := hq i σ H pi0
  by_cases lt1 : i < xs.length
  · have gx : xs[i]? = some xs[i] := List.getElem?_eq_getElem lt1
    refine .inr ⟨⟨xs, _, qx, gx⟩, Pv (i + 1), fun σ' H' p' => ⟨xs.length - (i + 1), by omega, rfl, lt1, p'⟩, fun v H' y => ?_⟩
    obtain ⟨T, x', rfl, hT, rfl, f1⟩ := y
    exact hs i x' T σ H (f1 xs qx) pi0 hT
  · have eqi : i = xs.length := by omega
    subst eqi
    exact .inl ⟨⟨xs, qx, Nat.le_refl _⟩, hd σ H pi0⟩
def dps (i : Nat) : PyData := .list ((List.range 12).map fun j => .bool (decide (j = i)))
theorem dps_shaped : ∀ i : Nat, i < 12 → SeqAt.shaped (dps i) = true := by decide +kernel
theorem dps_eqv : ∀ i : Nat, i < 12 → PyData.eqv (dps i) (dps i) = true := by decide +kernel
theorem dps_all {K : PySem.W.Frag} {H : Hp} {i : Nat} : ∀ l : List Nat, DpAll K H (l.map fun j => V.bl (decide (j = i))) (l.map fun j => PyData.bool (decide (j = i)))
  | [] => .nil
  | _ :: l => .cons (.bl _) (dps_all l)
theorem dps_of {K : PySem.W.Frag} {H : Hp} {i : Nat} {p : Addr} (h : H p = some (.lst (bools i))) : Dp K H (.ref p) (dps i) := .lst (SqL.of h) (dps_all _)
theorem dec_ij {i j : Nat} : decide (V.int (0 + (j : Int)) = V.int (i : Nat)) = decide (j = i) := by
  by_cases e : j = i
  · subst e
    rw [decide_eq_true rfl, decide_eq_true (by rw [Int.zero_add])]
  · rw [decide_eq_false e, decide_eq_false (fun z => e (by have := V.int.inj z; omega))]
theorem due_alike {H : Hp} {x u v : V} {t1 t2 t3 : Addr} {m : Nat} (ax : Alike H 3 x x) (h1 : H t1 = some (.tup [.str "tree", x])) (h2 : H t2 = some (.tup [.str "other", .bl false, .bl true])) (h3 : H t3 = some (.tup [.str "other", .bl true, .bl true]))
    (hu : Due H x m u) (hv : [V.ref t1, .ref t2, .ref t3, .str "none"][m]? = some v) : Alike H 4 u v := by
  have fl : ∀ {t t' : Addr} {xs : List V}, H t = some (.tup xs) → H t' = some (.tup xs) → xs.length ≤ 100 → (∀ z ∈ xs, Alike H 3 z z) → Alike H 4 (.ref t) (.ref t') := fun {t t' xs} e e' l q =>
    .inr ⟨t, t', xs, xs, rfl, rfl, .inl ⟨e, e'⟩, l, rfl, fun i u v h1 h2 => by
      rw [h1] at h2
      cases h2
      exact q u (List.mem_of_getElem? h1)⟩
  match m, hu, hv with
  | 0, ⟨t, e, h⟩, hv =>
    subst e
    have ev : V.ref t1 = v := Option.some.inj hv
    rw [← ev]
    refine fl h h1 (by show 2 ≤ 100; decide) fun z hz => ?_
    rcases List.mem_cons.mp hz with e | hz
    · rw [e]
      exact Alike.flat rfl
    · rw [List.mem_singleton] at hz
      rw [hz]
      exact ax
  | 1, ⟨t, e, h⟩, hv =>
    subst e
    have ev : V.ref t2 = v := Option.some.inj hv
    rw [← ev]
    refine fl h h2 (by show 3 ≤ 100; decide) fun z hz => Alike.flat ?_
    revert z
    decide +kernel
  | 2, ⟨t, e, h⟩, hv =>
    subst e
    have ev : V.ref t3 = v := Option.some.inj hv
    rw [← ev]
    refine fl h h3 (by show 3 ≤ 100; decide) fun z hz => Alike.flat ?_
    revert z
    decide +kernel
  | 3, e, hv =>
    have e' : u = .str "none" := e
    have ev : V.str "none" = v := Option.some.inj hv
    rw [e', ← ev]
    exact Alike.flat rfl
  | m + 4, _, hv => simp at hv
section
variable {P : Program} {w : World} {K : PySem.W.Frag} {mg : Str → Option Value} {base : Heap}
def spLaw (K : PySem.W.Frag) : Sp := fun vs H Q _ => ∃ (a : Addr) (ns : List Int), vs = [.ref a] ∧ SqL K H a (ns.map V.int) ∧ ns.length ≤ 63 ∧ ∀ H', Q (.bl true) H'
/-- a def that the law calls -/
structure Cal (P : Program) (w : World) (K : PySem.W.Frag) (mg : Str → Option Value) (base : Heap) (x : Str) (k : Nat) (f : Addr) (fd : FuncData) (ps : List Str) (ds : List Value) (sp : Sp) : Prop where
  G : FnOk P w K mg base CX0 k f fd ps sp
  m : mg x = some (.ref f)
  k : PySem.W.keepIn K (.ref f) = true
  b : Binds K fd ps ds
structure TL (mg : Str → Option Value) : Prop where
  mr : mg "range" = none
  mx : mg "max" = none
  mm : mg "min" = none
  ml : mg "len" = none
  me : mg "enumerate" = none
  mi : mg "isinstance" = none
  mv : mg "ValueError" = none
/-- every class stands under SaidError and ValueError -/
structure Ups (K : PySem.W.Frag) (S : Addr) (Cs : List Addr) : Prop where
  s : ∀ (i : Nat) (C : Addr), Cs[i]? = some C → PySem.W.kitOne K (.ref C) (.ref S) = some true
  v : ∀ (i : Nat) (C : Addr), Cs[i]? = some C → PySem.W.kitOne K (.ref C) (.type "ValueError") = some true
theorem ok_law {f fF fA fM fS fO fR S : Addr} {fd dF dA dM dS dO dR : FuncData} {dv : List Value} {Cs : List Addr} (F : Fun K "law" "law" sLaw f fd) (T : TL mg) (mS : mg "SaidError" = some (.ref S))
    (CF : Cal P w K mg base "_law_feed_of" 1 fF dF ["_law_script", "_law_k"] [] (spFeed K)) (CA : Cal P w K mg base "_law_any_value" 6 fA dA ["_law_feed", "_law_deep"] dv (spAny 4)) (hdv : Vals [.int 3] dv)
    (CM : Cal P w K mg base "_law_made" 3 fM dM ["_law_a", "_law_b"] [] (spMade Cs)) (CS : Cal P w K mg base "_law_same" 6 fS dS ["_law_found", "_law_due"] [] (spSame 6))
    (CO : Cal P w K mg base "_law_sorts" 1 fO dO ["_law_e"] [] (spSorts Cs)) (CR : Cal P w K mg base "_law_raised" 3 fR dR ["_law_form", "_law_a"] [] spRaised) (KT : Kits K Cs) (U : Ups K S Cs) (hCs : Cs.length = 12) :
    FnOk P w K mg base CX0 7 f fd ["_law_script"] (spLaw K) := by
  refine F.ok scL (fun vs H Q E h => ?_) (fun cdv A outer s H vs Q E hr h => ?_)
  · obtain ⟨a, ns, rfl, _⟩ := h
    rfl
  · obtain ⟨a, ns, rfl, hS, hlen, q⟩ := h
    have hr1 : Room 1 _ := hr.mono (by decide)
    have hr3 : Room 3 _ := hr.mono (by decide)
    refine ⟨_, pss_cons (ps_for PassesOwn.never rfl (pi_range1 rfl T.mr (pa_cons (pe_callB (call_max2 rfl) (by rfl) T.mx (by decide +kernel) (pa_cons pe_int (pa_cons (pe_callB (call_min2 rfl) (by rfl) T.mm (by decide +kernel)
          (pa_cons pe_int (pa_cons (pe_callB call_len_seq rfl T.ml PySem.boot_len (pa_cons (pv 0) pa_nil)) pa_nil))) pa_nil))) pa_nil)) (pg_name (i := 1) scL.nd rfl (.inl rfl))
        (pss_cons (ps_set (i := 2) scL.nd rfl (.inl rfl) (pe_call CF.G hr1 rfl CF.m CF.k CF.b .nil pass0 (pa_cons (pv 0) (pa_cons (pv 1) pa_nil))))
        (pss_cons (ps_asg (pe_tup (pa_cons (pe_call CA.G hr rfl CA.m CA.k CA.b hdv pass0 (pa_cons (pv 2) pa_nil)) (pa_cons (pe_call CA.G hr rfl CA.m CA.k CA.b hdv pass0 (pa_cons (pv 2) pa_nil)) pa_nil)))
          (pg_tup rfl (pgs_cons (pg_name (i := 3) scL.nd rfl (.inr rfl)) (pgs_cons (pg_name (i := 4) scL.nd rfl (.inl rfl)) pgs_nil))))
        (pss_cons (ps_for PassesOwn.never rfl (pi_enum (by rfl) T.me (pa_cons (pe_call CM.G hr3 rfl CM.m CM.k CM.b .nil pass0 (pa_cons (pv 3) (pa_cons (pv 4) pa_nil))) pa_nil))
            (pg_tup rfl (pgs_cons (pg_name (i := 5) scL.nd rfl (.inr rfl)) (pgs_cons (pg_tup rfl (pgs_cons (pg_name (i := 6) scL.nd rfl (.inl rfl)) (pgs_cons (pg_name (i := 7) scL.nd rfl (.inl rfl)) (pgs_cons (pg_name (i := 8) scL.nd rfl (.inl rfl)) pgs_nil)))) pgs_nil)))
            (pss_cons (ps_if (PW.pt (pw_or (pt_not (pt_val (pe_call CS.G hr rfl CS.m CS.k CS.b .nil pass0 (pa_cons (pv 7) (pa_cons (pv 8) pa_nil)))))
                (pw_or1 (pt_cmpR (op_neD hr.units) (pe_call CO.G hr1 rfl CO.m CO.k CO.b .nil pass0 (pa_cons (pv 6) pa_nil))
                  (pe_lc (own := [("_law_at", 9)]) (g := gName 9) (tt := tYes) rfl scL.nd (pi_range1 rfl T.mr (pa_cons pe_int pa_nil)) (blkOk_by (N := nLaw) (sc := defScope sLaw) (by decide +kernel))
                    (fun _ _ _ _ _ => pg_name (i := 9) scL.nd rfl (Or.inl rfl)) (fun _ _ _ _ _ => pts_nil) (fun _ _ _ _ _ => pe_cmpR op_eq (pv 9) (pv 5) (nomark _))) (nomark _)))))
                (pss_one (ps_ret pe_bl)) pss_nil)
            (pss_one (ps_if (PW.pt (pw_or (pt_not (pt_val (pe_callB call_isX (by rfl) T.mi (by decide +kernel) (pa_cons (pv 6) (pa_cons (pe_glob (v := .ref S) rfl mS rfl) pa_nil)))))
                (pw_or1 (pt_not (pt_val (pe_callB call_isX (by rfl) T.mi (by decide +kernel) (pa_cons (pv 6) (pa_cons (pe_bltn (v := .ty "ValueError") (by rfl) T.mv (by decide +kernel) rfl) pa_nil))))))))
                (pss_one (ps_ret pe_bl)) pss_nil))))
        (pss_cons (ps_set (i := 8) scL.nd rfl (.inl rfl) (pe_lst (pa_cons (pe_tup (pa_cons pe_str (pa_cons (pv 3) pa_nil))) (pa_cons (pe_tup (pa_cons pe_str (pa_cons pe_bl (pa_cons pe_bl pa_nil)))) (pa_cons (pe_tup (pa_cons pe_str (pa_cons pe_bl (pa_cons pe_bl pa_nil)))) (pa_cons pe_str pa_nil))))))
        (pss_one (ps_if (pt_not (pt_val (pe_call CS.G hr rfl CS.m CS.k CS.b .nil pass0 (pa_cons
            (pe_lc (own := [("_law_form", 10)]) (g := gName 10) (tt := tYes) rfl scL.nd (pi_range1 rfl T.mr (pa_cons pe_int pa_nil)) (blkOk_by (N := nLaw) (sc := defScope sLaw) (by decide +kernel))
              (fun _ _ _ _ _ => pg_name (i := 10) scL.nd rfl (Or.inl rfl)) (fun _ _ _ _ _ => pts_nil) (fun _ _ _ _ _ => pe_call CR.G hr3 rfl CR.m CR.k CR.b .nil pass0 (pa_cons (pv 10) (pa_cons (pv 3) pa_nil)))) (pa_cons (pv 8) pa_nil)))))
            (pss_one (ps_ret pe_bl)) pss_nil)))))))
      (pss_one (ps_ret pe_bl)), ?_⟩
    have hS' : SqL K H a (ns.map V.int) := hS
    refine ⟨_, rfl, a, _, rfl, .inl hS, _, _, rfl, _, _, rfl, _, rfl, ?_, ?_, for_range (lo := 0) (fun i σ H' => ∃ v1 v2 v3 v4 v5 v6 v7 v8 v9 v10 : Option V, σ = [some (.ref a), v1, v2, v3, v4, v5, v6, v7, v8, v9, v10] ∧ Same H H')
      ⟨none, none, none, none, none, none, none, none, none, none, rfl, Same.refl _⟩ ?_ ?_⟩
    · split <;> (try split) <;> omega
    · split <;> (try split) <;> omega
    · rintro i σ H1 hi ⟨v1, v2, v3, v4, v5, v6, v7, v8, v9, v10, rfl, s1⟩
      -- the feed
      refine ⟨_, rfl, _, rfl, a, ns, i, ?_, s1.seq hS, hlen, fun f g m nf => ?_⟩
      · show [V.ref a, V.int (0 + (i : Int))] ++ [] = _
        rw [Int.zero_add]
        rfl
      have s2 : Same H1 (upd H1 f (.lst [.int g, .int m])) := same_new nf
      have hf2 : (upd H1 f (.lst [.int g, .int m])) f = some (.lst [.int g, .int m]) := upd_same
      generalize upd H1 f (.lst [.int g, .int m]) = H2 at s2 hf2 ⊢
      -- the two values
      refine ⟨_, rfl, f, g, m, 3, rfl, hf2, by decide, fun x H3 g3 m3 b3 hf3 dx => ?_⟩
      refine ⟨_, rfl, f, g3, m3, 3, rfl, hf3, by decide, fun y H4 g4 m4 b4 hf4 dy => ?_⟩
      have dx4 : Dn (fun a => H2 a = none) H4 3 x := dx.mono (fun _ z => z) fun c o n e => b4 c o (fun z => by rw [z, hf2] at n; cases n) e
      refine ⟨(by show 2 ≤ sizeLine; decide), fun p np => ?_⟩
      have s5 : Same H4 (upd H4 p (.tup [x, y])) := same_new np
      refine ⟨p, _, rfl, SqT.of upd_same, rfl, _, _, rfl, _, _, rfl, rfl, ?_⟩
      generalize upd H4 p (.tup [x, y]) = H5 at s5 ⊢
      have ax : Alike H5 3 x x := dx4.alike.mono s5
      have ay : Alike H5 3 y y := dy.alike.mono s5
      have t5 : Same H H5 := fun b o e => by
        have e1 := s1 b o e
        have nb : b ≠ f := ne_of_none e1 nf
        exact s5 _ _ (b4 _ _ nb (b3 _ _ nb (s2 _ _ e1)))
      clear dx dx4 dy b3 b4 hf2 hf3 hf4 s2 s5 s1 np
      -- the errors
      refine ⟨_, rfl, _, rfl, x, y, rfl, fun L H6 ts s6 hL hR => ⟨L, ts, rfl, SqL.of hL, ?_⟩⟩
      refine for_enumL (fun i2 σ H7 => ∃ w5 w6 w7 w8 : Option V, σ = [some (.ref a), some (.int (0 + (i : Int))), some (.ref f), some x, some y, w5, w6, w7, w8, v9, v10] ∧ Same H6 H7)
        ⟨v5, v6, v7, v8, rfl, Same.refl _⟩ (fun i2 σ H7 ⟨_, _, _, _, _, s7⟩ => SqL.of (s7 _ _ hL)) ?_ ?_
      · rintro i2 tv T2 σ H7 hi2 ⟨w5, w6, w7, w8, rfl, s7⟩ nT
        obtain ⟨t, C, rfl, hC, hrow⟩ := hR.get hi2
        have i12 : i2 < 12 := by
          have := (List.getElem?_eq_some_iff.mp hC).1
          omega
        have s8 : Same H7 (upd H7 T2 (.tup [.int (i2 : Nat), .ref t])) := same_new nT
        have row8 := hrow.mono (s7.trans s8)
        obtain ⟨e, k, d, ks, ht, he, hk, hd, lks, hks⟩ := row8
        refine ⟨T2, _, rfl, SqT.of upd_same, rfl, _, _, rfl, _, _, rfl, t, _, rfl, SqT.of ht, rfl, _, _, rfl, _, _, rfl, _, _, rfl, rfl, rfl, ?_⟩
        generalize upd H7 T2 (.tup [.int (i2 : Nat), .ref t]) = H8 at s8 ht he hk hd ⊢
        have t8 : Same H5 H8 := s6.trans (s7.trans s8)
        have al : Alike H8 4 (.ref k) (.ref d) := .inr ⟨k, d, ks, ks, rfl, rfl, .inr ⟨hk, hd⟩, by omega, rfl, fun j u v h1 h2 => by
          rw [h1] at h2
          cases h2
          rcases hks u (List.mem_of_getElem? h1) with z | z
          · rw [z]
            exact ax.mono t8
          · rw [z]
            exact ay.mono t8⟩
        refine ⟨_, rfl, _, rfl, _, _, 4, rfl, by decide, al, fun H9 s9 => ⟨true, rfl, itF rfl ?_⟩⟩
        have he9 := he.mono s9
        refine ⟨_, rfl, e, C, i2, rfl, hC, he9, fun pp H10 s10 hpp => ?_⟩
        refine ⟨_, rfl, by decide, by decide, fun D9 nD => ?_⟩
        refine lc_range (lo := 0) (n := 12) (fun j H11 => Same H10 H11 ∧ H11 D9 = some (.lst ((List.range j).map fun z => V.bl (decide (z = i2))))) ⟨same_new nD, upd_same⟩ ?_ ?_
        · rintro j H11 hj ⟨s11, eD⟩
          refine ⟨rfl, ?_⟩
          dsimp only [tYes]
          refine iteT ?_
          refine ⟨_, rfl, _, rfl, rfl, _, eD, ?_, fun b o e => ?_, ?_⟩
          · rw [List.length_map, List.length_range]
            exact small1000 (by omega)
          · by_cases hb : b = D9
            · rw [hb, nD] at e
              cases e
            · rw [upd_ne hb]
              exact s11 _ _ e
          · rw [upd_same, List.range_succ, List.map_append]
            show some (HO.lst (_ ++ [V.bl (decide (V.int (0 + (j : Int)) = V.int (i2 : Nat)))])) = _
            rw [dec_ij]
            rfl
        · rintro H11 ⟨s11, eD⟩
          refine ⟨dps i2, dps i2, dps_of (s11 _ _ hpp), dps_of eD, dps_shaped i2 i12, dps_shaped i2 i12, false, ?_, itF rfl ?_⟩
          · rw [dps_eqv i2 i12]
            rfl
          have he11 := he9.mono (s10.trans s11)
          refine ⟨_, rfl, e, C, _, _, _, rfl, .own _, KT.exc i2 C hC, he11, U.s i2 C hC, true, rfl, itF rfl ?_⟩
          refine ⟨_, rfl, e, C, _, _, _, rfl, .ty _, KT.exc i2 C hC, he11, U.v i2 C hC, true, rfl, itF rfl ?_⟩
          exact ⟨_, _, _, _, rfl, s7.trans (s8.trans (s9.trans (s10.trans s11)))⟩
      · rintro σ H7 ⟨w5, w6, w7, w8, rfl, s7⟩
        have ax7 := ax.mono (s6.trans s7)
        -- what is due
        refine ⟨_, rfl, (by show 2 ≤ sizeLine; decide), fun t1 n1 => ?_⟩
        refine ⟨(by show 3 ≤ sizeLine; decide), fun t2 n2 => ?_⟩
        refine ⟨(by show 3 ≤ sizeLine; decide), fun t3 n3 => ?_⟩
        refine ⟨(by show 4 ≤ sizeLine; decide), fun l nl => ?_⟩
        have u1 := same_new (o := .tup [.str "tree", x]) n1
        have u2 := same_new (o := .tup [.str "other", .bl false, .bl true]) n2
        have u3 := same_new (o := .tup [.str "other", .bl true, .bl true]) n3
        have u4 := same_new (o := .lst [.ref t1, .ref t2, .ref t3, .str "none"]) nl
        have h1 := u4 _ _ (u3 _ _ (u2 _ _ (upd_same (H := H7) (a := t1) (o := .tup [.str "tree", x]))))
        have h2 := u4 _ _ (u3 _ _ (upd_same (H := upd H7 t1 (.tup [.str "tree", x])) (a := t2) (o := .tup [.str "other", .bl false, .bl true])))
        have h3 := u4 _ _ (upd_same (H := upd (upd H7 t1 (.tup [.str "tree", x])) t2 (.tup [.str "other", .bl false, .bl true])) (a := t3) (o := .tup [.str "other", .bl true, .bl true]))
        have h4 : (upd (upd (upd (upd H7 t1 (.tup [.str "tree", x])) t2 (.tup [.str "other", .bl false, .bl true])) t3 (.tup [.str "other", .bl true, .bl true])) l (.lst [.ref t1, .ref t2, .ref t3, .str "none"])) l = some (.lst [.ref t1, .ref t2, .ref t3, .str "none"]) := upd_same
        have u8 := u1.trans (u2.trans (u3.trans u4))
        generalize upd (upd (upd (upd H7 t1 (.tup [.str "tree", x])) t2 (.tup [.str "other", .bl false, .bl true])) t3 (.tup [.str "other", .bl true, .bl true])) l (.lst [.ref t1, .ref t2, .ref t3, .str "none"]) = H8 at h1 h2 h3 h4 u8 ⊢
        have ax8 := ax7.mono u8
        clear u1 u2 u3 u4
        refine ⟨_, rfl, by decide, by decide, fun D nD => ?_⟩
        refine lc_range (lo := 0) (n := 4) (fun j H9 => Same H8 H9 ∧ ∃ acc : List V, H9 D = some (.lst acc) ∧ acc.length = j ∧ ∀ m v, acc[m]? = some v → Due H9 x m v) ⟨same_new nD, [], upd_same, rfl, fun m v z => by simp at z⟩ ?_ ?_
        · rintro j H9 hj ⟨s9, acc, eD, la, hacc⟩
          refine ⟨rfl, ?_⟩
          dsimp only [tYes]
          refine iteT ?_
          refine ⟨_, rfl, _, rfl, j, x, ?_, hj, fun v H10 s10 due => ?_⟩
          · show [V.int (0 + (j : Int)), x] ++ [] = _
            rw [Int.zero_add]
            rfl
          have nd : ∀ b o, H8 b = some o → b ≠ D := fun b o e => ne_of_none e nD
          refine ⟨acc, s10 _ _ eD, small1000 (by omega), fun b o e => by rw [upd_ne (nd b o e)]; exact s10 _ _ (s9 _ _ e), acc ++ [v], upd_same, by rw [List.length_append, la]; rfl, fun m u hm => ?_⟩
          have keep : ∀ {m u}, Due H10 x m u → (∀ t, u = .ref t → t ≠ D) → Due (upd H10 D (.lst (acc ++ [v]))) x m u := fun {m u} dd hne => by
            match m, dd with
            | 0, ⟨t, e, h⟩ => exact ⟨t, e, by rw [upd_ne (hne t e)]; exact h⟩
            | 1, ⟨t, e, h⟩ => exact ⟨t, e, by rw [upd_ne (hne t e)]; exact h⟩
            | 2, ⟨t, e, h⟩ => exact ⟨t, e, by rw [upd_ne (hne t e)]; exact h⟩
            | _ + 3, h => exact h
          have neD : ∀ {m u}, Due H10 x m u → ∀ t, u = .ref t → t ≠ D := fun {m u} dd t e z => by
            subst z
            have eD10 := s10 _ _ eD
            match m, dd with
            | 0, ⟨t', e', h⟩ => rw [e] at e'; cases e'; rw [eD10] at h; cases h
            | 1, ⟨t', e', h⟩ => rw [e] at e'; cases e'; rw [eD10] at h; cases h
            | 2, ⟨t', e', h⟩ => rw [e] at e'; cases e'; rw [eD10] at h; cases h
            | _ + 3, h => have h' : u = V.str "none" := h; rw [e] at h'; cases h'
          by_cases hm2 : m < acc.length
          · rw [List.getElem?_append_left hm2] at hm
            have dd := (hacc m u hm).mono s10
            exact keep dd (neD dd)
          · rw [List.getElem?_append_right (by omega)] at hm
            have em : m = acc.length := by
              have := (List.getElem?_eq_some_iff.mp hm).1
              simp at this
              omega
            subst em
            simp at hm
            rw [← hm]
            have dd : Due H10 x acc.length v := by rw [la]; exact due
            exact keep dd (neD dd)
        · rintro H9 ⟨s9, acc, eD, la, hacc⟩
          refine ⟨_, rfl, .ref D, .ref l, 5, rfl, by decide, .inr ⟨D, l, acc, _, rfl, rfl, .inr ⟨eD, s9 _ _ h4⟩, by omega, la, fun m u v hu hv => ?_⟩, fun H10 s10 => ⟨true, rfl, itF rfl ?_⟩⟩
          · exact due_alike (ax8.mono s9) (s9 _ _ h1) (s9 _ _ h2) (s9 _ _ h3) (hacc m u hu) hv
          · exact ⟨_, _, _, _, _, _, _, _, _, _, rfl, t5.trans (s6.trans (s7.trans (u8.trans (s9.trans s10))))⟩
    · rintro σ H' ⟨v1, v2, v3, v4, v5, v6, v7, v8, v9, v10, rfl, s1⟩
      exact q H'
end
end K01

namespace K01
open PySem PySem.Spec PyProof.Rows L2
abbrev bmS (S : Addr) : List Value := [.ref S, .type "ValueError", .type "Exception", .type "BaseException", .type "object"]
/-- an own class of errors under SaidError, as it stands -/
def Under (K : PySem.W.Frag) (S C : Addr) : Prop := ∃ nm q N bs sn sub ab col dd k0 k1 k2 k3 k5, K.lookup C = some (excClassObj nm q C N bs (bmS S) true sn sub ab col dd k0 k1 k2 k3 k5 "ValueError.__new__")
section
variable {K : PySem.W.Frag} {S C D : Addr}
theorem Under.cls (u : Under K S C) : ∃ cd, PySem.W.clsIn K C = some cd ∧ cd.mro = .ref C :: bmS S ∧ cd.hasDict = true := by
  obtain ⟨nm, q, N, bs, sn, sub, ab, col, dd, k0, k1, k2, k3, k5, h⟩ := u
  refine ⟨_, by unfold PySem.W.clsIn; rw [h] <;> rfl, rfl, rfl⟩
theorem Under.mro (u : Under K S C) (v : Value) : PySem.W.mroIn K C v = some ((Value.ref C :: bmS S).contains v) := by
  obtain ⟨cd, h1, h2, _⟩ := u.cls
  unfold PySem.W.mroIn
  rw [h1, Option.bind_some, h2, if_neg (show ¬ ((Value.ref C :: bmS S).isEmpty = true) from Bool.false_ne_true)]
theorem Under.ty (u : Under K S C) : PySem.W.typeIn K (.ref C) = some (.type "type") := by
  obtain ⟨nm, q, N, bs, sn, sub, ab, col, dd, k0, k1, k2, k3, k5, h⟩ := u
  show (K.lookup C).map (fun x => x.cls) = _
  rw [h] <;> rfl
theorem Under.dict (u : Under K S C) : PySem.W.hasDictIn K C = true := by
  obtain ⟨cd, h1, _, h3⟩ := u.cls
  unfold PySem.W.hasDictIn
  rw [h1]
  exact h3
theorem Under.ref (u : Under K S C) : PySem.W.subIn K (.ref C) (.ref D) = some (decide (D = C) || decide (D = S)) := by
  show PySem.W.mroIn K C (.ref D) = _
  rw [u.mro]
  by_cases e : D = C
  · subst e
    simp
  · by_cases e2 : D = S
    · subst e2
      simp
    · rw [decide_eq_false e, decide_eq_false e2]
      congr 1
      simp only [List.contains_cons, List.contains_nil, Bool.or_false]
      have h1 : (Value.ref D == Value.ref C) = false := beq_eq_false_iff_ne.mpr fun z => e (Value.ref.inj z)
      have h2 : (Value.ref D == Value.ref S) = false := beq_eq_false_iff_ne.mpr fun z => e2 (Value.ref.inj z)
      rw [h1, h2]
      rfl
theorem Under.ve (u : Under K S C) : PySem.W.subIn K (.ref C) (.type "ValueError") = some true := by
  show PySem.W.mroIn K C _ = _
  rw [u.mro] <;> rfl
theorem Under.base (u : Under K S C) : PySem.W.subIn K (.ref C) (.type "BaseException") = some true := by
  show PySem.W.mroIn K C _ = _
  rw [u.mro] <;> rfl
theorem Under.kit (u : Under K S C) (v : Under K S D) (n1 : D ≠ S) : PySem.W.kitOne K (.ref C) (.ref D) = some (decide (D = C)) :=
  kit_own v.dict v.ty (by rw [u.ref, decide_eq_false n1, Bool.or_false]) fun e => decide_eq_true e.symm
theorem Under.exm (u : Under K S C) (v : Under K S D) (n1 : D ≠ S) : PySem.W.exmOne K (.ref C) (.ref D) = some (decide (D = C)) :=
  PySem.W.exm_ref v.base v.dict v.ty (by rw [u.ref, decide_eq_false n1, Bool.or_false])
/-- what is looked up of such a class -/
structure Looked (K : PySem.W.Frag) (C : Addr) : Prop where
  ga : PySem.W.findIn K (.ref C) "__getattribute__" = some (some (.builtin "BaseException.__getattribute__"))
  gg : PySem.W.findIn K (.ref C) "__getattr__" = some none
  gc : PySem.W.findIn K (.ref C) "__class__" = some (some (.builtin "object.__class__"))
theorem Under.exc (u : Under K S C) (l : Looked K C) (hn : PySem.W.specialIn K (.builtin "object.__class__") "__get__" = some (some (.builtin "getset_descriptor.__get__"))) (ht : PySem.W.takesIn K (.builtin "object.__class__") = some true) : ExcC K C :=
  ⟨l.ga, l.gg, u.base, u.dict, l.gc, hn, ht, by rw [u.mro] <;> rfl⟩
theorem Under.fld {f : Str} (u : Under K S C) (l : Looked K C) (hn : PySem.W.specialIn K (.builtin "object.__class__") "__get__" = some (some (.builtin "getset_descriptor.__get__"))) (ht : PySem.W.takesIn K (.builtin "object.__class__") = some true)
    (no : PySem.W.findIn K (.ref C) f = some none) : ExFld K C f := ⟨u.exc l hn ht, no⟩
theorem Under.oex (u : Under K S C) (sa : PySem.W.findIn K (.ref C) "__setattr__" = some (some (.builtin "object.__setattr__"))) (kC : PySem.W.keepIn K (.ref C) = true) : OexC K C := by
  have b := u.base
  have t := u.ty
  obtain ⟨nm, q, N, bs, sn, sub, ab, col, dd, k0, k1, k2, k3, k5, h⟩ := u
  exact ⟨⟨nm, q, N, bs, bmS S, sn, sub, ab, col, dd, k0, k1, k2, k3, k5, h, by first | rfl | decide⟩, sa, b, t, kC⟩
theorem get_of_nodup {Cs : List Addr} (h : Cs.Nodup) {i j : Nat} {C D : Addr} (hi : Cs[i]? = some C) (hj : Cs[j]? = some D) : decide (D = C) = decide (j = i) := by
  by_cases e : j = i
  · subst e
    rw [hi] at hj
    cases hj
    rw [decide_eq_true rfl, decide_eq_true rfl]
  · rw [decide_eq_false e, decide_eq_false]
    intro z
    subst z
    exact e (nd_ix h hj hi)
theorem kits_of {Cs : List Addr} (hu : ∀ C ∈ Cs, Under K S C) (hl : ∀ C ∈ Cs, Looked K C) (hd : (S :: Cs).Nodup) (hn : PySem.W.specialIn K (.builtin "object.__class__") "__get__" = some (some (.builtin "getset_descriptor.__get__")))
    (ht : PySem.W.takesIn K (.builtin "object.__class__") = some true) : Kits K Cs where
  kit := fun i j C D hi hj => by
    have nD : D ≠ S := fun z => (List.nodup_cons.mp hd).1 (by rw [← z]; exact List.mem_of_getElem? hj)
    rw [(hu C (List.mem_of_getElem? hi)).kit (hu D (List.mem_of_getElem? hj)) nD, get_of_nodup (List.nodup_cons.mp hd).2 hi hj]
  exc := fun i C hi => (hu C (List.mem_of_getElem? hi)).exc (hl C (List.mem_of_getElem? hi)) hn ht
theorem ups_of {Cs : List Addr} (hu : ∀ C ∈ Cs, Under K S C) (tS : PySem.W.typeIn K (.ref S) = some (.type "type")) (dS : PySem.W.hasDictIn K S = true) : Ups K S Cs where
  s := fun i C hi => by
    refine kit_own dS tS ?_ fun _ => rfl
    rw [(hu C (List.mem_of_getElem? hi)).ref, decide_eq_true (show S = S from rfl), Bool.or_true]
  v := fun i C hi => kit_ve (hu C (List.mem_of_getElem? hi)).ve
end
end K01

namespace K01
open PySem PySem.Spec PyProof.Rows L2
theorem all_mk {l : PySem.W.OpenLaw} {w : World} {K : PySem.W.Frag} {h : Heap} {mg : Str → Option Value} {fa S c1 i1 c2 i2 c3 i3 c4 i4 c5 i5 c6 i6 c7 i7 c8 c9 ca cb cc fF fD fP fS fM fO fR fL fA TA : Addr} (X : K.In h) (G : h.Ns mainGlobals mg) (hfa : mg "law" = some (.ref fa))
    {nm1 qn1 : Str} {N1 : Addr} {bs1 : List Value} {sn1 : List Str} {sub1 : List Value} {ab1 : Bool} {col1 : Option Bool} {dd1 : Option Addr} {k01 k11 k21 k31 k51 : Option Value}
    {odi1 ani1 : Option Addr} {sli1 : Array (Option Value)} {oci1 kVi1 dci1 pmi1 cdi1 cti1 : Value}
    {nm2 qn2 : Str} {N2 : Addr} {bs2 : List Value} {sn2 : List Str} {sub2 : List Value} {ab2 : Bool} {col2 : Option Bool} {dd2 : Option Addr} {k02 k12 k22 k32 k52 : Option Value}
    {odi2 ani2 : Option Addr} {sli2 : Array (Option Value)} {oci2 kVi2 dci2 pmi2 cdi2 cti2 : Value}
    {nm3 qn3 : Str} {N3 : Addr} {bs3 : List Value} {sn3 : List Str} {sub3 : List Value} {ab3 : Bool} {col3 : Option Bool} {dd3 : Option Addr} {k03 k13 k23 k33 k53 : Option Value}
    {odi3 ani3 : Option Addr} {sli3 : Array (Option Value)} {oci3 kVi3 dci3 pmi3 cdi3 cti3 : Value}
    {nm4 qn4 : Str} {N4 : Addr} {bs4 : List Value} {sn4 : List Str} {sub4 : List Value} {ab4 : Bool} {col4 : Option Bool} {dd4 : Option Addr} {k04 k14 k24 k34 k54 : Option Value}
    {odi4 ani4 : Option Addr} {sli4 : Array (Option Value)} {oci4 kVi4 dci4 pmi4 cdi4 cti4 : Value}
    {nm5 qn5 : Str} {N5 : Addr} {bs5 : List Value} {sn5 : List Str} {sub5 : List Value} {ab5 : Bool} {col5 : Option Bool} {dd5 : Option Addr} {k05 k15 k25 k35 k55 : Option Value}
    {odi5 ani5 : Option Addr} {sli5 : Array (Option Value)} {oci5 kVi5 dci5 pmi5 cdi5 cti5 : Value}
    {nm6 qn6 : Str} {N6 : Addr} {bs6 : List Value} {sn6 : List Str} {sub6 : List Value} {ab6 : Bool} {col6 : Option Bool} {dd6 : Option Addr} {k06 k16 k26 k36 k56 : Option Value}
    {odi6 ani6 : Option Addr} {sli6 : Array (Option Value)} {oci6 kVi6 dci6 pmi6 cdi6 cti6 : Value}
    {nm7 qn7 : Str} {N7 : Addr} {bs7 : List Value} {sn7 : List Str} {sub7 : List Value} {ab7 : Bool} {col7 : Option Bool} {dd7 : Option Addr} {k07 k17 k27 k37 k57 : Option Value}
    {odi7 ani7 : Option Addr} {sli7 : Array (Option Value)} {oci7 kVi7 dci7 pmi7 cdi7 cti7 : Value}
    {nm8 qn8 : Str} {N8 : Addr} {bs8 : List Value} {sn8 : List Str} {sub8 : List Value} {ab8 : Bool} {col8 : Option Bool} {dd8 : Option Addr} {k08 k18 k28 k38 k58 : Option Value}
    {nm9 qn9 : Str} {N9 : Addr} {bs9 : List Value} {sn9 : List Str} {sub9 : List Value} {ab9 : Bool} {col9 : Option Bool} {dd9 : Option Addr} {k09 k19 k29 k39 k59 : Option Value}
    {nma qna : Str} {Na : Addr} {bsa : List Value} {sna : List Str} {suba : List Value} {aba : Bool} {cola : Option Bool} {dda : Option Addr} {k0a k1a k2a k3a k5a : Option Value}
    {nmb qnb : Str} {Nb : Addr} {bsb : List Value} {snb : List Str} {subb : List Value} {abb : Bool} {colb : Option Bool} {ddb : Option Addr} {k0b k1b k2b k3b k5b : Option Value}
    {nmc qnc : Str} {Nc : Addr} {bsc : List Value} {snc : List Str} {subc : List Value} {abc : Bool} {colc : Option Bool} {ddc : Option Addr} {k0c k1c k2c k3c k5c : Option Value}
    {odF anF : Option Addr} {slF : Array (Option Value)} {ocF kVF dcF pmF cdF ctF : Value}
    {odD anD : Option Addr} {slD : Array (Option Value)} {ocD kVD dcD pmD cdD ctD : Value}
    {odP anP : Option Addr} {slP : Array (Option Value)} {ocP kVP dcP pmP cdP ctP : Value}
    {odS anS : Option Addr} {slS : Array (Option Value)} {ocS kVS dcS pmS cdS ctS : Value}
    {odM anM : Option Addr} {slM : Array (Option Value)} {ocM kVM dcM pmM cdM ctM : Value}
    {odO anO : Option Addr} {slO : Array (Option Value)} {ocO kVO dcO pmO cdO ctO : Value}
    {odR anR : Option Addr} {slR : Array (Option Value)} {ocR kVR dcR pmR cdR ctR : Value}
    {odL anL : Option Addr} {slL : Array (Option Value)} {ocL kVL dcL pmL cdL ctL : Value}
    {odA anA : Option Addr} {slA : Array (Option Value)} {ocA kVA dcA pmA cdA ctA : Value}
    {ocT : Value} {odT : Option Addr} {tkT : Tok} {nT : Nat} {slT : Array (Option Value)}
    (gS : PySem.W.nsIn K mainGlobals "SaidError" = some (some (.ref S)))
    (tS : PySem.W.typeIn K (.ref S) = some (.type "type"))
    (dS : PySem.W.hasDictIn K S = true)
    (uS : PySem.W.subIn K (.ref S) (.type "BaseException") = some true)
    (g1 : PySem.W.nsIn K mainGlobals "NoBook" = some (some (.ref c1)))
    (o1 : K.lookup c1 = some (excClassObj nm1 qn1 c1 N1 bs1 (bmS S) true sn1 sub1 ab1 col1 dd1 k01 k11 k21 k31 k51 "ValueError.__new__"))
    (k1 : PySem.W.keepIn K (.ref c1) = true)
    (ga1 : PySem.W.findIn K (.ref c1) "__getattribute__" = some (some (.builtin "BaseException.__getattribute__")))
    (gg1 : PySem.W.findIn K (.ref c1) "__getattr__" = some none)
    (gc1 : PySem.W.findIn K (.ref c1) "__class__" = some (some (.builtin "object.__class__")))
    (sa1 : PySem.W.findIn K (.ref c1) "__setattr__" = some (some (.builtin "object.__setattr__")))
    (ic1 : PySem.W.findIn K (.ref c1) "__init__" = some (some (.ref i1)))
    (ti1 : PySem.W.typeIn K (.ref i1) = some (.type "function"))
    (no10 : PySem.W.findIn K (.ref c1) "row" = some none)
    (no11 : PySem.W.findIn K (.ref c1) "why" = some none)
    (li1 : K.lookup i1 = some ⟨oci1, odi1, .func (PySem.W.fnOf "__init__" "NoBook.__init__" (defArgs (sInit 2)) (defBody (sInit 2)) (defScope (sInit 2)) .none kVi1 dci1 pmi1 ani1 cdi1 cti1), sli1⟩)
    (zi1 : PySem.W.codeIn K cdi1 "NoBook.__init__" = true)
    (yi1 : PySem.W.keepIn K (.ref i1) = true)
    (g2 : PySem.W.nsIn K mainGlobals "NoProgram" = some (some (.ref c2)))
    (o2 : K.lookup c2 = some (excClassObj nm2 qn2 c2 N2 bs2 (bmS S) true sn2 sub2 ab2 col2 dd2 k02 k12 k22 k32 k52 "ValueError.__new__"))
    (k2 : PySem.W.keepIn K (.ref c2) = true)
    (ga2 : PySem.W.findIn K (.ref c2) "__getattribute__" = some (some (.builtin "BaseException.__getattribute__")))
    (gg2 : PySem.W.findIn K (.ref c2) "__getattr__" = some none)
    (gc2 : PySem.W.findIn K (.ref c2) "__class__" = some (some (.builtin "object.__class__")))
    (sa2 : PySem.W.findIn K (.ref c2) "__setattr__" = some (some (.builtin "object.__setattr__")))
    (ic2 : PySem.W.findIn K (.ref c2) "__init__" = some (some (.ref i2)))
    (ti2 : PySem.W.typeIn K (.ref i2) = some (.type "function"))
    (no20 : PySem.W.findIn K (.ref c2) "row" = some none)
    (no21 : PySem.W.findIn K (.ref c2) "why" = some none)
    (li2 : K.lookup i2 = some ⟨oci2, odi2, .func (PySem.W.fnOf "__init__" "NoProgram.__init__" (defArgs (sInit 5)) (defBody (sInit 5)) (defScope (sInit 5)) .none kVi2 dci2 pmi2 ani2 cdi2 cti2), sli2⟩)
    (zi2 : PySem.W.codeIn K cdi2 "NoProgram.__init__" = true)
    (yi2 : PySem.W.keepIn K (.ref i2) = true)
    (g3 : PySem.W.nsIn K mainGlobals "NoText" = some (some (.ref c3)))
    (o3 : K.lookup c3 = some (excClassObj nm3 qn3 c3 N3 bs3 (bmS S) true sn3 sub3 ab3 col3 dd3 k03 k13 k23 k33 k53 "ValueError.__new__"))
    (k3 : PySem.W.keepIn K (.ref c3) = true)
    (ga3 : PySem.W.findIn K (.ref c3) "__getattribute__" = some (some (.builtin "BaseException.__getattribute__")))
    (gg3 : PySem.W.findIn K (.ref c3) "__getattr__" = some none)
    (gc3 : PySem.W.findIn K (.ref c3) "__class__" = some (some (.builtin "object.__class__")))
    (sa3 : PySem.W.findIn K (.ref c3) "__setattr__" = some (some (.builtin "object.__setattr__")))
    (ic3 : PySem.W.findIn K (.ref c3) "__init__" = some (some (.ref i3)))
    (ti3 : PySem.W.typeIn K (.ref i3) = some (.type "function"))
    (no30 : PySem.W.findIn K (.ref c3) "at" = some none)
    (li3 : K.lookup i3 = some ⟨oci3, odi3, .func (PySem.W.fnOf "__init__" "NoText.__init__" (defArgs (sInit 3)) (defBody (sInit 3)) (defScope (sInit 3)) .none kVi3 dci3 pmi3 ani3 cdi3 cti3), sli3⟩)
    (zi3 : PySem.W.codeIn K cdi3 "NoText.__init__" = true)
    (yi3 : PySem.W.keepIn K (.ref i3) = true)
    (g4 : PySem.W.nsIn K mainGlobals "NoTree" = some (some (.ref c4)))
    (o4 : K.lookup c4 = some (excClassObj nm4 qn4 c4 N4 bs4 (bmS S) true sn4 sub4 ab4 col4 dd4 k04 k14 k24 k34 k54 "ValueError.__new__"))
    (k4 : PySem.W.keepIn K (.ref c4) = true)
    (ga4 : PySem.W.findIn K (.ref c4) "__getattribute__" = some (some (.builtin "BaseException.__getattribute__")))
    (gg4 : PySem.W.findIn K (.ref c4) "__getattr__" = some none)
    (gc4 : PySem.W.findIn K (.ref c4) "__class__" = some (some (.builtin "object.__class__")))
    (sa4 : PySem.W.findIn K (.ref c4) "__setattr__" = some (some (.builtin "object.__setattr__")))
    (ic4 : PySem.W.findIn K (.ref c4) "__init__" = some (some (.ref i4)))
    (ti4 : PySem.W.typeIn K (.ref i4) = some (.type "function"))
    (no40 : PySem.W.findIn K (.ref c4) "path" = some none)
    (li4 : K.lookup i4 = some ⟨oci4, odi4, .func (PySem.W.fnOf "__init__" "NoTree.__init__" (defArgs (sInit 4)) (defBody (sInit 4)) (defScope (sInit 4)) .none kVi4 dci4 pmi4 ani4 cdi4 cti4), sli4⟩)
    (zi4 : PySem.W.codeIn K cdi4 "NoTree.__init__" = true)
    (yi4 : PySem.W.keepIn K (.ref i4) = true)
    (g5 : PySem.W.nsIn K mainGlobals "NoKind" = some (some (.ref c5)))
    (o5 : K.lookup c5 = some (excClassObj nm5 qn5 c5 N5 bs5 (bmS S) true sn5 sub5 ab5 col5 dd5 k05 k15 k25 k35 k55 "ValueError.__new__"))
    (k5 : PySem.W.keepIn K (.ref c5) = true)
    (ga5 : PySem.W.findIn K (.ref c5) "__getattribute__" = some (some (.builtin "BaseException.__getattribute__")))
    (gg5 : PySem.W.findIn K (.ref c5) "__getattr__" = some none)
    (gc5 : PySem.W.findIn K (.ref c5) "__class__" = some (some (.builtin "object.__class__")))
    (sa5 : PySem.W.findIn K (.ref c5) "__setattr__" = some (some (.builtin "object.__setattr__")))
    (ic5 : PySem.W.findIn K (.ref c5) "__init__" = some (some (.ref i5)))
    (ti5 : PySem.W.typeIn K (.ref i5) = some (.type "function"))
    (no50 : PySem.W.findIn K (.ref c5) "path" = some none)
    (li5 : K.lookup i5 = some ⟨oci5, odi5, .func (PySem.W.fnOf "__init__" "NoKind.__init__" (defArgs (sInit 7)) (defBody (sInit 7)) (defScope (sInit 7)) .none kVi5 dci5 pmi5 ani5 cdi5 cti5), sli5⟩)
    (zi5 : PySem.W.codeIn K cdi5 "NoKind.__init__" = true)
    (yi5 : PySem.W.keepIn K (.ref i5) = true)
    (g6 : PySem.W.nsIn K mainGlobals "NoPlace" = some (some (.ref c6)))
    (o6 : K.lookup c6 = some (excClassObj nm6 qn6 c6 N6 bs6 (bmS S) true sn6 sub6 ab6 col6 dd6 k06 k16 k26 k36 k56 "ValueError.__new__"))
    (k6 : PySem.W.keepIn K (.ref c6) = true)
    (ga6 : PySem.W.findIn K (.ref c6) "__getattribute__" = some (some (.builtin "BaseException.__getattribute__")))
    (gg6 : PySem.W.findIn K (.ref c6) "__getattr__" = some none)
    (gc6 : PySem.W.findIn K (.ref c6) "__class__" = some (some (.builtin "object.__class__")))
    (sa6 : PySem.W.findIn K (.ref c6) "__setattr__" = some (some (.builtin "object.__setattr__")))
    (ic6 : PySem.W.findIn K (.ref c6) "__init__" = some (some (.ref i6)))
    (ti6 : PySem.W.typeIn K (.ref i6) = some (.type "function"))
    (no60 : PySem.W.findIn K (.ref c6) "path" = some none)
    (li6 : K.lookup i6 = some ⟨oci6, odi6, .func (PySem.W.fnOf "__init__" "NoPlace.__init__" (defArgs (sInit 8)) (defBody (sInit 8)) (defScope (sInit 8)) .none kVi6 dci6 pmi6 ani6 cdi6 cti6), sli6⟩)
    (zi6 : PySem.W.codeIn K cdi6 "NoPlace.__init__" = true)
    (yi6 : PySem.W.keepIn K (.ref i6) = true)
    (g7 : PySem.W.nsIn K mainGlobals "TooMany" = some (some (.ref c7)))
    (o7 : K.lookup c7 = some (excClassObj nm7 qn7 c7 N7 bs7 (bmS S) true sn7 sub7 ab7 col7 dd7 k07 k17 k27 k37 k57 "ValueError.__new__"))
    (k7 : PySem.W.keepIn K (.ref c7) = true)
    (ga7 : PySem.W.findIn K (.ref c7) "__getattribute__" = some (some (.builtin "BaseException.__getattribute__")))
    (gg7 : PySem.W.findIn K (.ref c7) "__getattr__" = some none)
    (gc7 : PySem.W.findIn K (.ref c7) "__class__" = some (some (.builtin "object.__class__")))
    (sa7 : PySem.W.findIn K (.ref c7) "__setattr__" = some (some (.builtin "object.__setattr__")))
    (ic7 : PySem.W.findIn K (.ref c7) "__init__" = some (some (.ref i7)))
    (ti7 : PySem.W.typeIn K (.ref i7) = some (.type "function"))
    (no70 : PySem.W.findIn K (.ref c7) "most" = some none)
    (li7 : K.lookup i7 = some ⟨oci7, odi7, .func (PySem.W.fnOf "__init__" "TooMany.__init__" (defArgs (sInit 9)) (defBody (sInit 9)) (defScope (sInit 9)) .none kVi7 dci7 pmi7 ani7 cdi7 cti7), sli7⟩)
    (zi7 : PySem.W.codeIn K cdi7 "TooMany.__init__" = true)
    (yi7 : PySem.W.keepIn K (.ref i7) = true)
    (g8 : PySem.W.nsIn K mainGlobals "AtEnd" = some (some (.ref c8)))
    (o8 : K.lookup c8 = some (excClassObj nm8 qn8 c8 N8 bs8 (bmS S) true sn8 sub8 ab8 col8 dd8 k08 k18 k28 k38 k58 "ValueError.__new__"))
    (k8 : PySem.W.keepIn K (.ref c8) = true)
    (ga8 : PySem.W.findIn K (.ref c8) "__getattribute__" = some (some (.builtin "BaseException.__getattribute__")))
    (gg8 : PySem.W.findIn K (.ref c8) "__getattr__" = some none)
    (gc8 : PySem.W.findIn K (.ref c8) "__class__" = some (some (.builtin "object.__class__")))
    (q8 : PySem.W.excIn K c8 bmVE "ValueError.__new__" = true)
    (g9 : PySem.W.nsIn K mainGlobals "NoLine" = some (some (.ref c9)))
    (o9 : K.lookup c9 = some (excClassObj nm9 qn9 c9 N9 bs9 (bmS S) true sn9 sub9 ab9 col9 dd9 k09 k19 k29 k39 k59 "ValueError.__new__"))
    (k9 : PySem.W.keepIn K (.ref c9) = true)
    (ga9 : PySem.W.findIn K (.ref c9) "__getattribute__" = some (some (.builtin "BaseException.__getattribute__")))
    (gg9 : PySem.W.findIn K (.ref c9) "__getattr__" = some none)
    (gc9 : PySem.W.findIn K (.ref c9) "__class__" = some (some (.builtin "object.__class__")))
    (q9 : PySem.W.excIn K c9 bmVE "ValueError.__new__" = true)
    (ga : PySem.W.nsIn K mainGlobals "NoRow" = some (some (.ref ca)))
    (oa : K.lookup ca = some (excClassObj nma qna ca Na bsa (bmS S) true sna suba aba cola dda k0a k1a k2a k3a k5a "ValueError.__new__"))
    (ka : PySem.W.keepIn K (.ref ca) = true)
    (gaa : PySem.W.findIn K (.ref ca) "__getattribute__" = some (some (.builtin "BaseException.__getattribute__")))
    (gga : PySem.W.findIn K (.ref ca) "__getattr__" = some none)
    (gca : PySem.W.findIn K (.ref ca) "__class__" = some (some (.builtin "object.__class__")))
    (qa : PySem.W.excIn K ca bmVE "ValueError.__new__" = true)
    (gb : PySem.W.nsIn K mainGlobals "NoRun" = some (some (.ref cb)))
    (ob : K.lookup cb = some (excClassObj nmb qnb cb Nb bsb (bmS S) true snb subb abb colb ddb k0b k1b k2b k3b k5b "ValueError.__new__"))
    (kb : PySem.W.keepIn K (.ref cb) = true)
    (gab : PySem.W.findIn K (.ref cb) "__getattribute__" = some (some (.builtin "BaseException.__getattribute__")))
    (ggb : PySem.W.findIn K (.ref cb) "__getattr__" = some none)
    (gcb : PySem.W.findIn K (.ref cb) "__class__" = some (some (.builtin "object.__class__")))
    (qb : PySem.W.excIn K cb bmVE "ValueError.__new__" = true)
    (gc : PySem.W.nsIn K mainGlobals "NoChange" = some (some (.ref cc)))
    (oc : K.lookup cc = some (excClassObj nmc qnc cc Nc bsc (bmS S) true snc subc abc colc ddc k0c k1c k2c k3c k5c "ValueError.__new__"))
    (kc : PySem.W.keepIn K (.ref cc) = true)
    (gac : PySem.W.findIn K (.ref cc) "__getattribute__" = some (some (.builtin "BaseException.__getattribute__")))
    (ggc : PySem.W.findIn K (.ref cc) "__getattr__" = some none)
    (gcc : PySem.W.findIn K (.ref cc) "__class__" = some (some (.builtin "object.__class__")))
    (qc : PySem.W.excIn K cc bmVE "ValueError.__new__" = true)
    (aF : PySem.W.nsIn K mainGlobals "_law_feed_of" = some (some (.ref fF)))
    (lF : K.lookup fF = some ⟨ocF, odF, .func (PySem.W.fnOf "_law_feed_of" "_law_feed_of" (defArgs sFeed) (defBody sFeed) (defScope sFeed) .none kVF dcF pmF anF cdF ctF), slF⟩)
    (zF : PySem.W.codeIn K cdF "_law_feed_of" = true)
    (yF : PySem.W.keepIn K (.ref fF) = true)
    (aD : PySem.W.nsIn K mainGlobals "_law_draw" = some (some (.ref fD)))
    (lD : K.lookup fD = some ⟨ocD, odD, .func (PySem.W.fnOf "_law_draw" "_law_draw" (defArgs sDraw) (defBody sDraw) (defScope sDraw) .none kVD dcD pmD anD cdD ctD), slD⟩)
    (zD : PySem.W.codeIn K cdD "_law_draw" = true)
    (yD : PySem.W.keepIn K (.ref fD) = true)
    (aP : PySem.W.nsIn K mainGlobals "_law_pick" = some (some (.ref fP)))
    (lP : K.lookup fP = some ⟨ocP, odP, .func (PySem.W.fnOf "_law_pick" "_law_pick" (defArgs sPick) (defBody sPick) (defScope sPick) .none kVP dcP pmP anP cdP ctP), slP⟩)
    (zP : PySem.W.codeIn K cdP "_law_pick" = true)
    (yP : PySem.W.keepIn K (.ref fP) = true)
    (aS : PySem.W.nsIn K mainGlobals "_law_same" = some (some (.ref fS)))
    (lS : K.lookup fS = some ⟨ocS, odS, .func (PySem.W.fnOf "_law_same" "_law_same" (defArgs sSame) (defBody sSame) (defScope sSame) .none kVS dcS pmS anS cdS ctS), slS⟩)
    (zS : PySem.W.codeIn K cdS "_law_same" = true)
    (yS : PySem.W.keepIn K (.ref fS) = true)
    (aM : PySem.W.nsIn K mainGlobals "_law_made" = some (some (.ref fM)))
    (lM : K.lookup fM = some ⟨ocM, odM, .func (PySem.W.fnOf "_law_made" "_law_made" (defArgs sMade) (defBody sMade) (defScope sMade) .none kVM dcM pmM anM cdM ctM), slM⟩)
    (zM : PySem.W.codeIn K cdM "_law_made" = true)
    (yM : PySem.W.keepIn K (.ref fM) = true)
    (aO : PySem.W.nsIn K mainGlobals "_law_sorts" = some (some (.ref fO)))
    (lO : K.lookup fO = some ⟨ocO, odO, .func (PySem.W.fnOf "_law_sorts" "_law_sorts" (defArgs sSorts) (defBody sSorts) (defScope sSorts) .none kVO dcO pmO anO cdO ctO), slO⟩)
    (zO : PySem.W.codeIn K cdO "_law_sorts" = true)
    (yO : PySem.W.keepIn K (.ref fO) = true)
    (aR : PySem.W.nsIn K mainGlobals "_law_raised" = some (some (.ref fR)))
    (lR : K.lookup fR = some ⟨ocR, odR, .func (PySem.W.fnOf "_law_raised" "_law_raised" (defArgs sRaised) (defBody sRaised) (defScope sRaised) .none kVR dcR pmR anR cdR ctR), slR⟩)
    (zR : PySem.W.codeIn K cdR "_law_raised" = true)
    (yR : PySem.W.keepIn K (.ref fR) = true)
    (aL : PySem.W.nsIn K mainGlobals "law" = some (some (.ref fL)))
    (lL : K.lookup fL = some ⟨ocL, odL, .func (PySem.W.fnOf "law" "law" (defArgs sLaw) (defBody sLaw) (defScope sLaw) .none kVL dcL pmL anL cdL ctL), slL⟩)
    (zL : PySem.W.codeIn K cdL "law" = true)
    (yL : PySem.W.keepIn K (.ref fL) = true)
    (aA : PySem.W.nsIn K mainGlobals "_law_any_value" = some (some (.ref fA)))
    (lA : K.lookup fA = some ⟨ocA, odA, .func (PySem.W.fnOf "_law_any_value" "_law_any_value" (defArgs sAny) (defBody sAny) (defScope sAny) (.ref TA) kVA dcA pmA anA cdA ctA), slA⟩)
    (zA : PySem.W.codeIn K cdA "_law_any_value" = true)
    (yA : PySem.W.keepIn K (.ref fA) = true)
    (lT : K.lookup TA = some ⟨ocT, odT, .seq ([Value.int 3 tkT] : List Value).toArray nT, slT⟩)
    (hn : PySem.W.specialIn K (.builtin "object.__class__") "__get__" = some (some (.builtin "getset_descriptor.__get__")))
    (ht : PySem.W.takesIn K (.builtin "object.__class__") = some true)
    (b_isinstance : PySem.W.nsIn K mainGlobals "isinstance" = some none)
    (b_tuple : PySem.W.nsIn K mainGlobals "tuple" = some none)
    (b_list : PySem.W.nsIn K mainGlobals "list" = some none)
    (b_bool : PySem.W.nsIn K mainGlobals "bool" = some none)
    (b_len : PySem.W.nsIn K mainGlobals "len" = some none)
    (b_all : PySem.W.nsIn K mainGlobals "all" = some none)
    (b_zip : PySem.W.nsIn K mainGlobals "zip" = some none)
    (b_range : PySem.W.nsIn K mainGlobals "range" = some none)
    (b_max : PySem.W.nsIn K mainGlobals "max" = some none)
    (b_min : PySem.W.nsIn K mainGlobals "min" = some none)
    (b_enumerate : PySem.W.nsIn K mainGlobals "enumerate" = some none)
    (b_ValueError : PySem.W.nsIn K mainGlobals "ValueError" = some none)
    (nodup : [S, c1, c2, c3, c4, c5, c6, c7, c8, c9, ca, cb, cc].Nodup)
    : ∃ fd : FuncData, (∀ (s : Shared) (v : Value), BindsTo s fd ⟨[v], []⟩ [("_law_script", v)]) ∧ ∀ base : Heap, K.In base → base.Ns mainGlobals mg → FnOk l.prog w K mg base CX0 7 fa fd ["_law_script"] (spLaw K) := by
  have e := hfa.symm.trans (PySem.W.mg_of X G aL)
  cases e
  have U1 : Under K S c1 := ⟨_, _, _, _, _, _, _, _, _, _, _, _, _, _, o1⟩
  have L1 : Looked K c1 := ⟨ga1, gg1, gc1⟩
  have U2 : Under K S c2 := ⟨_, _, _, _, _, _, _, _, _, _, _, _, _, _, o2⟩
  have L2 : Looked K c2 := ⟨ga2, gg2, gc2⟩
  have U3 : Under K S c3 := ⟨_, _, _, _, _, _, _, _, _, _, _, _, _, _, o3⟩
  have L3 : Looked K c3 := ⟨ga3, gg3, gc3⟩
  have U4 : Under K S c4 := ⟨_, _, _, _, _, _, _, _, _, _, _, _, _, _, o4⟩
  have L4 : Looked K c4 := ⟨ga4, gg4, gc4⟩
  have U5 : Under K S c5 := ⟨_, _, _, _, _, _, _, _, _, _, _, _, _, _, o5⟩
  have L5 : Looked K c5 := ⟨ga5, gg5, gc5⟩
  have U6 : Under K S c6 := ⟨_, _, _, _, _, _, _, _, _, _, _, _, _, _, o6⟩
  have L6 : Looked K c6 := ⟨ga6, gg6, gc6⟩
  have U7 : Under K S c7 := ⟨_, _, _, _, _, _, _, _, _, _, _, _, _, _, o7⟩
  have L7 : Looked K c7 := ⟨ga7, gg7, gc7⟩
  have U8 : Under K S c8 := ⟨_, _, _, _, _, _, _, _, _, _, _, _, _, _, o8⟩
  have L8 : Looked K c8 := ⟨ga8, gg8, gc8⟩
  have U9 : Under K S c9 := ⟨_, _, _, _, _, _, _, _, _, _, _, _, _, _, o9⟩
  have L9 : Looked K c9 := ⟨ga9, gg9, gc9⟩
  have Ua : Under K S ca := ⟨_, _, _, _, _, _, _, _, _, _, _, _, _, _, oa⟩
  have La : Looked K ca := ⟨gaa, gga, gca⟩
  have Ub : Under K S cb := ⟨_, _, _, _, _, _, _, _, _, _, _, _, _, _, ob⟩
  have Lb : Looked K cb := ⟨gab, ggb, gcb⟩
  have Uc : Under K S cc := ⟨_, _, _, _, _, _, _, _, _, _, _, _, _, _, oc⟩
  have Lc : Looked K cc := ⟨gac, ggc, gcc⟩
  have I1 := fun_mk (st := sInit 2) li1 zi1 yi1
  have M1 : MkX K c1 i1 := ⟨U1.oex sa1 k1, ic1, ti1⟩
  have I2 := fun_mk (st := sInit 5) li2 zi2 yi2
  have M2 : MkX K c2 i2 := ⟨U2.oex sa2 k2, ic2, ti2⟩
  have I3 := fun_mk (st := sInit 3) li3 zi3 yi3
  have M3 : MkX K c3 i3 := ⟨U3.oex sa3 k3, ic3, ti3⟩
  have I4 := fun_mk (st := sInit 4) li4 zi4 yi4
  have M4 : MkX K c4 i4 := ⟨U4.oex sa4 k4, ic4, ti4⟩
  have I5 := fun_mk (st := sInit 7) li5 zi5 yi5
  have M5 : MkX K c5 i5 := ⟨U5.oex sa5 k5, ic5, ti5⟩
  have I6 := fun_mk (st := sInit 8) li6 zi6 yi6
  have M6 : MkX K c6 i6 := ⟨U6.oex sa6 k6, ic6, ti6⟩
  have I7 := fun_mk (st := sInit 9) li7 zi7 yi7
  have M7 : MkX K c7 i7 := ⟨U7.oex sa7 k7, ic7, ti7⟩
  have FF := fun_mk (st := sFeed) lF zF yF
  have FD := fun_mk (st := sDraw) lD zD yD
  have FP := fun_mk (st := sPick) lP zP yP
  have FS := fun_mk (st := sSame) lS zS yS
  have FM := fun_mk (st := sMade) lM zM yM
  have FO := fun_mk (st := sSorts) lO zO yO
  have FR := fun_mk (st := sRaised) lR zR yR
  have FL := fun_mk (st := sLaw) lL zL yL
  have FA : FunD K "_law_any_value" "_law_any_value" (defArgs sAny) (defBody sAny) (defScope sAny) [.int 3] [] fA (PySem.W.fnOf "_law_any_value" "_law_any_value" (defArgs sAny) (defBody sAny) (defScope sAny) (.ref TA) kVA dcA pmA anA cdA ctA) := ⟨⟨_, _, _, _, _, _, _, _, _, _, rfl, lA, zA, .inr ⟨by simp, TA, _, _, _, rfl, lT, rfl, .cons ⟨_, rfl⟩ .nil⟩, .inl rfl⟩, yA⟩
  have cd : [c1, c2, c3, c4, c5, c6, c7, c8, c9, ca, cb, cc].Nodup := (List.nodup_cons.mp nodup).2
  have hu : ∀ C ∈ [c1, c2, c3, c4, c5, c6, c7, c8, c9, ca, cb, cc], Under K S C := by
    simp only [List.mem_cons, List.not_mem_nil, or_false]
    rintro C (rfl | rfl | rfl | rfl | rfl | rfl | rfl | rfl | rfl | rfl | rfl | rfl) <;> assumption
  have hl : ∀ C ∈ [c1, c2, c3, c4, c5, c6, c7, c8, c9, ca, cb, cc], Looked K C := by
    simp only [List.mem_cons, List.not_mem_nil, or_false]
    rintro C (rfl | rfl | rfl | rfl | rfl | rfl | rfl | rfl | rfl | rfl | rfl | rfl) <;> assumption
  have KT := kits_of hu hl nodup hn ht
  have UP := ups_of hu tS dS
  have m_isinstance := PySem.W.mg_none_of X G b_isinstance
  have m_tuple := PySem.W.mg_none_of X G b_tuple
  have m_list := PySem.W.mg_none_of X G b_list
  have m_bool := PySem.W.mg_none_of X G b_bool
  have m_len := PySem.W.mg_none_of X G b_len
  have m_all := PySem.W.mg_none_of X G b_all
  have m_zip := PySem.W.mg_none_of X G b_zip
  have m_range := PySem.W.mg_none_of X G b_range
  have m_max := PySem.W.mg_none_of X G b_max
  have m_min := PySem.W.mg_none_of X G b_min
  have m_enumerate := PySem.W.mg_none_of X G b_enumerate
  have m_ValueError := PySem.W.mg_none_of X G b_ValueError
  have BF := FF.binds (ps := ["_law_script", "_law_k"]) (fun _ _ _ _ _ _ us hl => match us, hl with | [_, _], _ => rfl)
  have BD := FD.binds (ps := ["_law_feed", "_law_many"]) (fun _ _ _ _ _ _ us hl => match us, hl with | [_, _], _ => rfl)
  have BP := FP.binds (ps := ["_law_feed", "_law_items"]) (fun _ _ _ _ _ _ us hl => match us, hl with | [_, _], _ => rfl)
  have BS := FS.binds (ps := ["_law_found", "_law_due"]) (fun _ _ _ _ _ _ us hl => match us, hl with | [_, _], _ => rfl)
  have BM := FM.binds (ps := ["_law_a", "_law_b"]) (fun _ _ _ _ _ _ us hl => match us, hl with | [_, _], _ => rfl)
  have BO := FO.binds (ps := ["_law_e"]) (fun _ _ _ _ _ _ us hl => match us, hl with | [_], _ => rfl)
  have BR := FR.binds (ps := ["_law_form", "_law_a"]) (fun _ _ _ _ _ _ us hl => match us, hl with | [_, _], _ => rfl)
  have BA2 : Binds K (PySem.W.fnOf "_law_any_value" "_law_any_value" (defArgs sAny) (defBody sAny) (defScope sAny) (.ref TA) kVA dcA pmA anA cdA ctA) ["_law_feed", "_law_deep"] [] := by
    obtain ⟨ds, v, hb⟩ := FA.binds1 (ps := ["_law_feed", "_law_deep"]) 2 1 (by simp) rfl (fun T kV doc pm an cdv ct us its l1 l2 => match us, l1, its, l2 with | [_, _], _, [_], _ => ⟨_, rfl, rfl⟩)
    cases v
    exact hb
  obtain ⟨dv, vdv, BA1⟩ := FA.binds1 (ps := ["_law_feed", "_law_deep"]) 1 0 (by simp) rfl (fun T kV doc pm an cdv ct us its l1 l2 => match us, l1, its, l2 with | [_], _, [_], _ => ⟨_, rfl, rfl⟩)
  have W1 := kbn2 (ps := ["self", "row", "why"]) 3 I1 fun _ _ _ _ _ _ us hl => match us, hl with | [_, _, _], _ => rfl
  have W2 := kbnK (ps := ["self", "row", "why"]) 2 "why" I2 fun _ _ _ _ _ _ us _ hl => match us, hl with | [_, _], _ => rfl
  have W3 := kbn2 (ps := ["self", "at"]) 2 I3 fun _ _ _ _ _ _ us hl => match us, hl with | [_, _], _ => rfl
  have W4 := kbnK (ps := ["self", "path"]) 1 "path" I4 fun _ _ _ _ _ _ us _ hl => match us, hl with | [_], _ => rfl
  have W5 := kbn2 (ps := ["self", "path"]) 2 I5 fun _ _ _ _ _ _ us hl => match us, hl with | [_, _], _ => rfl
  have W6 := kbnK (ps := ["self", "path"]) 1 "path" I6 fun _ _ _ _ _ _ us _ hl => match us, hl with | [_], _ => rfl
  have W7 := kbnK (ps := ["self", "most"]) 1 "most" I7 fun _ _ _ _ _ _ us _ hl => match us, hl with | [_], _ => rfl
  have BI4 := I4.binds (ps := ["self", "path"]) (fun _ _ _ _ _ _ us hl => match us, hl with | [_, _], _ => rfl)
  have BI7 := I7.binds (ps := ["self", "most"]) (fun _ _ _ _ _ _ us hl => match us, hl with | [_, _], _ => rfl)
  refine ⟨PySem.W.fnOf "law" "law" (defArgs sLaw) (defBody sLaw) (defScope sLaw) .none kVL dcL pmL anL cdL ctL, fun s v => .of_eq rfl, fun base _ _ => ?_⟩
  have E1 : EC l.prog w K mg base "NoBook" c1 i1 _ ["self", "row", "why"] f2 2 := ⟨M1, ok_NoBook I1 M1.T no10 no11, PySem.W.mg_of X G g1⟩
  have E2 : EC l.prog w K mg base "NoProgram" c2 i2 _ ["self", "row", "why"] f2 2 := ⟨M2, ok_NoProgram I2 M2.T no20 no21, PySem.W.mg_of X G g2⟩
  have E3 : EC l.prog w K mg base "NoText" c3 i3 _ ["self", "at"] (f1 "at") 1 := ⟨M3, ok_NoText I3 M3.T no30, PySem.W.mg_of X G g3⟩
  have E4 : EC l.prog w K mg base "NoTree" c4 i4 _ ["self", "path"] (f1 "path") 1 := ⟨M4, ok_NoTree I4 M4.T no40, PySem.W.mg_of X G g4⟩
  have E5 : EC l.prog w K mg base "NoKind" c5 i5 _ ["self", "path"] (f1 "path") 1 := ⟨M5, ok_NoKind I5 M5.T no50, PySem.W.mg_of X G g5⟩
  have E6 : EC l.prog w K mg base "NoPlace" c6 i6 _ ["self", "path"] (f1 "path") 1 := ⟨M6, ok_NoPlace I6 M6.T no60, PySem.W.mg_of X G g6⟩
  have E7 : EC l.prog w K mg base "TooMany" c7 i7 _ ["self", "most"] (f1 "most") 1 := ⟨M7, ok_TooMany I7 M7.T no70, PySem.W.mg_of X G g7⟩
  have E8 : EN K mg "AtEnd" c8 := ⟨q8, k8, PySem.W.mg_of X G g8⟩
  have E9 : EN K mg "NoLine" c9 := ⟨q9, k9, PySem.W.mg_of X G g9⟩
  have Ea : EN K mg "NoRow" ca := ⟨qa, ka, PySem.W.mg_of X G ga⟩
  have Eb : EN K mg "NoRun" cb := ⟨qb, kb, PySem.W.mg_of X G gb⟩
  have Ec : EN K mg "NoChange" cc := ⟨qc, kc, PySem.W.mg_of X G gc⟩
  have TMM : TM l.prog w K mg base c1 c2 c3 c4 c5 c6 c7 c8 c9 ca cb cc i1 i2 i3 i4 i5 i6 i7 _ _ _ _ _ _ _ := ⟨E1, E2, E3, E4, E5, E6, E7, W1, W2, W3, W4, W5, W6, W7,
    U1.fld L1 hn ht no10, U1.fld L1 hn ht no11, U2.fld L2 hn ht no20, U2.fld L2 hn ht no21, U3.fld L3 hn ht no30, U4.fld L4 hn ht no40, U5.fld L5 hn ht no50, U6.fld L6 hn ht no60, U7.fld L7 hn ht no70, E8, E9, Ea, Eb, Ec⟩
  have GD := ok_draw (P := l.prog) (w := w) (mg := mg) (base := base) FD
  have mD := PySem.W.mg_of X G aD
  have GP := ok_pick (P := l.prog) (w := w) (base := base) FP GD BD yD mD m_len
  have T1 : TA1 l.prog w K mg base fD fP fA _ _ _ := ⟨GD, BD, yD, mD, GP, BP, yP, PySem.W.mg_of X G aP, BA2, yA, PySem.W.mg_of X G aA, m_tuple, m_range⟩
  have GA := ok_any FA T1 4
  have GS := ok_same (P := l.prog) (w := w) (base := base) FS ⟨m_isinstance, m_tuple, m_list, m_bool, m_len, m_all, m_zip⟩ BS (PySem.W.mg_of X G aS) 6
  have neS : ∀ {C : Addr}, C ∈ [c1, c2, c3, c4, c5, c6, c7, c8, c9, ca, cb, cc] → C ≠ S := fun h z => (List.nodup_cons.mp nodup).1 (by rw [← z]; exact h)
  have xm : ∀ (i j : Nat) (C D : Addr), [c1, c2, c3, c4, c5, c6, c7, c8, c9, ca, cb, cc][i]? = some C → [c1, c2, c3, c4, c5, c6, c7, c8, c9, ca, cb, cc][j]? = some D → PySem.W.exmOne K (.ref C) (.ref D) = some (decide (j = i)) := fun i j C D hi hj => by
    rw [(hu C (List.mem_of_getElem? hi)).exm (hu D (List.mem_of_getElem? hj)) (neS (List.mem_of_getElem? hj)), get_of_nodup cd hi hj]
  have xs : ∀ {C : Addr}, Under K S C → PySem.W.exmOne K (.ref C) (.ref S) = some true := fun u => PySem.W.exm_ref uS dS tS (by rw [u.ref, decide_eq_true (show S = S from rfl), Bool.or_true])
  have RR : TR K mg c4 c7 c8 S _ _ := ⟨PySem.W.mg_of X G gS, m_isinstance, m_ValueError, BI4, BI7, U8.base, U8.ty, xm 3 3 _ _ rfl rfl, xm 6 3 _ _ rfl rfl, xm 7 3 _ _ rfl rfl, xs U7, xs U8, U7.exc L7 hn ht, U8.exc L8 hn ht,
    KT.kit 6 7 _ _ rfl rfl, KT.kit 7 7 _ _ rfl rfl, kit_ve U7.ve, kit_ve U8.ve⟩
  exact ok_law FL ⟨m_range, m_max, m_min, m_len, m_enumerate, m_isinstance, m_ValueError⟩ (PySem.W.mg_of X G gS) ⟨ok_feed FF m_len, PySem.W.mg_of X G aF, yF, BF⟩ ⟨GA, PySem.W.mg_of X G aA, yA, BA1⟩ vdv
    ⟨ok_made FM TMM, PySem.W.mg_of X G aM, yM, BM⟩ ⟨GS, PySem.W.mg_of X G aS, yS, BS⟩ ⟨ok_sorts FO TMM KT m_isinstance, PySem.W.mg_of X G aO, yO, BO⟩ ⟨ok_raised FR TMM RR, PySem.W.mg_of X G aR, yR, BR⟩ KT UP rfl
theorem walk {l : PySem.W.OpenLaw} {q : Program} {loose : List Str} {XP : (Str → Option Value) → Heap → Prop} {YP : World → Heap → Prop} {d : DefRec} {K : Params → PySem.W.Frag} (hn : l.most = some 63) (hdf : d.params.defaults = [])
    (hY : ∀ (w : World) (h : Heap), YP w h → (K w.params).In h)
    (F : ∀ (w : World) (mg : Str → Option Value) (fa : Addr) (h : Heap), (K w.params).In h → h.Ns mainGlobals mg → mg d.name = some (.ref fa) →
      ∃ fd : FuncData, (∀ (s : Shared) (u : Value), BindsTo s fd ⟨[u], []⟩ [("_law_script", u)]) ∧ ∀ base : Heap, (K w.params).In base → base.Ns mainGlobals mg → FnOk l.prog w (K w.params) mg base CX0 7 fa fd ["_law_script"] (spLaw (K w.params))) :
    PySem.W.WalkO q loose XP YP l.row.toRowW d [] (fun f vs => PySem.call f vs) :=
  L2.walk_of (n := 63) (k := 7) (x := "_law_script") (CX := fun _ => CX0) (sp := fun w => spLaw (K w.params)) hn (by decide) hdf ⟨rfl, by decide, by decide⟩ hY F (fun _ _ a ns hl _ hS => ⟨a, ns, rfl, hS, hl, fun _ => rfl⟩) fun _ _ _ _ _ z => z
end K01

open PySem PySem.W PyProof.Rows
set_option maxRecDepth 100000 in
set_option maxHeartbeats 0 in
theorem PySem.Challenge.cw_saidanew_k01_errors_and_their_values_holds : PySem.Challenge.rw_saidanew_k01_errors_and_their_values.Holds := by
  w_on; o_law; k_head; (case hw => w_witness2)
  k_fill
  refine K01.walk (l := PySem.Challenge.rw_saidanew_k01_errors_and_their_values) rfl rfl (fun w h Y => PySem.W.kIn_of Y) ?F
  case F =>
    intro w mg fa h KX G hmg
    refine' K01.all_mk KX G hmg ?gS ?tS ?dS ?uS ?g1 ?o1 ?k1 ?ga1 ?gg1 ?gc1 ?sa1 ?ic1 ?ti1 ?no10 ?no11 ?li1 ?zi1 ?yi1 ?g2 ?o2 ?k2 ?ga2 ?gg2 ?gc2 ?sa2 ?ic2 ?ti2 ?no20 ?no21 ?li2 ?zi2 ?yi2 ?g3 ?o3 ?k3 ?ga3 ?gg3 ?gc3 ?sa3 ?ic3 ?ti3 ?no30 ?li3 ?zi3 ?yi3 ?g4 ?o4 ?k4 ?ga4 ?gg4 ?gc4 ?sa4 ?ic4 ?ti4 ?no40 ?li4 ?zi4 ?yi4 ?g5 ?o5 ?k5 ?ga5 ?gg5 ?gc5 ?sa5 ?ic5 ?ti5 ?no50 ?li5 ?zi5 ?yi5 ?g6 ?o6 ?k6 ?ga6 ?gg6 ?gc6 ?sa6 ?ic6 ?ti6 ?no60 ?li6 ?zi6 ?yi6 ?g7 ?o7 ?k7 ?ga7 ?gg7 ?gc7 ?sa7 ?ic7 ?ti7 ?no70 ?li7 ?zi7 ?yi7 ?g8 ?o8 ?k8 ?ga8 ?gg8 ?gc8 ?q8 ?g9 ?o9 ?k9 ?ga9 ?gg9 ?gc9 ?q9 ?ga ?oa ?ka ?gaa ?gga ?gca ?qa ?gb ?ob ?kb ?gab ?ggb ?gcb ?qb ?gc ?oc ?kc ?gac ?ggc ?gcc ?qc ?aF ?lF ?zF ?yF ?aD ?lD ?zD ?yD ?aP ?lP ?zP ?yP ?aS ?lS ?zS ?yS ?aM ?lM ?zM ?yM ?aO ?lO ?zO ?yO ?aR ?lR ?zR ?yR ?aL ?lL ?zL ?yL ?aA ?lA ?zA ?yA ?lT ?hn ?ht ?b_isinstance ?b_tuple ?b_list ?b_bool ?b_len ?b_all ?b_zip ?b_range ?b_max ?b_min ?b_enumerate ?b_ValueError ?nodup
    (case gS => k_is)
    (case tS => k_is)
    (case dS => k_is)
    (case uS => k_is)
    (case g1 => k_is)
    (case o1 => k_is)
    (case k1 => k_is)
    (case ga1 => k_is)
    (case gg1 => k_is)
    (case gc1 => k_is)
    (case sa1 => k_is)
    (case ic1 => k_is)
    (case ti1 => k_is)
    (case no10 => k_is)
    (case no11 => k_is)
    (case li1 => k_is)
    (case zi1 => k_is)
    (case yi1 => k_is)
    (case g2 => k_is)
    (case o2 => k_is)
    (case k2 => k_is)
    (case ga2 => k_is)
    (case gg2 => k_is)
    (case gc2 => k_is)
    (case sa2 => k_is)
    (case ic2 => k_is)
    (case ti2 => k_is)
    (case no20 => k_is)
    (case no21 => k_is)
    (case li2 => k_is)
    (case zi2 => k_is)
    (case yi2 => k_is)
    (case g3 => k_is)
    (case o3 => k_is)
    (case k3 => k_is)
    (case ga3 => k_is)
    (case gg3 => k_is)
    (case gc3 => k_is)
    (case sa3 => k_is)
    (case ic3 => k_is)
    (case ti3 => k_is)
    (case no30 => k_is)
    (case li3 => k_is)
    (case zi3 => k_is)
    (case yi3 => k_is)
    (case g4 => k_is)
    (case o4 => k_is)
    (case k4 => k_is)
    (case ga4 => k_is)
    (case gg4 => k_is)
    (case gc4 => k_is)
    (case sa4 => k_is)
    (case ic4 => k_is)
    (case ti4 => k_is)
    (case no40 => k_is)
    (case li4 => k_is)
    (case zi4 => k_is)
    (case yi4 => k_is)
    (case g5 => k_is)
    (case o5 => k_is)
    (case k5 => k_is)
    (case ga5 => k_is)
    (case gg5 => k_is)
    (case gc5 => k_is)
    (case sa5 => k_is)
    (case ic5 => k_is)
    (case ti5 => k_is)
    (case no50 => k_is)
    (case li5 => k_is)
    (case zi5 => k_is)
    (case yi5 => k_is)
    (case g6 => k_is)
    (case o6 => k_is)
    (case k6 => k_is)
    (case ga6 => k_is)
    (case gg6 => k_is)
    (case gc6 => k_is)
    (case sa6 => k_is)
    (case ic6 => k_is)
    (case ti6 => k_is)
    (case no60 => k_is)
    (case li6 => k_is)
    (case zi6 => k_is)
    (case yi6 => k_is)
    (case g7 => k_is)
    (case o7 => k_is)
    (case k7 => k_is)
    (case ga7 => k_is)
    (case gg7 => k_is)
    (case gc7 => k_is)
    (case sa7 => k_is)
    (case ic7 => k_is)
    (case ti7 => k_is)
    (case no70 => k_is)
    (case li7 => k_is)
    (case zi7 => k_is)
    (case yi7 => k_is)
    (case g8 => k_is)
    (case o8 => k_is)
    (case k8 => k_is)
    (case ga8 => k_is)
    (case gg8 => k_is)
    (case gc8 => k_is)
    (case q8 => k_exc)
    (case g9 => k_is)
    (case o9 => k_is)
    (case k9 => k_is)
    (case ga9 => k_is)
    (case gg9 => k_is)
    (case gc9 => k_is)
    (case q9 => k_exc)
    (case ga => k_is)
    (case oa => k_is)
    (case ka => k_is)
    (case gaa => k_is)
    (case gga => k_is)
    (case gca => k_is)
    (case qa => k_exc)
    (case gb => k_is)
    (case ob => k_is)
    (case kb => k_is)
    (case gab => k_is)
    (case ggb => k_is)
    (case gcb => k_is)
    (case qb => k_exc)
    (case gc => k_is)
    (case oc => k_is)
    (case kc => k_is)
    (case gac => k_is)
    (case ggc => k_is)
    (case gcc => k_is)
    (case qc => k_exc)
    (case aF => k_is)
    (case lF => k_is)
    (case zF => k_is)
    (case yF => k_is)
    (case aD => k_is)
    (case lD => k_is)
    (case zD => k_is)
    (case yD => k_is)
    (case aP => k_is)
    (case lP => k_is)
    (case zP => k_is)
    (case yP => k_is)
    (case aS => k_is)
    (case lS => k_is)
    (case zS => k_is)
    (case yS => k_is)
    (case aM => k_is)
    (case lM => k_is)
    (case zM => k_is)
    (case yM => k_is)
    (case aO => k_is)
    (case lO => k_is)
    (case zO => k_is)
    (case yO => k_is)
    (case aR => k_is)
    (case lR => k_is)
    (case zR => k_is)
    (case yR => k_is)
    (case aL => k_is)
    (case lL => k_is)
    (case zL => k_is)
    (case yL => k_is)
    (case aA => k_is)
    (case lA => k_is)
    (case zA => k_is)
    (case yA => k_is)
    (case lT => k_is)
    (case hn => k_is)
    (case ht => k_is)
    (case b_isinstance => k_is)
    (case b_tuple => k_is)
    (case b_list => k_is)
    (case b_bool => k_is)
    (case b_len => k_is)
    (case b_all => k_is)
    (case b_zip => k_is)
    (case b_range => k_is)
    (case b_max => k_is)
    (case b_min => k_is)
    (case b_enumerate => k_is)
    (case b_ValueError => k_is)
    (case nodup => decide)
#print axioms PySem.Challenge.cw_saidanew_k01_errors_and_their_values_holds

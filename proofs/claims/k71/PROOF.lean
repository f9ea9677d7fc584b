import PyProof.Rows.All
import Wide.All
import OpenK.AllK
import Wide.FinOn
import HandS.ForMost
import HandS.Exc
import HandS.ExcInit
import HandS.ExcIs
import HandS.IsInst
import HandS.Defaults
import HandS.MakeKw
import HandS.Wide
import KE.KExcIs
import HandS.ExcOwn
import HandS.HeadHook2
import HandS.HeadEnd
import HandS.HeadHook4
import PyProof.ReprRoads
import PyProof.CallFns
import HandS.Head2
import KE.KStateDown
import HandS.More
import HandS.WordsExc
import HandS.Head0
import HandS.Head1
import HandS.HeadHook1
import HandS.HeadHook3
import PySem.Challenge.RW_renamesteps_k71_errors_and_their_values
set_option Elab.async false
set_option linter.all false
set_option maxRecDepth 100000
set_option maxHeartbeats 4000000
/-! errors as values: made by keyword or by position, asked by isinstance -/
namespace PySem
namespace EK
open Builtin Builtin.ObjectAttr PySem.HandSPX
section
variable {M : Model} {A : Around} {E : Value → Shared → Prop}
variable {h : Heap} {g : Array GenState} {d : Drawn} {t : Nat} {os : OsState}
variable {nm q : Str} {C N : Addr} {bs bm bmB : List Value} {hdct : Bool}
variable {sn : List Str} {sub : List Value} {ab : Bool} {col : Option Bool}
variable {dd : Option Addr} {k0 k1 k2 k3 k5 : Option Value} {B newId initId : String}
variable {rest : List Value} {kw : List (Str × Value)}
theorem ek_check (F : ExcBaseFacts B newId initId bmB)
    (hT : ∀ Y : String, bm.contains (.type Y) = bmB.contains (.type Y)) {Q : Unit → Shared → Prop}
    (hC : h.get? C = some (excClassObj nm q C N bs bm hdct sn sub ab col dd k0 k1 k2 k3 k5 newId))
    (hq : Q () ⟨h, g, d, t, os⟩) :
    wpAny M A (checkBuiltinCall newId ⟨.ref C :: rest, kw⟩) Q E ⟨h, g, d, t, os⟩ := by
  have hB : (Value.ref C :: bm).contains (.type B) = true := by
    rw [List.contains_cons, hT, F.hasB, Bool.or_true]
  have hS := F.noStar
  simp only [checkBuiltinCall, F.newKind, F.newSplit, F.newRow]
  repeat (first
    | refine wpAny_loadPart_at hC ?_
    | (refine wpAny_isSubtype_exc hC ?_; rw [hB])
    | refine wpAny_staticBase_exc hC ?_
    | refine wpAny_madeBy_exc hC ?_
    | simp only [bne_self_eq_false, Bool.false_eq_true, if_false]
    | wp_step)
  exact hq
variable {prog : Program} {w : World} {R : Result → Shared → Prop}
theorem ek_new (F : ExcBaseFacts B newId initId bmB)
    (hT : ∀ Y : String, bm.contains (.type Y) = bmB.contains (.type Y))
    (hC : h.get? C = some (excClassObj nm q C N bs bm hdct sn sub ab col dd k0 k1 k2 k3 k5 newId))
    (hq : R (.ok (.ret (.ref (h.objs.size + 1)))) ⟨(h.push (W.kdv_tup rest)).push (excO C h.objs.size), g, d, t, os⟩)
    (hl : rest.length ≤ sizeLine) :
    codeAny (model prog w) A (.builtin newId ⟨.ref C :: rest, kw⟩) R ⟨h, g, d, t, os⟩ := by
  have hE := F.ends
  have hB : (Value.ref C :: bm).contains (.type B) = true := by
    rw [List.contains_cons, hT, F.hasB, Bool.or_true]
  have hA : (Value.ref C :: bm).contains (.type "AttributeError") = false := by
    rw [List.contains_cons, hT, F.noAttr]; rfl
  have hN : (Value.ref C :: bm).contains (.type "NameError") = false := by
    rw [List.contains_cons, hT, F.noName]; rfl
  refine codeAny_builtinAt F.entry ?_
  unfold Builtin.«BaseException.__new__»
  refine wpAt_bind ?_
  show wpAt _ _ _ (stack >>= _) _ _ _
  refine wpAt_bind (wpAt_stack fun _ _ => wpAt_of_wpAny ?_)
  wp_walk
  refine wpAt_of_wpAny ?_
  rw [F.owner]
  repeat (first
    | with_reducible refine wpAny_madeHere_exc F.canon hC ?_
    | with_reducible refine wpAny_loadPart_at hC ?_
    | (with_reducible refine wpAny_isSubtype_exc hC ?_
       first | rw [hB] | rw [hA] | rw [hN])
    | wp_step)
  show R _ _
  rw [Heap.size_push]
  exact hq
theorem ek_type (F : ExcBaseFacts B newId initId bmB)
    (hT : ∀ Y : String, bm.contains (.type Y) = bmB.contains (.type Y)) {fI : Addr} {Q : Fin → Shared → Prop}
    (hC : h.get? C = some (excClassObj nm q C N bs bm hdct sn sub ab col dd k0 k1 k2 k3 k5 newId))
    (hi : W.Looks (model prog w) h (typeLookup (.ref C) "__init__") (some (.ref fI)))
    (hb : ∀ self, W.Looks (model prog w) h (bindSpecial (.ref fI) self) (.ref fI, [self])) (hl : rest.length ≤ sizeLine)
    (hq : codeAny (model prog w) A (.call (.ref fI) ⟨.ref (h.objs.size + 1) :: rest, kw⟩)
      (fun r s' => match r with
        | .ok (.ret v) => v = .none ∧ Q (.done (.ret (.ref (h.objs.size + 1)))) s'
        | .ok _ => False
        | .error e => E e s')
      ⟨(h.push (W.kdv_tup rest)).push (excO C h.objs.size), g, d, t, os⟩) :
    wpAny (model prog w) A (Builtin.«type.__call__» ⟨.ref C :: rest, kw⟩) Q E ⟨h, g, d, t, os⟩ := by
  repeat (first
    | with_reducible refine wpAny_loadPart_at hC ?_
    | with_reducible refine wpAny_madeBy_exc hC ?_
    | wp_step)
  refine codeAny_call_builtin_code (Code.quiet_builtin _ F.quiet) (ek_check F hT hC ?_)
  refine ek_new F hT hC ?_ hl
  show wpAny _ _ _ _ _ _
  have k : ∀ b o, h.get? b = some o → ((h.push (W.kdv_tup rest)).push (excO C h.objs.size)).get? b = some o :=
    fun b o e => Heap.get?_push_of_some _ (Heap.get?_push_of_some _ e)
  have hC1 := k _ _ hC
  have hg1 : ((h.push (W.kdv_tup rest)).push (excO C h.objs.size)).get? (h.objs.size + 1) = some (excO C h.objs.size) := by
    heap_get
  have hc1 : (Value.ref C :: bm).contains (.ref C) = true := by simp
  have i1 := hi.keeps k
  have b1 := (hb (.ref (h.objs.size + 1))).keeps k
  unfold isInstance
  repeat (first
    | with_reducible refine wpAny_loadPart_at hg1 ?_
    | (with_reducible refine wpAny_isSubtype_exc hC1 ?_
       rw [hc1])
    | wp_step)
  show wpAny _ _ (typeLookup (.ref C) _) _ _ _
  refine i1.at ?_
  refine wpAny_holding (wpAny_bind (b1.at ?_))
  refine wpAny_bind (wpAny_call (codeAny_mono hq fun r s' z => ?_))
  rcases r with e | (v | _ | _ | _) <;> first | exact z | exact z.elim | skip
  obtain ⟨rfl, z⟩ := z
  first
    | exact wpAny_pure (wpAny_pure z)
    | (wp_walk; exact z)
theorem ek_call (F : ExcBaseFacts B newId initId bmB)
    (hT : ∀ Y : String, bm.contains (.type Y) = bmB.contains (.type Y)) {fI : Addr}
    (hC : h.get? C = some (excClassObj nm q C N bs bm hdct sn sub ab col dd k0 k1 k2 k3 k5 newId))
    (hi : W.Looks (model prog w) h (typeLookup (.ref C) "__init__") (some (.ref fI)))
    (hb : ∀ self, W.Looks (model prog w) h (bindSpecial (.ref fI) self) (.ref fI, [self])) (hl : rest.length ≤ sizeLine)
    (hq : codeAny (model prog w) (A.under (.builtin "type.__call__" ⟨.ref C :: rest, kw⟩))
      (.call (.ref fI) ⟨.ref (h.objs.size + 1) :: rest, kw⟩) (W.InitBack (h.objs.size + 1) R)
      ⟨(h.push (W.kdv_tup rest)).push (excO C h.objs.size), g, d, t, os⟩) :
    codeAny (model prog w) A (.call (.ref C) ⟨rest, kw⟩) R ⟨h, g, d, t, os⟩ := by
  have f1 := tc_lookup
  have f2 := tc_bind (.ref C)
  have hTy : (⟨h, g, d, t, os⟩ : Shared).TypeIs (.ref C) "type" := ⟨_, hC, rfl⟩
  refine codeAny_of_tree ?_
  show wpAny _ _ (callAny (.ref C) _) _ _ _
  repeat (any_goals (first
    | assumption
    | with_reducible refine wpAny_loadPart_at hC ?_
    | wp_step))
  refine ⟨rfl, ?_⟩
  have typ : W.Looks (model prog w) h (isInstance (.ref C) (.type "type")) true := by
    unfold isInstance
    exact (W.Looks.ld (part := none) hC).andThen (W.Looks.of_pure (by kernel_rfl))
  refine codeAny_call_builtin_at (Code.quiet_builtin _ (by decide +kernel)) entry_typeCall
    (W.check_slot tc_kind tc_split typ (W.tc_args _ _ _) (ek_type F hT hC hi hb hl ?_))
  refine codeAny_mono hq fun r s' z => ?_
  rcases r with e | (v | _ | _ | _) <;> exact z
end
end EK
end PySem
set_option Elab.async false
set_option linter.all false
set_option maxRecDepth 100000
set_option maxHeartbeats 4000000
namespace L2
open PySem PySem.Spec PyProof.Rows
/-! ### what K says of an error's class -/
structure ErrC (K : PySem.W.Frag) (C fI : Addr) : Prop where
  ox : OexC K C
  cl : (PySem.W.clsIn K C).isSome = true
  ga : PySem.W.findIn K (.ref C) "__getattribute__" = some (some (.builtin "BaseException.__getattribute__"))
  gg : PySem.W.findIn K (.ref C) "__getattr__" = some none
  ca : PySem.W.findIn K (.ref C) "__class__" = some (some (.builtin "object.__class__"))
  dn : PySem.W.specialIn K (.builtin "object.__class__") "__get__" = some (some (.builtin "getset_descriptor.__get__"))
  tk : PySem.W.takesIn K (.builtin "object.__class__") = some true
  mo : PySem.W.mroIn K C (.type "object") = some true
  hd : PySem.W.hasDictIn K C = true
  iC : PySem.W.findIn K (.ref C) "__init__" = some (some (.ref fI))
  tI : PySem.W.typeIn K (.ref fI) = some (.type "function")
def ownExcB (K : PySem.W.Frag) (C : Addr) : Bool := match K.lookup C with
  | some ⟨.type "type", _, .cls cd, sl⟩ => (match cd.mro, sl.toList with
    | .ref D :: bm, [_, _, _, _, some (.builtin n), _] =>
      D == C && (n == "ValueError.__new__" && (!cd.hasDel && (cd.hasDict && PySem.HandSPX.refsVE bm)))
    | _, _ => false)
  | _ => false
theorem ownExcB_ok {K : PySem.W.Frag} {C : Addr} (h : ownExcB K C = true) :
    ∃ nm q N bs bm sn sub ab col dd k0 k1 k2 k3 k5,
      K.lookup C = some (excClassObj nm q C N bs bm true sn sub ab col dd k0 k1 k2 k3 k5 "ValueError.__new__") ∧
        PySem.HandSPX.refsVE bm = true := by
  unfold ownExcB at h
  split at h
  · rename_i dd cd sl ho
    split at h
    · rename_i D bm k0 k1 k2 k3 n k5 hm hs
      simp only [Bool.and_eq_true, beq_iff_eq, Bool.not_eq_true'] at h
      obtain ⟨rfl, rfl, hdel, hdc, hv⟩ := h
      obtain ⟨nm, bs, mro, ns, qn, hd, sn, sub, ab, col, del⟩ := cd
      dsimp only at hm hdel hdc
      subst hm hdel hdc
      have e : sl = #[k0, k1, k2, k3, some (.builtin "ValueError.__new__"), k5] := by
        obtain ⟨l⟩ := sl
        simp only at hs
        rw [hs]
      subst e
      exact ⟨nm, qn, ns, bs, bm, sn, sub, ab, col, dd, k0, k1, k2, k3, k5, ho, hv⟩
    · cases h
  · cases h
def eqOO (a b : Option (Option Value)) : Bool := decide (a = b)
def errB (K : PySem.W.Frag) (C fI : Addr) : Bool :=
  ownExcB K C && ((PySem.W.clsIn K C).isSome && (
    eqOO (PySem.W.findIn K (.ref C) "__getattribute__") (some (some (.builtin "BaseException.__getattribute__"))) && (
    eqOO (PySem.W.findIn K (.ref C) "__getattr__") (some none) && (
    eqOO (PySem.W.findIn K (.ref C) "__class__") (some (some (.builtin "object.__class__"))) && (
    eqOO (PySem.W.specialIn K (.builtin "object.__class__") "__get__") (some (some (.builtin "getset_descriptor.__get__"))) && (
    decide (PySem.W.takesIn K (.builtin "object.__class__") = some true) && (
    decide (PySem.W.mroIn K C (.type "object") = some true) && (
    PySem.W.hasDictIn K C && (
    eqOO (PySem.W.findIn K (.ref C) "__init__") (some (some (.ref fI))) && (
    decide (PySem.W.typeIn K (.ref fI) = some (.type "function")) && (
    eqOO (PySem.W.findIn K (.ref C) "__setattr__") (some (some (.builtin "object.__setattr__"))) && (
    decide (PySem.W.subIn K (.ref C) (.type "BaseException") = some true) && (
    decide (PySem.W.typeIn K (.ref C) = some (.type "type")) &&
    PySem.W.keepIn K (.ref C))))))))))))))
theorem errB_ok {K : PySem.W.Frag} {C fI : Addr} (h : errB K C fI = true) : ErrC K C fI := by
  unfold errB eqOO at h
  simp only [Bool.and_eq_true, decide_eq_true_eq] at h
  obtain ⟨h1, h2, h3, h4, h5, h6, h7, h8, h9, h10, h11, h12, h13, h14, h15⟩ := h
  exact ⟨⟨ownExcB_ok h1, h12, h13, h14, h15⟩, h2, h3, h4, h5, h6, h7, h8, h9, h10, h11⟩

/-! ### a new error -/
/-- at a: a new error of the class at C, its dict holding f = v -/
structure NewErr (H H' : Hp) (a C : Addr) (f : Str) (v : V) : Prop where
  new : H a = none
  same : Same H H'
  obj : ∃ d, H' a = some (exo a C (some d)) ∧ H' d = some (exd d [(f, v)])
/-- __init__(self, f): self.f = f -/
def spInit (C : Addr) (f : Str) : Sp := fun vs H Q _ => ∃ (a : Addr) (v : V), vs = [.ref a, v] ∧ H a = some (exo a C none) ∧
  ∀ dx, H dx = none → dx ≠ a → Q .non (upd (upd H dx (exd dx [(f, v)])) a (exo a C (some dx)))
theorem newErr_of {H : Hp} {a C dx : Addr} {f : Str} {v : V} (n : H a = none) (nd : upd H a (exo a C none) dx = none) (ne : dx ≠ a) :
    NewErr H (upd (upd (upd H a (exo a C none)) dx (exd dx [(f, v)])) a (exo a C (some dx))) a C f v := by
  have n2 : H dx = none := by rw [← nd, upd_ne ne]
  refine ⟨n, fun b o e => ?_, dx, upd_same, ?_⟩
  · have h1 : b ≠ a := ne_of_none e n
    have h2 : b ≠ dx := ne_of_none e n2
    rw [upd_ne h1, upd_ne h2, upd_ne h1]
    exact e
  · rw [upd_ne ne, upd_same]
def tErr (C : Addr) (f : Str) (te : TE) : TE := fun σ H Q => tCons te tNil σ H fun vs H1 => ∃ v, vs = [v] ∧
  ∀ a H2, NewErr H1 H2 a C f v → Q (.ref a) H2
section
variable {X : Cx} {x f : Str} {C fI : Addr} {k : Nat} {fd : FuncData} {e : Expr} {te : TE} {p pos kpos : Pos}
theorem err_end {pins : List (Addr × Obj)} {σ : St} {H1 : Hp} {Q : VK} {hp : Heap} {g : Array GenState} {dr : Drawn} {tk : Nat} {os : OsState}
    {v : V} {u : Value} {us : List Value} {kw : List (Str × Value)} (T : ErrC X.K C fI) (F1 : FnOk X.prog X.w X.K X.mg X.base CX0 k fI fd ["self", f] (spInit C f))
    (hr : Room (k + 1) X.A) (I1 : Inv X pins σ H1 ⟨hp, g, dr, tk, os⟩) (ru : RelV v u) (hl : us.length ≤ sizeLine)
    (hb : ∀ (s : Shared) (b : Addr), X.K.In s.heap → BindsTo s fd ⟨.ref b :: us, kw⟩ ((["self", f] : List Str).zip [.ref b, u]))
    (q : ∀ a H2, NewErr H1 H2 a C f v → Q (.ref a) H2) :
    wpAny (model X.prog X.w) X.A (call (.ref C) us kw) (EP X pins σ Q) X.xe ⟨hp, g, dr, tk, os⟩ := by
  obtain ⟨nm, qn, N, bs, bm, sn, sub, ab, col, dd, k0, k1, k2, k3, k5, hC, hbm⟩ := T.ox.cls
  have hsz : hp.objs.size ≤ hp.objs.size + 1 := Nat.le_succ _
  have hn : H1 (hp.objs.size + 1) = none := I1.hok.fresh hsz
  have kk : ∀ b o, hp.get? b = some o →
      ((hp.push (PySem.W.kdv_tup us)).push (PySem.HandSPX.excO C hp.objs.size)).get? b = some o :=
    fun b o z => Heap.get?_push_of_some _ (Heap.get?_push_of_some _ z)
  have hget : ((hp.push (PySem.W.kdv_tup us)).push (PySem.HandSPX.excO C hp.objs.size)).get? (hp.objs.size + 1)
      = some (PySem.HandSPX.excO C hp.objs.size) := by heap_get
  have I2 : Inv X pins σ (upd H1 (hp.objs.size + 1) (exo (hp.objs.size + 1) C none))
      ⟨(hp.push (PySem.W.kdv_tup us)).push (PySem.HandSPX.excO C hp.objs.size), g, dr, tk, os⟩ :=
    I1.laid (t' := tk) (a := hp.objs.size + 1) (o := exo (hp.objs.size + 1) C none)
      (h' := (hp.push (PySem.W.kdv_tup us)).push (PySem.HandSPX.excO C hp.objs.size)) kk hsz (exo_ok hget)
  have r2 : Vals [V.ref (hp.objs.size + 1), v] [Value.ref (hp.objs.size + 1), u] := .cons rfl (.cons ru .nil)
  have hq : spInit C f [V.ref (hp.objs.size + 1), v] (upd H1 (hp.objs.size + 1) (exo (hp.objs.size + 1) C none))
      (fun z H2 => z = .non ∧ Q (.ref (hp.objs.size + 1)) H2) E0 :=
    ⟨_, v, rfl, upd_same, fun dx n ne => ⟨rfl, q _ _ (newErr_of hn n ne)⟩⟩
  refine wpAny_call (PySem.EK.ek_call F.excBase_ValueError (fun Y => PySem.HandSPX.refsVE_contains Y bm hbm) (I1.kIn _ _ hC)
    (PySem.W.looks_findIn I1.kIn T.iC) (fun self => PySem.W.bind_fn I1.kIn self T.tI) hl
    (codeAny_mono (F1.run _ X.stack _ _ ⟨Value.ref (hp.objs.size + 1) :: us, kw⟩ [Value.ref (hp.objs.size + 1), u] _ _ E0
      (hr.make C us kw) (I2.env0.make C us kw) (hb _ _ I2.kIn) r2 hq) fun r s' hq' => ?_))
  cases r with
  | error er => exact False.elim hq'
  | ok fl =>
    cases fl with
    | ret z =>
      obtain ⟨y, H', I3, rv, ev, q3⟩ := I2.after hq'
      subst ev
      exact ⟨rv, ⟨V.ref (hp.objs.size + 1), H', I3, rfl, q3⟩⟩
    | next => exact False.elim hq'
    | brk => exact False.elim hq'
    | cont => exact False.elim hq'
/-- C(f = e) -/
theorem pe_errK (T : ErrC X.K C fI) (F1 : FnOk X.prog X.w X.K X.mg X.base CX0 k fI fd ["self", f] (spInit C f)) (hr : Room (k + 1) X.A)
    (hb : ∀ (s : Shared) (b : Addr) (u : Value), X.K.In s.heap → BindsTo s fd ⟨[.ref b], [(f, u)]⟩ ((["self", f] : List Str).zip [.ref b, u]))
    (hg : Gl X x) (hm : X.mg x = some (.ref C)) (he : PE X e te)
    (hall : (backToKw pos (keywordEach [⟨some f, e, kpos⟩] X.env)).all (·.1.isSome) = true := by rfl)
    (hks : (backToKw pos (keywordEach [⟨some f, e, kpos⟩] X.env)).filterMap (·.1) = [f] := by rfl)
    (hpl : ((backTo pos (starEach [] X.env)).any (·.1) || (backToKw pos (keywordEach [⟨some f, e, kpos⟩] X.env)).any (·.1.isNone)) = false := by rfl)
    (hdb : (x == ("__debug__" : Str)) = false := by decide) :
    PE X (.Call (.Name x p) [] [⟨some f, e, kpos⟩] pos) (tErr C f te) := by
  refine ⟨fun pins s σ H Q I h => ?_⟩
  refine wpAny_Call_Name_kw (ld_glob I hg hm ?_ hdb)
  refine PySem.W.callWith_KW0 (h₀ := X.base) I.ok.mod.kin T.ox.kC hall
    (thn ((pk_cons he pk_nil).run pos pins s σ H _ I h) fun ws s2 ⟨zs, H2, I2, rz, v, ev, q2⟩ => ⟨I2.kIn, ?_⟩) hpl
  subst ev
  rw [hks]
  cases rz with
  | @cons _ u _ us' rv rn =>
    cases rn
    obtain ⟨hp, g, dr, tk, os⟩ := s2
    exact err_end (us := []) (kw := [(f, u)]) T F1 hr I2 rv (Nat.zero_le _) (fun s b X1 => hb s b u X1) q2
/-- C(e) -/
theorem pe_errP (T : ErrC X.K C fI) (F1 : FnOk X.prog X.w X.K X.mg X.base CX0 k fI fd ["self", f] (spInit C f)) (hr : Room (k + 1) X.A)
    (hb : Binds X.K fd ["self", f] []) (hg : Gl X x) (hm : X.mg x = some (.ref C)) (he : PE X e te)
    (hs : starEach [e] X.env = (false, eval e X.env) :: starEach [] X.env := by rfl)
    (hpl : (backTo pos (starEach [] X.env)).any (·.1) = false := by rfl) (hdb : (x == ("__debug__" : Str)) = false := by decide) :
    PE X (.Call (.Name x p) [e] [] pos) (tErr C f te) := by
  refine ⟨fun pins s σ H Q I h => ?_⟩
  refine wpAny_Call_Name_kw (ld_glob I hg hm ?_ hdb)
  refine PySem.W.callWith_K (h₀ := X.base) I.ok.mod.kin T.ox.kC
    (thn ((pa_cons he pa_nil hs).run pos pins s σ H _ I h) fun us s2 ⟨zs, H2, I2, rz, v, ev, q2⟩ => ⟨I2.kIn, ?_⟩) hs hpl
  subst ev
  cases rz with
  | @cons _ u _ us' rv rn =>
    cases rn
    obtain ⟨hp, g, dr, tk, os⟩ := s2
    exact err_end (us := [u]) (kw := []) T F1 hr I2 rv (by show 1 ≤ sizeLine; decide) (fun s b X1 => hb s [.ref b, u] X1 rfl) q2
end
/-! ### isinstance of an error -/
def rIsX (K : PySem.W.Frag) : List V → Hp → VK → Prop := fun xs H Q => ∃ (a C fI d : Addr) (c : V) (cv : Value) (b : Bool),
  xs = [.ref a, c] ∧ H a = some (exo a C (some d)) ∧ (∃ fs, H d = some (exd d fs)) ∧ ErrC K C fI ∧ ClsV c cv ∧ PySem.W.kitOne K (.ref C) cv = some b ∧ Q (.bl b) H
theorem err_inst {X : Cx} {pins : List (Addr × Obj)} {σ : St} {H : Hp} {s : Shared} {a C d : Addr} {fs : List (Str × V)}
    (I : Inv X pins σ H s) (ea : H a = some (exo a C (some d))) (ed : H d = some (exd d fs)) :
    ∃ (ox od : Obj) (mA : Str → Option Value), PySem.W.InstAt s.heap a ox C (some od) ∧ (∀ nm, PySem.W.lookIn nm od = some (mA nm)) ∧ ∀ f, RelO (fs.lookup f) (mA f) := by
  obtain ⟨t1, ho⟩ := exo_at I.hok ea
  obtain ⟨mA, hns, rel⟩ := exd_at I.hok ed
  obtain ⟨od, hod, hl⟩ := lookIn_ns hns
  exact ⟨_, od, mA, ⟨ho, rfl, rfl, hod⟩, hl, rel⟩
theorem call_isX {X : Cx} : CallR X (.builtin "isinstance") (rIsX X.K) := by
  intro pins s σ H xs us Q I r h
  obtain ⟨a, C, fI, d, c, cv, b, rfl, ea, ⟨fs, ed⟩, T, k, e, q⟩ := h
  obtain ⟨u1, u2, rfl, r1, r2⟩ := vals2 r
  have e2 := k.eq r2
  subst e2
  cases (show u1 = Value.ref a from r1)
  obtain ⟨ox, od, mA, J, _, _⟩ := err_inst I ea ed
  exact PySem.W.kia_one (PySem.W.kitx_exc T.cl T.ga T.gg T.ox.exC T.ca T.dn T.tk T.mo) I.kIn J e (fun z => nomatch z)
    fun tk => ⟨.bl b, H, I.tok tk, rfl, q⟩
/-! ### the field of an error -/
def tFldX (K : PySem.W.Frag) (ta : TE) (f : Str) : TE := fun σ H Q => ta σ H fun x H1 => ∃ (a C fI d : Addr) (fs : List (Str × V)) (v : V),
  x = .ref a ∧ H1 a = some (exo a C (some d)) ∧ H1 d = some (exd d fs) ∧ ErrC K C fI ∧ PySem.W.findIn K (.ref C) f = some none ∧ fs.lookup f = some v ∧ Q v H1
theorem pe_fldX {X : Cx} {e : Expr} {ta : TE} {f : Str} {pos : Pos} (he : PE X e ta)
    (hb : attributeBase e f X.env (eval e X.env) = eval e X.env := by rfl) : PE X (.Attribute e f pos) (tFldX X.K ta f) := by
  refine ⟨fun pins s σ H Q I h => ?_⟩
  refine attr_of hb (thn (he.run pins s σ H _ I h) fun u s1 hh => ?_)
  obtain ⟨x, H1, I1, rx, a, C, fI, d, fs, v, ex, ea, ed, T, hno, lv, q⟩ := hh
  subst ex
  cases (show u = Value.ref a from rx)
  obtain ⟨ox, od, mA, J, hl, rel⟩ := err_inst I1 ea ed
  have r0 := rel f
  rw [lv] at r0
  obtain ⟨w, hw, rw'⟩ := RelO.some_of r0
  exact HandSPX.exc_get I1.kIn J T.ga T.gg T.ox.exC (PySem.W.findObj_own T.hd hno rfl (by rw [hl, hw])) (handed_of rw') ⟨v, H1, I1.tok _, rw', q⟩
end L2
set_option Elab.async false
set_option linter.all false
set_option maxRecDepth 100000
set_option maxHeartbeats 4000000
/-! defs that may ask for repr: the promise holds where no repr is under way -/
namespace L2
open PySem PySem.Spec PyProof.Rows
structure FnG (P : Program) (w : World) (K : PySem.W.Frag) (mg : Str → Option Value) (base : Heap) (CX : CXT) (k : Nat) (f : Addr)
    (fd : FuncData) (ps : List Str) (sp : Sp) : Prop where
  len : ∀ vs H Q E, sp vs H Q E → vs.length = ps.length
  run : ∀ (A : Around) (outer : List Env) (s : Shared) (H : Hp) (args : Args) (us : List Value) (vs : List V) (Q : VK) (E : XK),
    Room k A → A.guards = some [] → Env0 P w K mg base A outer s H → BindsTo s fd args (ps.zip us) → Vals vs us → sp vs H Q E →
      codeAny (model P w) A (.call (.ref f) args) (CR CX outer P w H s Q E) s
theorem FnOk.g {P : Program} {w : World} {K : PySem.W.Frag} {mg : Str → Option Value} {base : Heap} {CX : CXT} {k : Nat} {f : Addr}
    {fd : FuncData} {ps : List Str} {sp : Sp} (F : FnOk P w K mg base CX k f fd ps sp) : FnG P w K mg base CX k f fd ps sp :=
  ⟨F.len, fun A outer s H args us vs Q E hr _ => F.run A outer s H args us vs Q E hr⟩
theorem FnG.mono {P : Program} {w : World} {K : PySem.W.Frag} {mg : Str → Option Value} {base : Heap} {CX : CXT} {j k : Nat} {f : Addr}
    {fd : FuncData} {ps : List Str} {sp : Sp} (F : FnG P w K mg base CX j f fd ps sp) (h : j ≤ k) : FnG P w K mg base CX k f fd ps sp :=
  ⟨F.len, fun A outer s H args us vs Q E hr => F.run A outer s H args us vs Q E (hr.mono h)⟩
/-- a def by its body -/
theorem FunD.okG {P : Program} {w : World} {K : PySem.W.Frag} {mg : Str → Option Value} {base : Heap} {x qual : Str} {params : Arguments}
    {body : List Stmt} {scope : Scope} {dvs : List V} {kws : List (Str × V)} {f : Addr} {fd : FuncData} {CX : CXT} {N ps : List Str} {k : Nat} {sp : Sp}
    (F : FunD K x qual params body scope dvs kws f fd) (S : FnScope N ps scope) (len : ∀ vs H Q E, sp vs H Q E → vs.length = ps.length)
    (hbody : ∀ (cdv : Value) (A : Around) (outer : List Env) (s : Shared) (H : Hp) (vs : List V) (Q : VK) (E : XK),
      Room k (A.deeper (envOfC qual scope s.heap.objs.size f cdv)) → A.guards = some [] → sp vs H Q E →
        ∃ t, PSs (cxOf CX P w K mg base N qual scope f cdv A outer s H E) body t ∧ t { nx := fun _ H' => Q .non H', rt := Q } (start N vs) H) :
    FnG P w K mg base CX (k + 1) f fd ps sp := by
  obtain ⟨oc, od, dV, kV, doc, pm, an, cdv, ct, osl, rfl, lk, hcd, _, _⟩ := F.ex
  refine ⟨len, fun A outer s H args us vs Q E hr hgd e0 hb r hsp => ?_⟩
  have old := fun (b : Addr) (o : Obj) (e : base.get? b = some o) => (e0.bs b o e).1
  have KX : K.In s.heap := e0.mod.kin.keeps old
  have lim : s.heap.NoLimit := e0.mod.nolimit.keeps old
  refine codeAny_call_function hr.depth (KX _ _ lk) rfl S.co S.gen rfl (PySem.W.codeRec_of KX hcd) (hb _ _ _ _ ?_)
  refine wpAny_newFunctionEnv_cells S.kind (fun y hy => ?_) fun env he s1 x => ?_
  · obtain ⟨n, v⟩ := y
    exact (S.par n (List.of_mem_zip hy).1).imp (fun q => q) fun q => ⟨q, PySem.W.cellsFrom_some _ _ _ (.inl q)⟩
  subst he
  refine ⟨lim.keeps x.toInCall.keep, codeAny_func ?_⟩
  obtain ⟨t, ht, hq⟩ := hbody cdv A outer s H vs Q E (hr.deeper _) hgd hsp
  have I := inv_start (CX := CX) (E := E) S hr.hd e0 (len _ _ _ _ hsp) r x
  refine wpAny_mono (ht.run [] s1 (start N vs) H _ I hq) (fun fl s' hs => ?_) fun e s' hs => hs
  cases fl with
  | ret u =>
    obtain ⟨v, σ', H', J, rv, q⟩ := hs
    exact ⟨v, H', J.os, J.bare, J.base, J.hok, rv, q⟩
  | next =>
    obtain ⟨σ', H', J, q⟩ := hs
    exact ⟨.non, H', J.os, J.bare, J.base, J.hok, rfl, q⟩
  | brk => exact False.elim hs.choose_spec.choose_spec.2
  | cont => exact False.elim hs.choose_spec.choose_spec.2
section
variable {X : Cx} {CX : CXT} {k : Nat} {f : Addr} {fd : FuncData} {ps : List Str} {sp : Sp} {E : XK} {x : Str} {p pos : Pos} {e : Expr} {es : List Expr} {t : TA}
/-- f(e, ..) -/
theorem pe_callG (F : FnG X.prog X.w X.K X.mg X.base CX k f fd ps sp) (hr : Room k X.A) (hgd : X.A.guards = some []) (hg : Gl X x) (hm : X.mg x = some (.ref f))
    (hk : PySem.W.keepIn X.K (.ref f) = true) (hb : Binds X.K fd ps []) (hx : Passes CX X E) (ha : PA X (e :: es) t)
    (hdb : (x == ("__debug__" : Str)) = false := by decide) (he : starEach (e :: es) X.env = (false, eval e X.env) :: starEach es X.env := by rfl)
    (hpl : (backTo pos (starEach es X.env)).any (·.1) = false := by rfl) :
    PE X (.Call (.Name x p) (e :: es) [] pos) (tCall sp [] E t) := by
  refine ⟨fun pins s σ H Q I h => ?_⟩
  refine wpAny_Call_Name_kw (ld_glob I hg hm ?_ hdb)
  refine PySem.W.callWith_K (h₀ := X.base) I.ok.mod.kin hk
    (thn (ha.run pos pins s σ H _ I h) fun us s1 ⟨vs, H1, I1, r, q⟩ => ⟨I1.kIn, ?_⟩) he hpl
  have q : sp (vs ++ []) H1 Q E := q
  rw [List.append_nil] at q
  have hl : us.length = ps.length := by
    rw [← Vals.length r]
    exact F.len _ _ _ _ q
  have b := hb s1 us I1.kIn (by rw [List.append_nil]; exact hl)
  rw [List.append_nil] at b
  show wpAny _ _ (call (.ref f) us) _ _ _
  refine wpAny_call (codeAny_mono (F.run X.A X.stack s1 H1 ⟨us, []⟩ us vs Q E hr hgd I1.env0 b r q) fun r s' hq => ?_)
  cases r with
  | error er => exact hx pins σ H1 s1 er s' I1 hq
  | ok fl =>
    cases fl with
    | ret u => exact I1.after hq
    | next => exact False.elim hq
    | brk => exact False.elim hq
    | cont => exact False.elim hq
end
/-- the law's own call -/
theorem law_callG {P : Program} {w : World} {K : PySem.W.Frag} {mg mb : Str → Option Value} {CX : CXT} {k : Nat} {fa a : Addr} {fd : FuncData} {x : Str}
    {sp : Sp} {s₁ : Shared} {vs : List Value} {ns : List Int}
    (KX : K.In s₁.heap) (hns : s₁.heap.Ns mainGlobals mg) (hb : s₁.heap.Ns builtinsNs mb) (hbb : ∀ x : Str, x ≠ "__name__" → mb x = bootBuiltins x)
    (hlim : s₁.heap.NoLimit) (hg : s₁.gens = #[]) (ha : s₁.heap.get? a = some { cls := .type "list", data := .seq vs.toArray }) (hi : IntsAre vs ns)
    (hl : ns.length ≤ sizeLine) (hr : Room k callerA) (F : ∀ base : Heap, K.In base → base.Ns mainGlobals mg → FnG P w K mg base CX k fa fd [x] sp)
    (hbind : ∀ (s : Shared) (u : Value), BindsTo s fd ⟨[u], []⟩ [(x, u)])
    (hsp : ∀ H : Hp, SqL K H a (ns.map V.int) → sp [.ref a] H (fun v _ => v = .bl true) fun _ _ _ => False)
    (hCX : ∀ H e s', CX [] H s₁ (fun _ _ _ => False) e s' → False) :
    codeAny (model P w) callerA (.call (.ref fa) ⟨[.ref a], []⟩)
      (fun r s' => r = .ok (.ret (.bool true)) ∧ OldK s₁.heap s'.heap ∧ s'.os = s₁.os ∧ AllBare s'.gens) s₁ := by
  have rv := vals_ints hi
  have lenV := hi.length
  let ob : Obj := { cls := .type "list", data := .seq vs.toArray }
  have core : ∀ H : Hp, (∀ b, H b ≠ none → b = a ∧ H b = some (.frz ob (.lst (ns.map V.int)))) → SqL K H a (ns.map V.int) → HOk P w H s₁.heap → (H a ≠ none → K.lookup a = none) →
      codeAny (model P w) callerA (.call (.ref fa) ⟨[.ref a], []⟩)
        (fun r s' => r = .ok (.ret (.bool true)) ∧ OldK s₁.heap s'.heap ∧ s'.os = s₁.os ∧ AllBare s'.gens) s₁ := by
    intro H hA hS hok hK
    have off : ∀ {b : Addr} {o : Obj} {es : Array DictEntry} {ep : Nat}, s₁.heap.get? b = some o → o.data = .dict es ep → H b = none := by
      intro b o es ep e d
      cases q : H b with
      | none => rfl
      | some u =>
        obtain ⟨rfl, _⟩ := hA b (by rw [q]; simp)
        rw [ha] at e
        cases e
        have z : Data.seq vs.toArray _ = Data.dict es ep := d
        cases z
    have nsK : ∀ {b : Addr} {m : Str → Option Value}, s₁.heap.Ns b m → (hidT s₁.heap H).Ns b m :=
      fun {b m} ⟨o, es, ep, e, d, r⟩ => ⟨o, es, ep, hidT_get e (off e d), d, r⟩
    have hKb : K.In (hidT s₁.heap H) := fun b o e => hidT_get (KX b o e) (by
      cases q : H b with
      | none => rfl
      | some u =>
        obtain ⟨rfl, _⟩ := hA b (by rw [q]; simp)
        rw [hK (by rw [q]; simp)] at e
        cases e)
    have hM : Mod K mg (hidT s₁.heap H) := ⟨hKb, nsK hns, ⟨mb, nsK hb, hbb⟩, let ⟨mc, h1, h2⟩ := hlim; ⟨mc, nsK h1, h2⟩⟩
    have e0 : Env0 P w K mg (hidT s₁.heap H) callerA [] s₁ H :=
      ⟨rfl, hM, fun b o e => of_hidT e, Nat.le_of_eq (hidT_size _ _), trivial, fun b hb => absurd (show b ∈ ([] : List Addr) from hb) (by simp), hok, .of_eq hg⟩
    refine codeAny_mono ((F _ hKb (nsK hns)).run callerA [] s₁ H ⟨[.ref a], []⟩ [.ref a] [.ref a] _ _ hr rfl e0 (hbind s₁ (.ref a)) (.cons rfl .nil) (hsp H hS)) fun r s' h => ?_
    cases r with
    | error e => exact (hCX H e s' h).elim
    | ok fl =>
      cases fl with
      | next => exact False.elim h
      | brk => exact False.elim h
      | cont => exact False.elim h
      | ret u =>
        obtain ⟨v, H', os, bare, un, hok', r', q⟩ := h
        cases (show v = .bl true from q)
        cases (show u = Value.bool true from r')
        refine ⟨rfl, OldK.of_keep fun b o e => ?_, os, bare⟩
        cases q : H b with
        | none => exact un.keep b o e q (by intro z; exact absurd (show b ∈ ([] : List Addr) from z) (by simp)) (by simp)
        | some u =>
          obtain ⟨rfl, z⟩ := hA b (by rw [q]; simp)
          obtain ⟨e1, _⟩ := hok b _ z
          obtain ⟨e2, _⟩ := hok' b _ (un.frzs b ob _ z)
          rw [e] at e1
          cases e1
          exact e2
  cases hk : K.lookup a with
  | some o =>
    have e := KX a o hk
    rw [ha] at e
    cases e
    exact core (fun _ => none) (fun b z => absurd rfl z)
      (.inr ⟨_, vs.toArray, _, hk, rfl, rfl, rfl, by rw [List.size_toArray, lenV]; exact hl, by simpa using rv⟩)
      (fun b u z => nomatch (show (none : Option HO) = some u from z)) fun z => absurd rfl z
  | none =>
    refine core (fun b => if b = a then some (.frz ob (.lst (ns.map V.int))) else none) (fun b z => ?_) (.inl (.inr ⟨ob, if_pos rfl⟩)) (fun b u z => ?_) fun _ => hk
    · by_cases c : b = a
      · exact ⟨c, if_pos c⟩
      · exact absurd (if_neg c) z
    · by_cases c : b = a
      · cases (if_pos c).symm.trans z
        subst c
        exact ⟨ha, by rw [List.length_map]; exact hl, vs, _, rv, ha⟩
      · cases (if_neg c).symm.trans z
theorem walkG {l : PySem.W.OpenLaw} {n k : Nat} {q : Program} {loose : List Str} {XP : (Str → Option Value) → Heap → Prop} {YP : World → Heap → Prop} {d : DefRec} {CX : CXT} {x : Str}
    (hn : l.most = some n) (hn2 : n ≤ sizeLine) (hdf : d.params.defaults = []) (hr : Room k callerA)
    (F : ∀ (w : World) (mg : Str → Option Value) (fa : Addr) (h : Heap), YP w h → h.Ns mainGlobals mg → mg d.name = some (.ref fa) →
      ∃ (K : PySem.W.Frag) (fd : FuncData) (sp : Sp), K.In h ∧ (∀ (s : Shared) (u : Value), BindsTo s fd ⟨[u], []⟩ [(x, u)]) ∧
        (∀ (H : Hp) (a : Addr) (ns : List Int), ns.length ≤ n → SqL K H a (ns.map V.int) → sp [.ref a] H (fun v _ => v = .bl true) fun _ _ _ => False) ∧
        ∀ base : Heap, K.In base → base.Ns mainGlobals mg → FnG l.prog w K mg base CX k fa fd [x] sp)
    (hCX : ∀ (H : Hp) (s : Shared) (e : Value) (s' : Shared), CX [] H s (fun _ _ _ => False) e s' → False) :
    PySem.W.WalkO q loose XP YP l.row.toRowW d [] (fun f vs => PySem.call f vs) := by
  refine Att.attach_call hn hdf fun w s₀ s₁ mg mb fa o pm cd doc a vs ns G Y ho hd hcd hmg hobj hints hlen hg => ?_
  obtain ⟨K, fd, sp, KX, hb, hsp, hF⟩ := F w mg fa _ Y G.T.g hmg
  exact law_callG KX G.T.g G.T.b G.T.builtins G.T.nolimit hg hobj hints (Nat.le_trans hlen hn2) hr hF hb
    (fun H hS => hsp H a ns hlen hS) fun H e s' => hCX H s₁ e s'
end L2
set_option Elab.async false
set_option linter.all false
set_option maxRecDepth 100000
set_option maxHeartbeats 4000000
/-! data in the abstract heap, and its repr -/
namespace L2
open PySem PySem.Spec PyProof.Rows
def keyD : Key → PyData
  | .inl i => .int i
  | .inr x => .str x
mutual
/-- v stands for the data d -/
def Dt (K : PySem.W.Frag) (H : Hp) : PyData → V → Prop
  | .none, v => v = .non
  | .bool b, v => v = .bl b
  | .int i, v => v = .int i
  | .str x, v => v = .str x
  | .list ds, v => ∃ (a : Addr) (xs : List V), v = .ref a ∧ SqL K H a xs ∧ Dts K H ds xs
  | .tuple ds, v => ∃ (a : Addr) (xs : List V), v = .ref a ∧ SqT K H a xs ∧ Dts K H ds xs
  | .dict kvs, v => ∃ (a : Addr) (kws : List (Key × V)), v = .ref a ∧ H a = some (.dK kws) ∧ Dtk K H kvs kws
def Dts (K : PySem.W.Frag) (H : Hp) : List PyData → List V → Prop
  | [], xs => xs = []
  | d :: ds, xs => ∃ x r, xs = x :: r ∧ Dt K H d x ∧ Dts K H ds r
def Dtk (K : PySem.W.Frag) (H : Hp) : List (PyData × PyData) → List (Key × V) → Prop
  | [], xs => xs = []
  | (k, d) :: ds, xs => ∃ q x r, xs = (q, x) :: r ∧ k = keyD q ∧ Dt K H d x ∧ Dtk K H ds r
end
theorem Same.sqT {K : PySem.W.Frag} {H H' : Hp} {a : Addr} {xs : List V} (s : Same H H') (h : SqT K H a xs) : SqT K H' a xs := by
  rcases h with h | h
  · refine .inl ?_
    rcases h with h | ⟨o, h⟩
    · exact .inl (s _ _ h)
    · exact .inr ⟨o, s _ _ h⟩
  · exact .inr h
mutual
theorem Dt.same {K : PySem.W.Frag} {H H' : Hp} (s : Same H H') : ∀ (d : PyData) (v : V), Dt K H d v → Dt K H' d v
  | .none, _, h => h
  | .bool _, _, h => h
  | .int _, _, h => h
  | .str _, _, h => h
  | .list ds, _, ⟨a, xs, e, q, r⟩ => ⟨a, xs, e, s.seq q, Dts.same s ds xs r⟩
  | .tuple ds, _, ⟨a, xs, e, q, r⟩ => ⟨a, xs, e, s.sqT q, Dts.same s ds xs r⟩
  | .dict ds, _, ⟨a, xs, e, q, r⟩ => ⟨a, xs, e, s _ _ q, Dtk.same s ds xs r⟩
theorem Dts.same {K : PySem.W.Frag} {H H' : Hp} (s : Same H H') : ∀ (ds : List PyData) (xs : List V), Dts K H ds xs → Dts K H' ds xs
  | [], _, h => h
  | d :: ds, _, ⟨x, r, e, h1, h2⟩ => ⟨x, r, e, Dt.same s d x h1, Dts.same s ds r h2⟩
theorem Dtk.same {K : PySem.W.Frag} {H H' : Hp} (s : Same H H') : ∀ (ds : List (PyData × PyData)) (xs : List (Key × V)), Dtk K H ds xs → Dtk K H' ds xs
  | [], _, h => h
  | (k, d) :: ds, _, ⟨q, x, r, e, ek, h1, h2⟩ => ⟨q, x, r, e, ek, Dt.same s d x h1, Dtk.same s ds r h2⟩
end
/-- the table of modules is a dict of the written part -/
def SysK (K : PySem.W.Frag) : Prop := ∃ o, K.lookup sysModules = some o ∧ o.cls = .type "dict"
section
variable {X : Cx} {pins : List (Addr × Obj)} {σ : L2.St} {H : Hp} {s : Shared}
theorem sys_ne (I : Inv X pins σ H s) (hs : SysK X.K) {a : Addr} {o : Obj} {T : String} (h : s.heap.get? a = some o) (c : o.cls = .type T) (n : T ≠ "dict") : sysModules ≠ a := fun e => by
  obtain ⟨u, hu, cu⟩ := hs
  have z := I.kIn _ _ hu
  rw [e, h] at z
  cases z
  rw [c] at cu
  cases cu
  exact n rfl
theorem keys_read {P : Program} {w : World} {h : Heap} : ∀ {es : List DictEntry} {vs : List (Key × Value)} {kws : List (Key × V)} {kvs : List (PyData × PyData)}, Pairs (mixKind P w) es vs → KV kws vs → (kvs.map (·.1) = kws.map fun q => keyD q.1) →
    ReadsAll h (es.map (·.key)) (kvs.map (·.1)) []
  | _, _, _, kvs, .nil, .nil, e => by
    rw [e]
    exact .nil
  | _, _, _, kvs, .cons (e := en) (kv := kv) hk hv ps, .cons r rs, e => by
    cases kvs with
    | nil => cases e
    | cons p ps' =>
      injection e with e1 e2
      have ih := keys_read (h := h) ps rs e2
      have e3 : p.1 = keyD kv.1 := Eq.trans e1 (congrArg keyD r.1)
      have hk : keyIs kv.1 en.key = true := hk
      have rd : Reads h en.key p.1 [] := by
        rw [e3]
        rcases keyIs_shape hk with ⟨i, t, q1, q2⟩ | ⟨x, t, q1, q2⟩
        · rw [q1, q2]
          exact .int i t
        · rw [q1, q2]
          exact .str x t
      exact ReadsAll.cons (as := []) (bs := []) rd ih
mutual
theorem Dt.reads (I : Inv X pins σ H s) (hs : SysK X.K) : ∀ (d : PyData) (v : V) (u : Value), Dt X.K H d v → RelV v u → ∃ as, Reads s.heap u d as ∧ sysModules ∉ as
  | .none, v, u, h, r => by
    cases (show v = .non from h)
    cases r
    exact ⟨[], .none, by simp⟩
  | .bool b, v, u, h, r => by
    cases (show v = .bl b from h)
    cases r
    exact ⟨[], .bool b, by simp⟩
  | .int i, v, u, h, r => by
    cases (show v = .int i from h)
    obtain ⟨t, rfl⟩ := r
    exact ⟨[], .int i t, by simp⟩
  | .str x, v, u, h, r => by
    cases (show v = .str x from h)
    obtain ⟨t, rfl⟩ := r
    exact ⟨[], .str x t, by simp⟩
  | .list ds, v, u, h, r => by
    obtain ⟨a, xs, e, q, hd⟩ := h
    subst e
    cases r
    obtain ⟨its, rv, ⟨o, n, ho, hc, _, hdt⟩, _⟩ := I.list q
    obtain ⟨as, hr, hn⟩ := Dts.reads I hs ds xs its hd rv
    refine ⟨a :: as, .list ho hc hdt hr, fun z => ?_⟩
    rcases List.mem_cons.mp z with z | z
    · exact sys_ne I hs ho hc (by decide) z
    · exact hn z
  | .tuple ds, v, u, h, r => by
    obtain ⟨a, xs, e, q, hd⟩ := h
    subst e
    cases r
    obtain ⟨its, rv, ⟨o, ho, hc, n, hdt⟩, _⟩ := I.tuple q
    obtain ⟨as, hr, hn⟩ := Dts.reads I hs ds xs its hd rv
    exact ⟨as, .tuple ho hc hdt hr, hn⟩
  | .dict kvs, v, u, h, r => by
    obtain ⟨a, kws, e, q, hd⟩ := h
    subst e
    cases r
    obtain ⟨_, hsy, vs, kv, o, es, ep, ho, ⟨hc, _, _⟩, hdt, _, hp, _⟩ := (show ObjOk X.prog X.w H s.heap a (.dK kws) from I.hok a _ q)
    obtain ⟨ek, bs, hb, hn⟩ := Dtk.reads I hs kvs kws vs es.toList hd kv hp
    have ha : a ≠ sysModules := fun z => by
      rw [z] at hsy
      cases hsy.symm.trans (beq_self_eq_true sysModules)
    refine ⟨a :: [] ++ bs, .dict ho hc hdt (keys_read hp kv ek) hb, fun z => ?_⟩
    rcases List.mem_cons.mp z with z | z
    · exact ha z.symm
    · exact hn z
theorem Dts.reads (I : Inv X pins σ H s) (hs : SysK X.K) : ∀ (ds : List PyData) (vs : List V) (us : List Value), Dts X.K H ds vs → Vals vs us → ∃ as, ReadsAll s.heap us ds as ∧ sysModules ∉ as
  | [], vs, us, h, r => by
    cases (show vs = [] from h)
    cases r
    exact ⟨[], .nil, by simp⟩
  | d :: ds, vs, us, h, r => by
    obtain ⟨x, rr, e, h1, h2⟩ := h
    subst e
    cases r with
    | cons r1 r2 =>
      obtain ⟨as, q1, n1⟩ := Dt.reads I hs d _ _ h1 r1
      obtain ⟨bs, q2, n2⟩ := Dts.reads I hs ds _ _ h2 r2
      refine ⟨as ++ bs, .cons q1 q2, fun z => ?_⟩
      rcases List.mem_append.mp z with z | z
      · exact n1 z
      · exact n2 z
theorem Dtk.reads (I : Inv X pins σ H s) (hs : SysK X.K) : ∀ (kvs : List (PyData × PyData)) (kws : List (Key × V)) (vs : List (Key × Value)) (es : List DictEntry), Dtk X.K H kvs kws → KV kws vs → Pairs (mixKind X.prog X.w) es vs →
    (kvs.map (·.1) = kws.map fun q => keyD q.1) ∧ ∃ as, ReadsAll s.heap (es.map (·.val)) (kvs.map (·.2)) as ∧ sysModules ∉ as
  | [], kws, vs, es, h, r, p => by
    cases (show kws = [] from h)
    cases r
    cases p
    exact ⟨rfl, [], .nil, by simp⟩
  | (k, d) :: ds, kws, vs, es, h, r, p => by
    obtain ⟨q, x, rr, e, ek, h1, h2⟩ := h
    subst e
    cases r with
    | cons r1 r2 =>
      cases p with
      | cons p1 p2 p3 =>
        obtain ⟨e1, e2⟩ := r1
        obtain ⟨as, q1, n1⟩ := Dt.reads I hs d _ _ h1 e2
        obtain ⟨ee, bs, q2, n2⟩ := Dtk.reads I hs ds _ _ _ h2 r2 p3
        refine ⟨by rw [List.map_cons, List.map_cons, ee, ek], as ++ bs, ?_, fun z => ?_⟩
        · refine ReadsAll.cons ?_ q2
          dsimp only
          rw [p2]
          exact q1
        · rcases List.mem_append.mp z with z | z
          · exact n1 z
          · exact n2 z
end
/-- repr(e) of data -/
def rRepr (K : PySem.W.Frag) : List V → Hp → VK → Prop := fun xs H Q => ∃ (v : V) (d : PyData), xs = [v] ∧ Dt K H d v ∧ d.showable = true ∧ d.depth ≤ 60 ∧ d.shown.length ≤ sizeLine ∧ Q (.str d.shown) H
theorem call_reprD (hs : SysK X.K) (hg : X.A.guards = some []) (hu : X.A.units + 64 < cLine) : CallR X (.builtin "repr") (rRepr X.K) := by
  intro pins s σ H xs us Q I r h
  obtain ⟨v, d, rfl, hd, sh, dp, sz, q⟩ := h
  obtain ⟨u, rfl, rv⟩ := vals1 r
  obtain ⟨as, rd, hn⟩ := Dt.reads I hs d v u hd rv
  have fin : ∀ h' tk t, (∀ b o, s.heap.get? b = some o → h'.get? b = some o) → EP X pins σ Q (.str d.shown t) { s with heap := h', toks := tk } :=
    fun h' tk t k => ⟨.str d.shown, H, I.kept k, ⟨t, rfl⟩, q⟩
  cases rd with
  | none => exact PySem.P.repr_of_none (fin s.heap _ _ fun _ _ e => e)
  | bool b => exact PySem.P.repr_of_bool (fin s.heap _ _ fun _ _ e => e)
  | int i t => exact PySem.P.repr_of_int (of_decide_eq_true sh) (fin s.heap _ _ fun _ _ e => e)
  | str x t => exact PySem.P.repr_of_str (fin s.heap _ _ fun _ _ e => e) sz
  | list h1 h2 h3 h4 => exact repr_of_reads' (.list h1 h2 h3 h4) sh (fun _ => hn) hg (by omega) (fun _ _ e => e) (fun h' u tk k => fin h' tk u k) sz
  | tuple h1 h2 h3 h4 => exact repr_of_reads' (.tuple h1 h2 h3 h4) sh (fun _ => hn) hg (by omega) (fun _ _ e => e) (fun h' u tk k => fin h' tk u k) sz
  | dict h1 h2 h3 h4 h5 => exact repr_of_reads' (.dict h1 h2 h3 h4 h5) sh (fun _ => hn) hg (by omega) (fun _ _ e => e) (fun h' u tk k => fin h' tk u k) sz
end
end L2
set_option Elab.async false
set_option linter.all false
set_option maxRecDepth 100000
set_option maxHeartbeats 4000000
/-! the head's facts with one Bool of one's own, and the table of modules -/
namespace L2
open PySem PySem.Spec PyProof.Rows
def frY (g : Addr → Option Obj) (n : Nat) : PySem.W.Frag := He.frG g (sysModules :: He.asD g n)
def sysB (K : PySem.W.Frag) : Bool := match K.lookup sysModules with
  | some ⟨.type c, _, _, _⟩ => decide (c = "dict")
  | _ => false
theorem sysB_ok {K : PySem.W.Frag} (h : sysB K = true) : SysK K := by
  unfold sysB at h
  split at h
  · rename_i c d dt sl e
    exact ⟨_, e, congrArg Value.type (of_decide_eq_true h)⟩
  · cases h
structure SaysY (fa : List He.Fa) (fn : List He.DefD) (ex : PySem.W.Frag → Bool) (K : PySem.W.Frag) : Prop where
  d : He.SaysD fa fn K
  more : ex K = true
  sys : SysK K
abbrev AlY : Type := He.AlD × Bool
def obsY (n : Nat) (fa : List He.Fa) (fn : List He.DefD) (ex : PySem.W.Frag → Bool) (g : Addr → Option Obj) : AlY :=
  (He.obsD fa fn (frY g n), ex (frY g n) && sysB (frY g n))
def hookY (n : Nat) (fa : List He.Fa) (fn : List He.DefD) (ex : PySem.W.Frag → Bool) : PySem.W.Hook where
  α := AlY
  obs := fun s => obsY n fa fn ex s.heap.get?
  val := fun _ => (He.valD fn, true)
  says := fun _ h => ∃ K : PySem.W.Frag, K.In h ∧ SaysY fa fn ex K
  of := fun _ s e => ⟨frY s.heap.get? n, He.frG_in, congrArg (fun z : AlY => z.1) e,
    (He.ba (congrArg (fun z : AlY => z.2) e)).1, sysB_ok (He.ba (congrArg (fun z : AlY => z.2) e)).2⟩
  keeps := fun _ _ _ ⟨K, hK, c⟩ k => ⟨K, PySem.W.Frag.In.keeps hK k, c⟩
theorem obsY_eq {n : Nat} {fa : List He.Fa} {fn : List He.DefD} {ex : PySem.W.Frag → Bool} {g : Addr → Option Obj} {s : Shared}
    (h : ∀ a, g a = s.heap.get? a) : obsY n fa fn ex g = (hookY n fa fn ex).obs s := by
  rw [show g = s.heap.get? from funext h]
  rfl
end L2
set_option Elab.async false
set_option linter.all false
set_option maxRecDepth 100000
set_option maxHeartbeats 0
namespace K71
open PySem PySem.Spec PyProof.Rows L2
def topS (i : Nat) : Stmt := PySem.Challenge.pw_renamesteps_k71_errors_and_their_values.main.body.getD i (.Pass ⟨0, 0, 0, 0⟩)
abbrev sIn (i : Nat) : Stmt := inClass (topS i) 0
abbrev s_law_hand : Stmt := topS 22
abbrev s_law_take : Stmt := topS 23
abbrev s_law_pick : Stmt := topS 24
abbrev s_law_kinds : Stmt := topS 25
abbrev s_law_made : Stmt := topS 26
abbrev s_law_fields : Stmt := topS 27
abbrev slaw : Stmt := topS 28
/-- the errors: where each stands in the text, its name, its field -/
def errs : List (Nat × Str × Str) := [(2, "NoScope", "scope"), (3, "NoDeclaration", "declaration"), (4, "BadName", "name"), (5, "BadNaming", "naming"), (6, "BadProgram", "program"), (7, "BadPool", "pool"), (8, "BadPlan", "plan"), (9, "Unsafe", "index"), (10, "Clash", "other"), (11, "TooFewNames", "needed"), (12, "TooMany", "most"), (13, "TooLarge", "limit"), (14, "OutOfScope", "scope"), (15, "MissingUse", "scope"), (16, "StillUsed", "scope"), (17, "NotEmpty", "scope"), (18, "NothingToUndo", "count"), (19, "BadText", "line"), (20, "BadLine", "line")]
def dE (q : Nat × Str × Str) (u : Str) : He.DefD := ⟨(q.2.1, some "__init__"), "__init__", u, defArgs (sIn q.1), defBody (sIn q.1), defScope (sIn q.1), [], []⟩
def dD (x : Str) (i : Nat) : He.DefD := ⟨(x, none), x, x, defArgs (topS i), defBody (topS i), defScope (topS i), [], []⟩
def fnD : List He.DefD := [dD "_law_hand" 22, dD "_law_take" 23, dD "_law_pick" 24, dD "_law_kinds" 25, dD "_law_made" 26, dD "_law_fields" 27, dD "law" 28]
def fnE : List He.DefD := [dE (2, "NoScope", "scope") "NoScope.__init__",
  dE (3, "NoDeclaration", "declaration") "NoDeclaration.__init__",
  dE (4, "BadName", "name") "BadName.__init__",
  dE (5, "BadNaming", "naming") "BadNaming.__init__",
  dE (6, "BadProgram", "program") "BadProgram.__init__",
  dE (7, "BadPool", "pool") "BadPool.__init__",
  dE (8, "BadPlan", "plan") "BadPlan.__init__",
  dE (9, "Unsafe", "index") "Unsafe.__init__",
  dE (10, "Clash", "other") "Clash.__init__",
  dE (11, "TooFewNames", "needed") "TooFewNames.__init__",
  dE (12, "TooMany", "most") "TooMany.__init__",
  dE (13, "TooLarge", "limit") "TooLarge.__init__",
  dE (14, "OutOfScope", "scope") "OutOfScope.__init__",
  dE (15, "MissingUse", "scope") "MissingUse.__init__",
  dE (16, "StillUsed", "scope") "StillUsed.__init__",
  dE (17, "NotEmpty", "scope") "NotEmpty.__init__",
  dE (18, "NothingToUndo", "count") "NothingToUndo.__init__",
  dE (19, "BadText", "line") "BadText.__init__",
  dE (20, "BadLine", "line") "BadLine.__init__"]
def fn : List He.DefD := fnD ++ fnE
def fa : List He.Fa := [.glo "RenameError", .glo "_law_hand", .glo "_law_take", .glo "_law_pick", .glo "_law_kinds", .glo "_law_made", .glo "_law_fields", .glo "law",
  .free "abs", .free "int", .free "len", .free "range", .free "max", .free "min", .free "isinstance", .free "enumerate", .free "ValueError", .free "repr",
  .glo "NoScope", .glo "NoDeclaration", .glo "BadName", .glo "BadNaming", .glo "BadProgram", .glo "BadPool", .glo "BadPlan", .glo "Unsafe", .glo "Clash", .glo "TooFewNames", .glo "TooMany", .glo "TooLarge", .glo "OutOfScope", .glo "MissingUse", .glo "StillUsed", .glo "NotEmpty", .glo "NothingToUndo", .glo "BadText", .glo "BadLine"]
def oneB (K : PySem.W.Frag) (a b : Addr) (r : Bool) : Bool := decide (PySem.W.kitOne K (.ref a) (.ref b) = some r)
def rowB (K : PySem.W.Frag) (a : Addr) (i : Nat) : Nat → List Addr → Bool
  | _, [] => true
  | j, b :: r => oneB K a b (j == i) && rowB K a i (j + 1) r
def allB (K : PySem.W.Frag) (as : List Addr) : Nat → List Addr → Bool
  | _, [] => true
  | i, a :: r => rowB K a i 0 as && allB K as (i + 1) r
def cs (K : PySem.W.Frag) : List Addr := errs.map fun q => He.ga K q.2.1
def ex (K : PySem.W.Frag) : Bool := (errs.all fun q => errB K (He.ga K q.2.1) (He.ma K (He.ga K q.2.1) "__init__") &&
    (eqOO (PySem.W.findIn K (.ref (He.ga K q.2.1)) q.2.2) (some none) && (oneB K (He.ga K q.2.1) (He.ga K "RenameError") true &&
      decide (PySem.W.kitOne K (.ref (He.ga K q.2.1)) (.type "ValueError") = some true)))) && allB K (cs K) 0 (cs K)
def loose : List Str := ["RenameError", "NoScope", "NoDeclaration", "BadName", "BadNaming", "BadProgram", "BadPool", "BadPlan", "Unsafe", "Clash", "TooFewNames", "TooMany", "TooLarge", "OutOfScope", "MissingUse", "StillUsed", "NotEmpty", "NothingToUndo", "BadText", "BadLine", "_law_hand", "_law_take", "_law_pick", "_law_kinds", "_law_made", "_law_fields"]
abbrev R : PySem.W.OpenRow := PySem.W.OpenLaw.row PySem.Challenge.rw_renamesteps_k71_errors_and_their_values
abbrev hk : PySem.W.Hook := hookY 5 fa fn ex
def ob (s : PySem.W.SharedT) : AlY := obsY 5 fa fn ex (HandSHeadRun.getT s)
theorem ob_eq (s : PySem.W.SharedT) : ob s = hk.obs s.abs := obsY_eq (HandSHeadRun.getT_eq s)
theorem run (w : World) : HandSHeadRun.RunEq R (PySem.W.view R.prog [28]) hk ob 8000 loose w := by
  intro os
  kernel_rfl
end K71
set_option Elab.async false
set_option linter.all false
set_option maxRecDepth 100000
set_option maxHeartbeats 4000000
namespace K71
open PySem PySem.Spec PyProof.Rows L2
abbrev FnP (K : PySem.W.Frag) (x : Str) (st : Stmt) (f : Addr) (fd : FuncData) : Prop :=
  FunD K x x (defArgs st) (defBody st) (defScope st) [] [] f fd
/-! ### the hand: a list of three numbers -/
def HandL (L : List V) (T : Int) : Prop := ∃ g m t : Int, L = [.int g, .int m, .int t] ∧ 0 ≤ g ∧ 0 ≤ m ∧ m < 2305843009213693952 ∧ 0 ≤ t ∧ t ≤ T
theorem HandL.mono {L : List V} {T U : Int} (h : HandL L T) (l : T ≤ U) : HandL L U := by
  obtain ⟨g, m, t, e, h1, h2, h3, h4, h5⟩ := h
  exact ⟨g, m, t, e, h1, h2, h3, h4, by omega⟩
def HandAt (H : Hp) (a : Addr) (T : Int) : Prop := ∃ L, H a = some (.lst L) ∧ HandL L T
theorem HandAt.mono {H : Hp} {a : Addr} {T U : Int} (h : HandAt H a T) (l : T ≤ U) : HandAt H a U := by
  obtain ⟨L, e, h⟩ := h
  exact ⟨L, e, h.mono l⟩
/-- all that stood stands, but what is at a -/
def SameX (a : Addr) (H H' : Hp) : Prop := ∀ b o, b ≠ a → H b = some o → H' b = some o
theorem SameX.trans {a : Addr} {H H1 H2 : Hp} (h : SameX a H H1) (k : SameX a H1 H2) : SameX a H H2 := fun b o n e => k b o n (h b o n e)
theorem SameX.of {a : Addr} {H H' : Hp} (h : Same H H') : SameX a H H' := fun b o _ e => h b o e
theorem SameX.upd {a : Addr} {H : Hp} {o : HO} : SameX a H (upd H a o) := fun b u n e => by
  rw [upd_ne n]
  exact e
theorem SameX.sq {K : PySem.W.Frag} {a b : Addr} {H H' : Hp} {xs : List V} (h : SameX a H H') (n : b ≠ a) (q : SqL K H b xs) : SqL K H' b xs := by
  rcases q with q | q
  · rcases q with q | ⟨u, q⟩
    · exact .inl (.inl (h b _ n q))
    · exact .inl (.inr ⟨u, h b _ n q⟩)
  · exact .inr q
theorem same_new {H : Hp} {p : Addr} {o : HO} (h : H p = none) : Same H (upd H p o) := fun b x e => by
  rw [upd_ne (ne_of_none e h)]
  exact e
def spTake : Sp := fun vs H Q _ => ∃ (a : Addr) (n T : Int), vs = [.ref a, .int n] ∧ HandAt H a T ∧ T ≤ 100000 ∧ 0 < n ∧ n < 1073741824 ∧
  ∀ (H' : Hp) (d : Int), SameX a H H' → HandAt H' a (T + 1) → 0 ≤ d → d < n → Q (.int d) H'
def primesV : List V := [.int 2147483647, .int 2147483629, .int 2147483587, .int 2147483579, .int 2147483563, .int 2147483549]
theorem primes_at {i : Int} (h0 : 0 ≤ i) (h1 : i < 6) : ∃ p : Int, atI primesV i = some (.int p) ∧ 0 < p ∧ p ≤ 2147483647 := by
  have c : i = 0 ∨ i = 1 ∨ i = 2 ∨ i = 3 ∨ i = 4 ∨ i = 5 := by omega
  rcases c with rfl | rfl | rfl | rfl | rfl | rfl
  · exact ⟨_, rfl, by decide, by decide⟩
  · exact ⟨_, rfl, by decide, by decide⟩
  · exact ⟨_, rfl, by decide, by decide⟩
  · exact ⟨_, rfl, by decide, by decide⟩
  · exact ⟨_, rfl, by decide, by decide⟩
  · exact ⟨_, rfl, by decide, by decide⟩
theorem mix_bound {m u : Int} (h0 : 0 ≤ m) (h1 : m < 2305843009213693952) (u0 : 0 ≤ u) (u1 : u ≤ 100001) :
    (-(2 ^ 64) < 65537 * u ∧ 65537 * u < 2 ^ 64) ∧ (m + 65537 * u * u + 31 * u).natAbs < 2 ^ 64 := by
  have sq : u * u ≤ 100001 * 100001 := Int.mul_le_mul u1 u1 u0 (by decide)
  have s0 : 0 ≤ u * u := Int.mul_nonneg u0 u0
  rw [Int.mul_assoc]
  generalize u * u = z at sq s0
  have e : (2 : Int) ^ 64 = 18446744073709551616 := by decide
  have e2 : (2 : Nat) ^ 64 = 18446744073709551616 := by decide
  rw [e, e2]
  omega
section
variable {P : Program} {w : World} {K : PySem.W.Frag} {mg : Str → Option Value} {base : Heap}
theorem scTake : FnScope ["_law_hand_here", "_law_many", "_law_digit", "_law_turn", "_law_prime", "_law_mixed"] ["_law_hand_here", "_law_many"] (defScope s_law_take) :=
  ⟨rfl, rfl, rfl, by decide +kernel, rfl, by decide +kernel, by decide +kernel⟩
theorem ok_take {f : Addr} {fd : FuncData} (F : FnP K "_law_take" s_law_take f fd) : FnOk P w K mg base CX0 1 f fd ["_law_hand_here", "_law_many"] spTake := by
  refine F.ok scTake (fun vs H Q E h => ?_) (fun cdv A outer s H vs Q E hr h => ?_)
  · obtain ⟨a, n, T, rfl, _⟩ := h
    rfl
  · obtain ⟨a, n, T, rfl, ⟨L, ea, g, m, t, rfl, hg, hm0, hm1, ht0, ht1⟩, hT, hn0, hn1, q⟩ := h
    refine ⟨_, PSs.nox (pss_cons
      (ps_if (pt_cmpR op_gt (pe_ix ix_list (pv 0) pe_int (fun _ _ => rfl)) pe_int (nomark _))
        (pss_cons (ps_set (i := 2) scTake.nd rfl (.inl rfl) (pe_op op_mod (pe_ix ix_list (pv 0) pe_int (fun _ _ => rfl)) (pv 1)))
        (pss_cons (ps_asg (pe_op op_fdiv (pe_ix ix_list (pv 0) pe_int (fun _ _ => rfl)) (pv 1)) (pg_sub (pv 0) pe_int set_list))
        (pss_one (ps_ret (pv 2))))) pss_nil)
      (pss_cons (ps_set (i := 3) scTake.nd rfl (.inl rfl) (pe_op op_add (pe_ix ix_list (pv 0) pe_int (fun _ _ => rfl)) pe_int))
      (pss_cons (ps_asg (pv 3) (pg_sub (pv 0) pe_int set_list))
      (pss_cons (ps_set (i := 4) scTake.nd rfl (.inl rfl)
        (pe_ix ix_list (pe_lst (pa_cons pe_int (pa_cons pe_int (pa_cons pe_int (pa_cons pe_int (pa_cons pe_int (pa_cons pe_int pa_nil)))))))
          (pe_op op_mod (pv 3) pe_int) (fun _ _ => rfl)))
      (pss_cons (ps_set (i := 5) scTake.nd rfl (.inl rfl)
        (pe_op op_mod (pe_op op_pow (pe_op op_add (pe_op op_add (pe_ix ix_list (pv 0) pe_int (fun _ _ => rfl))
          (pe_op op_mul (pe_op op_mul pe_int (pv 3)) (pv 3))) (pe_op op_mul pe_int (pv 3))) pe_int) (pv 4)))
      (pss_one (ps_ret (pe_op op_mod (pe_op op_fdiv (pe_op op_mod (pe_op op_mul (pv 5) (pe_op op_add (pe_op op_mod (pv 5) pe_int)
        (pe_op op_mul pe_int (pv 3)))) pe_int) pe_int) (pv 1))))))))), ?_⟩
    refine ⟨.ref a, rfl, a, _, 0, .int g, rfl, rfl, .of ea, rfl, g, 0, rfl, rfl, _, rfl, ite2 (fun c => ?_) (fun c => ?_)⟩
    · have gp : 0 < g := of_decide_eq_true c
      refine ⟨.ref a, rfl, a, _, 0, .int g, rfl, rfl, .of ea, rfl, .int n, rfl, g, n, rfl, rfl, hn0, ?_⟩
      refine ⟨.ref a, rfl, a, _, 0, .int g, rfl, rfl, .of ea, rfl, .int n, rfl, g, n, rfl, rfl, ⟨hn0, hn1⟩, ?_⟩
      refine ⟨.ref a, rfl, a, _, 0, 0, rfl, rfl, ea, rfl, _, rfl, ?_⟩
      exact q _ _ .upd ⟨_, upd_same, g / n, m, t, rfl, Int.ediv_nonneg hg (Int.le_of_lt hn0), hm0, hm1, ht0, by omega⟩ (Int.emod_nonneg _ (by omega)) (Int.emod_lt_of_pos _ hn0)
    · refine ⟨.ref a, rfl, a, _, 2, .int t, rfl, rfl, .of ea, rfl, t, 1, rfl, rfl, ?_⟩
      refine ⟨.int (t + 1), rfl, .ref a, rfl, a, _, 2, 2, rfl, rfl, ea, rfl, ?_⟩
      refine ⟨by show 6 ≤ sizeLine; decide, fun p np => ?_⟩
      have u0 : 0 ≤ t + 1 := by omega
      have u1 : t + 1 ≤ 100001 := by omega
      obtain ⟨pr, hpr, p0, p1⟩ := primes_at (i := (t + 1) % 6) (Int.emod_nonneg _ (by decide)) (Int.emod_lt_of_pos _ (by decide))
      obtain ⟨mb1, mb2⟩ := mix_bound (m := m) (u := t + 1) hm0 hm1 u0 u1
      refine ⟨.int (t + 1), rfl, t + 1, 6, rfl, rfl, (by show (0 : Int) < 6; decide), p, primesV, (t + 1) % 6, .int pr, rfl, rfl, .of upd_same, hpr, ?_⟩
      have nap : a ≠ p := fun z => by
        subst z
        rw [upd_same] at np
        cases np
      have ea2 : upd (upd H a (.lst ([V.int g, V.int m, V.int t].set 2 (V.int (t + 1))))) p (.lst primesV) a = some (.lst [V.int g, V.int m, V.int (t + 1)]) := by
        rw [upd_ne nap, upd_same]
        rfl
      refine ⟨.ref a, rfl, a, _, 1, .int m, rfl, rfl, .of ea2, rfl, .int (t + 1), rfl, 65537, t + 1, rfl, rfl, .inl ⟨by decide, by decide⟩,
        .int (t + 1), rfl, 65537 * (t + 1), t + 1, rfl, rfl, .inl mb1, m, 65537 * (t + 1) * (t + 1), rfl, rfl,
        .int (t + 1), rfl, 31, t + 1, rfl, rfl, .inl ⟨by decide, by decide⟩, _, _, rfl, rfl, _, 3, rfl, rfl, ⟨by decide, by decide, mb2⟩,
        .int pr, rfl, _, pr, rfl, rfl, p0, ?_⟩
      have x0 := Int.emod_nonneg ((m + 65537 * (t + 1) * (t + 1) + 31 * (t + 1)) ^ (3 : Int).toNat) (show pr ≠ 0 by omega)
      have x1 := Int.emod_lt_of_pos ((m + 65537 * (t + 1) * (t + 1) + 31 * (t + 1)) ^ (3 : Int).toNat) p0
      refine ⟨_, rfl, _, rfl, _, 10007, rfl, rfl, (by show (0 : Int) < 10007; decide), .int (t + 1), rfl, 13, t + 1, rfl, rfl, .inl ⟨by decide, by decide⟩, _, _, rfl, rfl,
        _, _, rfl, rfl, .inl ⟨Int.lt_of_lt_of_le (by decide) x0, Int.lt_trans x1 (Int.lt_of_le_of_lt p1 (by decide))⟩, _, 2305843009213693907, rfl, rfl, (by show (0 : Int) < 2305843009213693907; decide), _, 97, rfl, rfl, ⟨by decide, by decide⟩, .int n, rfl, _, n, rfl, rfl, hn0, ?_⟩
      refine q _ _ (SameX.upd.trans (.of (same_new np))) ⟨_, ea2, g, m, t + 1, rfl, hg, hm0, hm1, u0, by omega⟩ (Int.emod_nonneg _ (by omega)) (Int.emod_lt_of_pos _ hn0)
def spPick (K : PySem.W.Frag) : Sp := fun vs H Q _ => ∃ (a b : Addr) (T : Int) (xs : List V), vs = [.ref a, .ref b] ∧ HandAt H a T ∧ T ≤ 100000 ∧ SqL K H b xs ∧ xs ≠ [] ∧ xs.length < 1073741824 ∧ b ≠ a ∧
  ∀ (H' : Hp) (x : V), SameX a H H' → HandAt H' a (T + 1) → x ∈ xs → Q x H'
theorem scPick : FnScope ["_law_hand_here", "_law_items"] ["_law_hand_here", "_law_items"] (defScope s_law_pick) :=
  ⟨rfl, rfl, rfl, by decide +kernel, rfl, by decide +kernel, by decide +kernel⟩
theorem ok_pick {f fT : Addr} {fd fdT : FuncData} (F : FnP K "_law_pick" s_law_pick f fd) (FT : FnP K "_law_take" s_law_take fT fdT)
    (gT : mg "_law_take" = some (.ref fT)) (ml : mg "len" = none) : FnOk P w K mg base CX0 2 f fd ["_law_hand_here", "_law_items"] (spPick K) := by
  have GT : FnOk P w K mg base CX0 1 fT fdT ["_law_hand_here", "_law_many"] spTake := ok_take FT
  have bT : Binds K fdT ["_law_hand_here", "_law_many"] [] := FT.bindsN fun _ _ _ _ _ _ us hl => match us, hl with | [_, _], _ => rfl
  refine F.ok scPick (fun vs H Q E h => ?_) (fun cdv A outer s H vs Q E hr h => ?_)
  · obtain ⟨a, b, T, xs, rfl, _⟩ := h
    rfl
  · obtain ⟨a, b, T, xs, rfl, hA, hT, hS, hne, hlen, hab, q⟩ := h
    refine ⟨_, PSs.nox (pss_one (ps_ret (pe_ix ix_list (pv 1)
      (pe_call GT hr (by rfl) gT FT.kp bT .nil pass0 (pa_cons (pv 0) (pa_cons (pe_callB call_len_seq (by rfl) ml PySem.boot_len (pa_cons (pv 1) pa_nil)) pa_nil))) (fun _ _ => rfl)))), ?_⟩
    have l0 : 0 < xs.length := List.length_pos_iff.mpr hne
    refine ⟨.ref b, rfl, .ref a, rfl, .ref b, rfl, b, xs, rfl, .inl hS, a, (xs.length : Int), T, rfl, hA, hT, by omega, by omega, fun H' d sx ha d0 d1 => ?_⟩
    obtain ⟨j, rfl⟩ : ∃ j : Nat, d = (j : Int) := ⟨d.toNat, by omega⟩
    have hj : j < xs.length := by omega
    exact ⟨b, xs, (j : Int), xs[j], rfl, rfl, sx.sq hab hS, atI_nat (List.getElem?_eq_getElem hj), q H' _ sx ha (List.getElem_mem hj)⟩
def spHand (K : PySem.W.Frag) : Sp := fun vs H Q _ => ∃ (a : Addr) (k : Int) (ns : List Int), vs = [.ref a, .int k] ∧ SqL K H a (ns.map V.int) ∧ 0 ≤ k ∧ k ≤ 1000 ∧
  ∀ (p : Addr) (L : List V), H p = none → HandL L 0 → Q (.ref p) (upd H p (.lst L))
theorem scHand : FnScope ["_law_script", "_law_k", "_law_cell", "_law_great"] ["_law_script", "_law_k"] (defScope s_law_hand) :=
  ⟨rfl, rfl, rfl, by decide +kernel, rfl, by decide +kernel, by decide +kernel⟩
set_option exponentiation.threshold 1000 in
theorem ten60 : ((10 : Int) ^ (60 : Int).toNat).natAbs < 2 ^ 200 := by decide
def big4 : Int := 10 ^ (60 : Int).toNat * 10 ^ (60 : Int).toNat * 10 ^ (60 : Int).toNat * 10 ^ (60 : Int).toNat
theorem big4_pos : 0 < big4 := by decide
set_option exponentiation.threshold 1000 in
theorem big4_lt : big4.natAbs < 2 ^ 800 := by decide
set_option exponentiation.threshold 1000 in
theorem mod_lt (i : Int) : (i % big4).natAbs < 2 ^ 800 := wide_le (Int.emod_nonneg _ (Int.ne_of_gt big4_pos)) (Int.le_of_lt (Int.emod_lt_of_pos _ big4_pos)) big4_lt
theorem bit_lt (b : Bool) : (if b = true then (1 : Int) else 0).natAbs < 2 ^ 1 := by cases b <;> decide
theorem bit_nn (b : Bool) : 0 ≤ (if b = true then (1 : Int) else 0) := by cases b <;> decide
abbrev rAbs : List V → Hp → VK → Prop := fun xs H Q => ∃ i, xs = [.int i] ∧ Q (.int (if i < 0 then -i else i)) H
abbrev tPw : TE := tOp (rI CPow fun i j => .int (i ^ j.toNat)) (tC (.int 10)) (tC (.int 60))
abbrev rMW : R2 := rI CMulW fun i j => .int (i * j)
abbrev rM : R2 := rI CMul fun i j => .int (i * j)
abbrev rMd : R2 := rI (fun _ j => 0 < j) fun i j => .int (i % j)
abbrev rIn1 : List V → Hp → VK → Prop := fun xs H Q => (∃ i, xs = [.int i] ∧ Q (.int i) H) ∨ ∃ k, xs = [.bl k] ∧ Q (.int (if k then 1 else 0)) H
abbrev rPl : R2 := rI0 fun i j => .int (i + j)
set_option exponentiation.threshold 1000 in
theorem hand_rest {H : Hp} {D : Ends} {a : Addr} (c k : Int) (k0 : 0 ≤ k) (k1 : k ≤ 1000) (q : ∀ (p : Addr) (L : List V), H p = none → HandL L 0 → D.rt (.ref p) (upd H p (.lst L))) :
    tSeq (tAsg (tOp rMW (tOp rMd (tCB rAbs (tCons (tVar 2) tNil)) (tOp rMW (tOp rMW (tOp rMW tPw tPw) tPw) tPw))
        (tCB rIn1 (tCons (tOp (rI0 fun i j => .bl (decide (j ≤ i))) (tCB rAbs (tCons (tVar 2) tNil)) (tOp (rI CPow fun i j => .int (i ^ j.toNat)) (tC (.int 10)) (tC (.int 18)))) tNil))) (gName 3))
      (tRet (tLst (tCons (tVar 3) (tCons (tOp rMd (tOp rM (tOp rPl (tOp rPl (tOp rMd (tVar 2) (tC (.int 2305843009213693951)))
        (tOp rM (tOp rM (tC (.int 104729)) (tVar 1)) (tVar 1))) (tC (.int 29))) (tC (.int 48271))) (tC (.int 2305843009213693921))) (tCons (tC (.int 0)) tNil)))))
      D [some (.ref a), some (.int k), some (.int c), none] H := by
  refine ⟨.int c, rfl, c, rfl, 10, 60, rfl, rfl, ⟨by decide, by decide, by decide⟩, 10, 60, rfl, rfl, ⟨by decide, by decide, by decide⟩,
    _, _, rfl, rfl, wide_mul ten60 ten60 (by decide) (by decide) (by decide), 10, 60, rfl, rfl, ⟨by decide, by decide, by decide⟩,
    _, _, rfl, rfl, wide_mul (wide_lt ten60 ten60) ten60 (by decide) (by decide) (by decide), 10, 60, rfl, rfl, ⟨by decide, by decide, by decide⟩,
    _, _, rfl, rfl, wide_mul (wide_lt (wide_lt ten60 ten60) ten60) ten60 (by decide) (by decide) (by decide), _, big4, rfl, rfl, big4_pos, ?_⟩
  refine ⟨.int c, rfl, c, rfl, 10, 18, rfl, rfl, ⟨by decide, by decide, by decide⟩, _, _, rfl, rfl, .inr ⟨_, rfl, _, _, rfl, rfl, wide_mul (mod_lt _) (b := 1) (bit_lt _) (by decide) (by decide) (by decide), ?_⟩⟩
  refine ⟨_, rfl, .int c, rfl, c, 2305843009213693951, rfl, rfl, (by show (0 : Int) < 2305843009213693951; decide), .int k, rfl, 104729, k, rfl, rfl, .inl ⟨by decide, by decide⟩,
    .int k, rfl, 104729 * k, k, rfl, rfl, .inl ⟨by omega, by omega⟩, _, _, rfl, rfl, _, 29, rfl, rfl, _, 48271, rfl, rfl, .inr ⟨by decide, by decide⟩, _, 2305843009213693921, rfl, rfl,
    (by show (0 : Int) < 2305843009213693921; decide), (by show 3 ≤ sizeLine; decide), fun p np => q p _ np ⟨_, _, 0, rfl, ?_, ?_, ?_, by decide, by decide⟩⟩
  · exact Int.mul_nonneg (Int.emod_nonneg _ (Int.ne_of_gt big4_pos)) (bit_nn _)
  · exact Int.emod_nonneg _ (by decide)
  · exact Int.lt_trans (Int.emod_lt_of_pos _ (by decide)) (by decide)
theorem ok_hand {f : Addr} {fd : FuncData} (F : FnP K "_law_hand" s_law_hand f fd) (ml : mg "len" = none) (ma : mg "abs" = none) (mi : mg "int" = none) :
    FnOk P w K mg base CX0 1 f fd ["_law_script", "_law_k"] (spHand K) := by
  refine F.ok scHand (fun vs H Q E h => ?_) (fun cdv A outer s H vs Q E hr h => ?_)
  · obtain ⟨a, k, ns, rfl, _⟩ := h
    rfl
  · obtain ⟨a, k, ns, rfl, hS, k0, k1, q⟩ := h
    refine ⟨_, PSs.nox (pss_cons (ps_set (i := 2) scHand.nd rfl (.inl rfl)
        (pe_ifExp (pt_cmpR op_lt (pv 1) (pe_callB call_len_seq (by rfl) ml PySem.boot_len (pa_cons (pv 0) pa_nil)) (nomark _))
          (pe_ix ix_list (pv 0) (pv 1) (fun _ _ => rfl)) (pe_op op_add (pe_op op_mul pe_int (pv 1)) pe_int)))
      (pss_cons (ps_set (i := 3) scHand.nd rfl (.inl rfl)
        (pe_op op_mulW (pe_op op_mod (pe_callB call_abs (by rfl) ma (by decide +kernel) (pa_cons (pv 2) pa_nil))
          (pe_op op_mulW (pe_op op_mulW (pe_op op_mulW (pe_op op_pow pe_int pe_int) (pe_op op_pow pe_int pe_int)) (pe_op op_pow pe_int pe_int)) (pe_op op_pow pe_int pe_int)))
          (pe_callTy call_int1 (by rfl) mi (by decide +kernel) (pa_cons (pe_cmpR op_ge (pe_callB call_abs (by rfl) ma (by decide +kernel) (pa_cons (pv 2) pa_nil))
            (pe_op op_pow pe_int pe_int) (nomark _)) pa_nil))))
      (pss_one (ps_ret (pe_lst (pa_cons (pv 3) (pa_cons (pe_op op_mod (pe_op op_mul (pe_op op_add (pe_op op_add (pe_op op_mod (pv 2) pe_int)
        (pe_op op_mul (pe_op op_mul pe_int (pv 1)) (pv 1))) pe_int) pe_int) pe_int) (pa_cons pe_int pa_nil)))))))), ?_⟩
    refine ⟨.int k, rfl, .ref a, rfl, a, _, rfl, .inl hS, k, _, rfl, rfl, _, rfl, ite2 (fun c => ?_) (fun c => ?_)⟩
    · have hk : k < ((ns.map V.int).length : Int) := of_decide_eq_true c
      rw [List.length_map] at hk
      obtain ⟨j, rfl⟩ : ∃ j : Nat, k = (j : Int) := ⟨k.toNat, by omega⟩
      have hj : j < ns.length := by omega
      refine ⟨.ref a, rfl, .int j, rfl, a, _, (j : Int), .int ns[j], rfl, rfl, hS, atI_nat (by rw [List.getElem?_map, List.getElem?_eq_getElem hj]; rfl), ?_⟩
      refine hand_rest ns[j] j k0 k1 q
    · refine ⟨.int k, rfl, 7, k, rfl, rfl, .inl ⟨by decide, by decide⟩, _, 3, rfl, rfl, ?_⟩
      refine hand_rest (7 * k + 3) k k0 k1 q
end
end K71
set_option Elab.async false
set_option linter.all false
set_option maxRecDepth 100000
set_option maxHeartbeats 4000000
namespace K71
open PySem PySem.Spec PyProof.Rows L2
/-! ### weaker readings -/
theorem paI {X : Cx} {es : List Expr} {t u : TA} (h : PA X es t) (k : ∀ σ H Q, u σ H Q → t σ H Q) : PA X es u :=
  ⟨fun pos pins s σ H Q I z => h.run pos pins s σ H Q I (k σ H Q z)⟩
/-! ### errors made, one after another -/
def Made (H : Hp) (v : V) : List (Addr × Str) → List V → Prop
  | [], vs => vs = []
  | q :: r, vs => ∃ (a d : Addr) (rest : List V), vs = .ref a :: rest ∧ H a = some (exo a q.1 (some d)) ∧ H d = some (exd d [(q.2, v)]) ∧ Made H v r rest
theorem Made.same {H H' : Hp} {v : V} (s : Same H H') : ∀ {l : List (Addr × Str)} {vs : List V}, Made H v l vs → Made H' v l vs
  | [], _, h => h
  | _ :: _, _, ⟨a, d, rest, e, e1, e2, m⟩ => ⟨a, d, rest, e, s _ _ e1, s _ _ e2, Made.same s m⟩
theorem Made.cat {H : Hp} {v : V} {r : List (Addr × Str)} {ws : List V} (k : Made H v r ws) : ∀ {l : List (Addr × Str)} {vs : List V}, Made H v l vs → Made H v (l ++ r) (vs ++ ws)
  | [], _, h => by
    have e : _ = [] := h
    subst e
    exact k
  | _ :: _, _, ⟨a, d, rest, e, e1, e2, m⟩ => by
    subst e
    exact ⟨a, d, rest ++ ws, rfl, e1, e2, Made.cat k m⟩
theorem Made.len {H : Hp} {v : V} : ∀ {l : List (Addr × Str)} {vs : List V}, Made H v l vs → vs.length = l.length
  | [], _, h => by
    have e : _ = [] := h
    subst e
    rfl
  | _ :: _, _, ⟨a, d, rest, e, e1, e2, m⟩ => by
    subst e
    show rest.length + 1 = _ + 1
    rw [Made.len m]
theorem Made.get {H : Hp} {v : V} : ∀ {l : List (Addr × Str)} {vs : List V} {i : Nat} {x : V}, Made H v l vs → vs[i]? = some x →
    ∃ (q : Addr × Str) (a d : Addr), l[i]? = some q ∧ x = .ref a ∧ H a = some (exo a q.1 (some d)) ∧ H d = some (exd d [(q.2, v)])
  | [], _, i, x, h, e => by
    have z : _ = [] := h
    subst z
    simp at e
  | q :: _, _, 0, x, ⟨a, d, rest, z, e1, e2, m⟩, e => by
    subst z
    have e' : V.ref a = x := Option.some.inj e
    exact ⟨q, a, d, rfl, e'.symm, e1, e2⟩
  | _ :: _, _, i + 1, x, ⟨a, d, rest, z, e1, e2, m⟩, e => by
    subst z
    exact Made.get (i := i) m e
def tErrs (l : List (Addr × Str)) : TA := fun σ H Q => ∃ v, σ[0]? = some (some v) ∧ ∀ vs H', Same H H' → Made H' v l vs → Q vs H'
theorem small_n {α : Type} {l : List α} {n : Nat} (e : l.length = n) (h : n ≤ 1000) : l.length ≤ sizeLine := by
  rw [e]
  exact Nat.le_of_lt (small1000 h)
theorem pa_e0 {X : Cx} : PA X [] (tErrs []) := paI pa_nil fun σ H Q ⟨v, _, k⟩ => k [] H (Same.refl H) rfl
theorem pa_e1 {X : Cx} {e : Expr} {es : List Expr} {C : Addr} {f : Str} {l : List (Addr × Str)} (h : PE X e (tErr C f (tVar 0))) (r : PA X es (tErrs l))
    (hs : starEach (e :: es) X.env = (false, eval e X.env) :: starEach es X.env := by rfl) : PA X (e :: es) (tErrs ((C, f) :: l)) :=
  paI (pa_cons h r hs) fun σ H Q ⟨v, hv, k⟩ => ⟨v, hv, v, rfl, fun a H2 n => ⟨v, hv, fun vs H3 s3 m3 => by
    obtain ⟨d, e1, e2⟩ := n.obj
    exact k (.ref a :: vs) H3 (n.same.trans s3) ⟨a, d, vs, rfl, s3 _ _ e1, s3 _ _ e2, m3⟩⟩⟩
/-! ### isinstance, one class after another -/
def KitL (K : PySem.W.Frag) (C : Addr) : List Addr → List Bool → Prop
  | [], bs => bs = []
  | c :: r, bs => ∃ b rest, bs = b :: rest ∧ PySem.W.kitOne K (.ref C) (.ref c) = some b ∧ KitL K C r rest
theorem KitL.cat {K : PySem.W.Frag} {C : Addr} : ∀ {l r : List Addr} {bs : List Bool}, KitL K C (l ++ r) bs → ∃ xs ys, bs = xs ++ ys ∧ KitL K C l xs ∧ KitL K C r ys
  | [], r, bs, h => ⟨[], bs, rfl, rfl, h⟩
  | c :: l, r, bs, ⟨b, rest, e, k, h⟩ => by
    obtain ⟨xs, ys, e2, h1, h2⟩ := KitL.cat h
    subst e e2
    exact ⟨b :: xs, ys, rfl, ⟨b, xs, rfl, k, h1⟩, h2⟩
theorem KitL.len {K : PySem.W.Frag} {C : Addr} : ∀ {l : List Addr} {bs : List Bool}, KitL K C l bs → bs.length = l.length
  | [], _, h => by
    have e : _ = [] := h
    subst e
    rfl
  | _ :: _, _, ⟨b, rest, e, k, h⟩ => by
    subst e
    show rest.length + 1 = _ + 1
    rw [KitL.len h]
/-- the error in slot 0, of the class at C -/
def Err0 (K : PySem.W.Frag) (C : Addr) (σ : L2.St) (H : Hp) : Prop := ∃ (a fI d : Addr) (fs : List (Str × V)), σ[0]? = some (some (.ref a)) ∧ H a = some (exo a C (some d)) ∧ H d = some (exd d fs) ∧ ErrC K C fI
def tIss (K : PySem.W.Frag) (l : List Addr) : TA := fun σ H Q => ∃ C bs, Err0 K C σ H ∧ KitL K C l bs ∧ Q (bs.map V.bl) H
theorem pa_i0 {X : Cx} : PA X [] (tIss X.K []) := paI pa_nil fun σ H Q ⟨C, bs, _, e, k⟩ => by
  have z : bs = [] := e
  subst z
  exact k
theorem pa_i1 {X : Cx} {x : Str} {es : List Expr} {C : Addr} {p1 p2 pos : Pos} {e : Expr} {l : List Addr} (hg : Gl X "isinstance") (hm : X.mg "isinstance" = none) (he : PE X e (tVar 0))
    (hx : Gl X x) (gx : X.mg x = some (.ref C)) (r : PA X es (tIss X.K l)) (hd : (x == ("__debug__" : Str)) = false := by decide)
    (h1 : starEach (e :: [.Name x p2]) X.env = (false, eval e X.env) :: starEach [.Name x p2] X.env := by rfl)
    (h2 : starEach [.Name x p2] X.env = (false, eval (.Name x p2) X.env) :: starEach [] X.env := by rfl)
    (h3 : (backTo pos (starEach [.Name x p2] X.env)).any (·.1) = false := by rfl)
    (hs : starEach ((.Call (.Name "isinstance" p1) [e, .Name x p2] [] pos) :: es) X.env = (false, eval (.Call (.Name "isinstance" p1) [e, .Name x p2] [] pos) X.env) :: starEach es X.env := by rfl) :
    PA X ((.Call (.Name "isinstance" p1) [e, .Name x p2] [] pos) :: es) (tIss X.K (C :: l)) :=
  paI (pa_cons (pe_callB call_isX hg hm (by decide +kernel) (pa_cons he (pa_cons (pe_glob (v := .ref C) hx gx rfl hd) pa_nil h2) h1) (by decide) (by decide) h1 h3) r hs)
    fun σ H Q ⟨C', bs, ⟨a, fI, d, fs, h0, ea, ed, T⟩, ⟨b, rest, e, k, kl⟩, q⟩ => by
      subst e
      exact ⟨.ref a, h0, a, C', fI, d, .ref C, .ref C, b, rfl, ea, ⟨fs, ed⟩, T, .own C, k, C', rest, ⟨a, fI, d, fs, h0, ea, ed, T⟩, kl, q⟩
/-! ### the texts -/
section
variable {P : Program} {w : World} {K : PySem.W.Frag} {mg : Str → Option Value} {base : Heap}
theorem sci0 : FnScope ["self", "scope"] ["self", "scope"] (defScope (sIn 2)) := ⟨rfl, rfl, rfl, by decide +kernel, rfl, by decide +kernel, by decide +kernel⟩
theorem ok_i0 {fI C : Addr} {fd : FuncData} (F : FunD K "__init__" "NoScope.__init__" (defArgs (sIn 2)) (defBody (sIn 2)) (defScope (sIn 2)) [] [] fI fd) (T : ErrC K C fI)
    (n : PySem.W.findIn K (.ref C) "scope" = some none) : FnOk P w K mg base CX0 1 fI fd ["self", "scope"] (spInit C "scope") := by
  refine F.ok sci0 (fun vs H Q E h => ?_) (fun cdv A outer s H vs Q E hr h => ?_)
  · obtain ⟨a, v, rfl, _⟩ := h
    rfl
  · obtain ⟨a, v, rfl, ea, q⟩ := h
    exact ⟨_, PSs.nox (pss_one (ps_ost (pv 0) (pv 1))), v, rfl, .ref a, rfl, a, C, rfl, T.ox, n, .inl ⟨ea, fun dx nx ne => q dx nx ne⟩⟩
theorem sci1 : FnScope ["self", "declaration"] ["self", "declaration"] (defScope (sIn 3)) := ⟨rfl, rfl, rfl, by decide +kernel, rfl, by decide +kernel, by decide +kernel⟩
theorem ok_i1 {fI C : Addr} {fd : FuncData} (F : FunD K "__init__" "NoDeclaration.__init__" (defArgs (sIn 3)) (defBody (sIn 3)) (defScope (sIn 3)) [] [] fI fd) (T : ErrC K C fI)
    (n : PySem.W.findIn K (.ref C) "declaration" = some none) : FnOk P w K mg base CX0 1 fI fd ["self", "declaration"] (spInit C "declaration") := by
  refine F.ok sci1 (fun vs H Q E h => ?_) (fun cdv A outer s H vs Q E hr h => ?_)
  · obtain ⟨a, v, rfl, _⟩ := h
    rfl
  · obtain ⟨a, v, rfl, ea, q⟩ := h
    exact ⟨_, PSs.nox (pss_one (ps_ost (pv 0) (pv 1))), v, rfl, .ref a, rfl, a, C, rfl, T.ox, n, .inl ⟨ea, fun dx nx ne => q dx nx ne⟩⟩
theorem sci2 : FnScope ["self", "name"] ["self", "name"] (defScope (sIn 4)) := ⟨rfl, rfl, rfl, by decide +kernel, rfl, by decide +kernel, by decide +kernel⟩
theorem ok_i2 {fI C : Addr} {fd : FuncData} (F : FunD K "__init__" "BadName.__init__" (defArgs (sIn 4)) (defBody (sIn 4)) (defScope (sIn 4)) [] [] fI fd) (T : ErrC K C fI)
    (n : PySem.W.findIn K (.ref C) "name" = some none) : FnOk P w K mg base CX0 1 fI fd ["self", "name"] (spInit C "name") := by
  refine F.ok sci2 (fun vs H Q E h => ?_) (fun cdv A outer s H vs Q E hr h => ?_)
  · obtain ⟨a, v, rfl, _⟩ := h
    rfl
  · obtain ⟨a, v, rfl, ea, q⟩ := h
    exact ⟨_, PSs.nox (pss_one (ps_ost (pv 0) (pv 1))), v, rfl, .ref a, rfl, a, C, rfl, T.ox, n, .inl ⟨ea, fun dx nx ne => q dx nx ne⟩⟩
theorem sci3 : FnScope ["self", "naming"] ["self", "naming"] (defScope (sIn 5)) := ⟨rfl, rfl, rfl, by decide +kernel, rfl, by decide +kernel, by decide +kernel⟩
theorem ok_i3 {fI C : Addr} {fd : FuncData} (F : FunD K "__init__" "BadNaming.__init__" (defArgs (sIn 5)) (defBody (sIn 5)) (defScope (sIn 5)) [] [] fI fd) (T : ErrC K C fI)
    (n : PySem.W.findIn K (.ref C) "naming" = some none) : FnOk P w K mg base CX0 1 fI fd ["self", "naming"] (spInit C "naming") := by
  refine F.ok sci3 (fun vs H Q E h => ?_) (fun cdv A outer s H vs Q E hr h => ?_)
  · obtain ⟨a, v, rfl, _⟩ := h
    rfl
  · obtain ⟨a, v, rfl, ea, q⟩ := h
    exact ⟨_, PSs.nox (pss_one (ps_ost (pv 0) (pv 1))), v, rfl, .ref a, rfl, a, C, rfl, T.ox, n, .inl ⟨ea, fun dx nx ne => q dx nx ne⟩⟩
theorem sci4 : FnScope ["self", "program"] ["self", "program"] (defScope (sIn 6)) := ⟨rfl, rfl, rfl, by decide +kernel, rfl, by decide +kernel, by decide +kernel⟩
theorem ok_i4 {fI C : Addr} {fd : FuncData} (F : FunD K "__init__" "BadProgram.__init__" (defArgs (sIn 6)) (defBody (sIn 6)) (defScope (sIn 6)) [] [] fI fd) (T : ErrC K C fI)
    (n : PySem.W.findIn K (.ref C) "program" = some none) : FnOk P w K mg base CX0 1 fI fd ["self", "program"] (spInit C "program") := by
  refine F.ok sci4 (fun vs H Q E h => ?_) (fun cdv A outer s H vs Q E hr h => ?_)
  · obtain ⟨a, v, rfl, _⟩ := h
    rfl
  · obtain ⟨a, v, rfl, ea, q⟩ := h
    exact ⟨_, PSs.nox (pss_one (ps_ost (pv 0) (pv 1))), v, rfl, .ref a, rfl, a, C, rfl, T.ox, n, .inl ⟨ea, fun dx nx ne => q dx nx ne⟩⟩
theorem sci5 : FnScope ["self", "pool"] ["self", "pool"] (defScope (sIn 7)) := ⟨rfl, rfl, rfl, by decide +kernel, rfl, by decide +kernel, by decide +kernel⟩
theorem ok_i5 {fI C : Addr} {fd : FuncData} (F : FunD K "__init__" "BadPool.__init__" (defArgs (sIn 7)) (defBody (sIn 7)) (defScope (sIn 7)) [] [] fI fd) (T : ErrC K C fI)
    (n : PySem.W.findIn K (.ref C) "pool" = some none) : FnOk P w K mg base CX0 1 fI fd ["self", "pool"] (spInit C "pool") := by
  refine F.ok sci5 (fun vs H Q E h => ?_) (fun cdv A outer s H vs Q E hr h => ?_)
  · obtain ⟨a, v, rfl, _⟩ := h
    rfl
  · obtain ⟨a, v, rfl, ea, q⟩ := h
    exact ⟨_, PSs.nox (pss_one (ps_ost (pv 0) (pv 1))), v, rfl, .ref a, rfl, a, C, rfl, T.ox, n, .inl ⟨ea, fun dx nx ne => q dx nx ne⟩⟩
theorem sci6 : FnScope ["self", "plan"] ["self", "plan"] (defScope (sIn 8)) := ⟨rfl, rfl, rfl, by decide +kernel, rfl, by decide +kernel, by decide +kernel⟩
theorem ok_i6 {fI C : Addr} {fd : FuncData} (F : FunD K "__init__" "BadPlan.__init__" (defArgs (sIn 8)) (defBody (sIn 8)) (defScope (sIn 8)) [] [] fI fd) (T : ErrC K C fI)
    (n : PySem.W.findIn K (.ref C) "plan" = some none) : FnOk P w K mg base CX0 1 fI fd ["self", "plan"] (spInit C "plan") := by
  refine F.ok sci6 (fun vs H Q E h => ?_) (fun cdv A outer s H vs Q E hr h => ?_)
  · obtain ⟨a, v, rfl, _⟩ := h
    rfl
  · obtain ⟨a, v, rfl, ea, q⟩ := h
    exact ⟨_, PSs.nox (pss_one (ps_ost (pv 0) (pv 1))), v, rfl, .ref a, rfl, a, C, rfl, T.ox, n, .inl ⟨ea, fun dx nx ne => q dx nx ne⟩⟩
theorem sci7 : FnScope ["self", "index"] ["self", "index"] (defScope (sIn 9)) := ⟨rfl, rfl, rfl, by decide +kernel, rfl, by decide +kernel, by decide +kernel⟩
theorem ok_i7 {fI C : Addr} {fd : FuncData} (F : FunD K "__init__" "Unsafe.__init__" (defArgs (sIn 9)) (defBody (sIn 9)) (defScope (sIn 9)) [] [] fI fd) (T : ErrC K C fI)
    (n : PySem.W.findIn K (.ref C) "index" = some none) : FnOk P w K mg base CX0 1 fI fd ["self", "index"] (spInit C "index") := by
  refine F.ok sci7 (fun vs H Q E h => ?_) (fun cdv A outer s H vs Q E hr h => ?_)
  · obtain ⟨a, v, rfl, _⟩ := h
    rfl
  · obtain ⟨a, v, rfl, ea, q⟩ := h
    exact ⟨_, PSs.nox (pss_one (ps_ost (pv 0) (pv 1))), v, rfl, .ref a, rfl, a, C, rfl, T.ox, n, .inl ⟨ea, fun dx nx ne => q dx nx ne⟩⟩
theorem sci8 : FnScope ["self", "other"] ["self", "other"] (defScope (sIn 10)) := ⟨rfl, rfl, rfl, by decide +kernel, rfl, by decide +kernel, by decide +kernel⟩
theorem ok_i8 {fI C : Addr} {fd : FuncData} (F : FunD K "__init__" "Clash.__init__" (defArgs (sIn 10)) (defBody (sIn 10)) (defScope (sIn 10)) [] [] fI fd) (T : ErrC K C fI)
    (n : PySem.W.findIn K (.ref C) "other" = some none) : FnOk P w K mg base CX0 1 fI fd ["self", "other"] (spInit C "other") := by
  refine F.ok sci8 (fun vs H Q E h => ?_) (fun cdv A outer s H vs Q E hr h => ?_)
  · obtain ⟨a, v, rfl, _⟩ := h
    rfl
  · obtain ⟨a, v, rfl, ea, q⟩ := h
    exact ⟨_, PSs.nox (pss_one (ps_ost (pv 0) (pv 1))), v, rfl, .ref a, rfl, a, C, rfl, T.ox, n, .inl ⟨ea, fun dx nx ne => q dx nx ne⟩⟩
theorem sci9 : FnScope ["self", "needed"] ["self", "needed"] (defScope (sIn 11)) := ⟨rfl, rfl, rfl, by decide +kernel, rfl, by decide +kernel, by decide +kernel⟩
theorem ok_i9 {fI C : Addr} {fd : FuncData} (F : FunD K "__init__" "TooFewNames.__init__" (defArgs (sIn 11)) (defBody (sIn 11)) (defScope (sIn 11)) [] [] fI fd) (T : ErrC K C fI)
    (n : PySem.W.findIn K (.ref C) "needed" = some none) : FnOk P w K mg base CX0 1 fI fd ["self", "needed"] (spInit C "needed") := by
  refine F.ok sci9 (fun vs H Q E h => ?_) (fun cdv A outer s H vs Q E hr h => ?_)
  · obtain ⟨a, v, rfl, _⟩ := h
    rfl
  · obtain ⟨a, v, rfl, ea, q⟩ := h
    exact ⟨_, PSs.nox (pss_one (ps_ost (pv 0) (pv 1))), v, rfl, .ref a, rfl, a, C, rfl, T.ox, n, .inl ⟨ea, fun dx nx ne => q dx nx ne⟩⟩
theorem sci10 : FnScope ["self", "most"] ["self", "most"] (defScope (sIn 12)) := ⟨rfl, rfl, rfl, by decide +kernel, rfl, by decide +kernel, by decide +kernel⟩
theorem ok_i10 {fI C : Addr} {fd : FuncData} (F : FunD K "__init__" "TooMany.__init__" (defArgs (sIn 12)) (defBody (sIn 12)) (defScope (sIn 12)) [] [] fI fd) (T : ErrC K C fI)
    (n : PySem.W.findIn K (.ref C) "most" = some none) : FnOk P w K mg base CX0 1 fI fd ["self", "most"] (spInit C "most") := by
  refine F.ok sci10 (fun vs H Q E h => ?_) (fun cdv A outer s H vs Q E hr h => ?_)
  · obtain ⟨a, v, rfl, _⟩ := h
    rfl
  · obtain ⟨a, v, rfl, ea, q⟩ := h
    exact ⟨_, PSs.nox (pss_one (ps_ost (pv 0) (pv 1))), v, rfl, .ref a, rfl, a, C, rfl, T.ox, n, .inl ⟨ea, fun dx nx ne => q dx nx ne⟩⟩
theorem sci11 : FnScope ["self", "limit"] ["self", "limit"] (defScope (sIn 13)) := ⟨rfl, rfl, rfl, by decide +kernel, rfl, by decide +kernel, by decide +kernel⟩
theorem ok_i11 {fI C : Addr} {fd : FuncData} (F : FunD K "__init__" "TooLarge.__init__" (defArgs (sIn 13)) (defBody (sIn 13)) (defScope (sIn 13)) [] [] fI fd) (T : ErrC K C fI)
    (n : PySem.W.findIn K (.ref C) "limit" = some none) : FnOk P w K mg base CX0 1 fI fd ["self", "limit"] (spInit C "limit") := by
  refine F.ok sci11 (fun vs H Q E h => ?_) (fun cdv A outer s H vs Q E hr h => ?_)
  · obtain ⟨a, v, rfl, _⟩ := h
    rfl
  · obtain ⟨a, v, rfl, ea, q⟩ := h
    exact ⟨_, PSs.nox (pss_one (ps_ost (pv 0) (pv 1))), v, rfl, .ref a, rfl, a, C, rfl, T.ox, n, .inl ⟨ea, fun dx nx ne => q dx nx ne⟩⟩
theorem sci12 : FnScope ["self", "scope"] ["self", "scope"] (defScope (sIn 14)) := ⟨rfl, rfl, rfl, by decide +kernel, rfl, by decide +kernel, by decide +kernel⟩
theorem ok_i12 {fI C : Addr} {fd : FuncData} (F : FunD K "__init__" "OutOfScope.__init__" (defArgs (sIn 14)) (defBody (sIn 14)) (defScope (sIn 14)) [] [] fI fd) (T : ErrC K C fI)
    (n : PySem.W.findIn K (.ref C) "scope" = some none) : FnOk P w K mg base CX0 1 fI fd ["self", "scope"] (spInit C "scope") := by
  refine F.ok sci12 (fun vs H Q E h => ?_) (fun cdv A outer s H vs Q E hr h => ?_)
  · obtain ⟨a, v, rfl, _⟩ := h
    rfl
  · obtain ⟨a, v, rfl, ea, q⟩ := h
    exact ⟨_, PSs.nox (pss_one (ps_ost (pv 0) (pv 1))), v, rfl, .ref a, rfl, a, C, rfl, T.ox, n, .inl ⟨ea, fun dx nx ne => q dx nx ne⟩⟩
theorem sci13 : FnScope ["self", "scope"] ["self", "scope"] (defScope (sIn 15)) := ⟨rfl, rfl, rfl, by decide +kernel, rfl, by decide +kernel, by decide +kernel⟩
theorem ok_i13 {fI C : Addr} {fd : FuncData} (F : FunD K "__init__" "MissingUse.__init__" (defArgs (sIn 15)) (defBody (sIn 15)) (defScope (sIn 15)) [] [] fI fd) (T : ErrC K C fI)
    (n : PySem.W.findIn K (.ref C) "scope" = some none) : FnOk P w K mg base CX0 1 fI fd ["self", "scope"] (spInit C "scope") := by
  refine F.ok sci13 (fun vs H Q E h => ?_) (fun cdv A outer s H vs Q E hr h => ?_)
  · obtain ⟨a, v, rfl, _⟩ := h
    rfl
  · obtain ⟨a, v, rfl, ea, q⟩ := h
    exact ⟨_, PSs.nox (pss_one (ps_ost (pv 0) (pv 1))), v, rfl, .ref a, rfl, a, C, rfl, T.ox, n, .inl ⟨ea, fun dx nx ne => q dx nx ne⟩⟩
theorem sci14 : FnScope ["self", "scope"] ["self", "scope"] (defScope (sIn 16)) := ⟨rfl, rfl, rfl, by decide +kernel, rfl, by decide +kernel, by decide +kernel⟩
theorem ok_i14 {fI C : Addr} {fd : FuncData} (F : FunD K "__init__" "StillUsed.__init__" (defArgs (sIn 16)) (defBody (sIn 16)) (defScope (sIn 16)) [] [] fI fd) (T : ErrC K C fI)
    (n : PySem.W.findIn K (.ref C) "scope" = some none) : FnOk P w K mg base CX0 1 fI fd ["self", "scope"] (spInit C "scope") := by
  refine F.ok sci14 (fun vs H Q E h => ?_) (fun cdv A outer s H vs Q E hr h => ?_)
  · obtain ⟨a, v, rfl, _⟩ := h
    rfl
  · obtain ⟨a, v, rfl, ea, q⟩ := h
    exact ⟨_, PSs.nox (pss_one (ps_ost (pv 0) (pv 1))), v, rfl, .ref a, rfl, a, C, rfl, T.ox, n, .inl ⟨ea, fun dx nx ne => q dx nx ne⟩⟩
theorem sci15 : FnScope ["self", "scope"] ["self", "scope"] (defScope (sIn 17)) := ⟨rfl, rfl, rfl, by decide +kernel, rfl, by decide +kernel, by decide +kernel⟩
theorem ok_i15 {fI C : Addr} {fd : FuncData} (F : FunD K "__init__" "NotEmpty.__init__" (defArgs (sIn 17)) (defBody (sIn 17)) (defScope (sIn 17)) [] [] fI fd) (T : ErrC K C fI)
    (n : PySem.W.findIn K (.ref C) "scope" = some none) : FnOk P w K mg base CX0 1 fI fd ["self", "scope"] (spInit C "scope") := by
  refine F.ok sci15 (fun vs H Q E h => ?_) (fun cdv A outer s H vs Q E hr h => ?_)
  · obtain ⟨a, v, rfl, _⟩ := h
    rfl
  · obtain ⟨a, v, rfl, ea, q⟩ := h
    exact ⟨_, PSs.nox (pss_one (ps_ost (pv 0) (pv 1))), v, rfl, .ref a, rfl, a, C, rfl, T.ox, n, .inl ⟨ea, fun dx nx ne => q dx nx ne⟩⟩
theorem sci16 : FnScope ["self", "count"] ["self", "count"] (defScope (sIn 18)) := ⟨rfl, rfl, rfl, by decide +kernel, rfl, by decide +kernel, by decide +kernel⟩
theorem ok_i16 {fI C : Addr} {fd : FuncData} (F : FunD K "__init__" "NothingToUndo.__init__" (defArgs (sIn 18)) (defBody (sIn 18)) (defScope (sIn 18)) [] [] fI fd) (T : ErrC K C fI)
    (n : PySem.W.findIn K (.ref C) "count" = some none) : FnOk P w K mg base CX0 1 fI fd ["self", "count"] (spInit C "count") := by
  refine F.ok sci16 (fun vs H Q E h => ?_) (fun cdv A outer s H vs Q E hr h => ?_)
  · obtain ⟨a, v, rfl, _⟩ := h
    rfl
  · obtain ⟨a, v, rfl, ea, q⟩ := h
    exact ⟨_, PSs.nox (pss_one (ps_ost (pv 0) (pv 1))), v, rfl, .ref a, rfl, a, C, rfl, T.ox, n, .inl ⟨ea, fun dx nx ne => q dx nx ne⟩⟩
theorem sci17 : FnScope ["self", "line"] ["self", "line"] (defScope (sIn 19)) := ⟨rfl, rfl, rfl, by decide +kernel, rfl, by decide +kernel, by decide +kernel⟩
theorem ok_i17 {fI C : Addr} {fd : FuncData} (F : FunD K "__init__" "BadText.__init__" (defArgs (sIn 19)) (defBody (sIn 19)) (defScope (sIn 19)) [] [] fI fd) (T : ErrC K C fI)
    (n : PySem.W.findIn K (.ref C) "line" = some none) : FnOk P w K mg base CX0 1 fI fd ["self", "line"] (spInit C "line") := by
  refine F.ok sci17 (fun vs H Q E h => ?_) (fun cdv A outer s H vs Q E hr h => ?_)
  · obtain ⟨a, v, rfl, _⟩ := h
    rfl
  · obtain ⟨a, v, rfl, ea, q⟩ := h
    exact ⟨_, PSs.nox (pss_one (ps_ost (pv 0) (pv 1))), v, rfl, .ref a, rfl, a, C, rfl, T.ox, n, .inl ⟨ea, fun dx nx ne => q dx nx ne⟩⟩
theorem sci18 : FnScope ["self", "line"] ["self", "line"] (defScope (sIn 20)) := ⟨rfl, rfl, rfl, by decide +kernel, rfl, by decide +kernel, by decide +kernel⟩
theorem ok_i18 {fI C : Addr} {fd : FuncData} (F : FunD K "__init__" "BadLine.__init__" (defArgs (sIn 20)) (defBody (sIn 20)) (defScope (sIn 20)) [] [] fI fd) (T : ErrC K C fI)
    (n : PySem.W.findIn K (.ref C) "line" = some none) : FnOk P w K mg base CX0 1 fI fd ["self", "line"] (spInit C "line") := by
  refine F.ok sci18 (fun vs H Q E h => ?_) (fun cdv A outer s H vs Q E hr h => ?_)
  · obtain ⟨a, v, rfl, _⟩ := h
    rfl
  · obtain ⟨a, v, rfl, ea, q⟩ := h
    exact ⟨_, PSs.nox (pss_one (ps_ost (pv 0) (pv 1))), v, rfl, .ref a, rfl, a, C, rfl, T.ox, n, .inl ⟨ea, fun dx nx ne => q dx nx ne⟩⟩
/-- what K says of one error: its class, its __init__, its field's name -/
structure ErrT (K : PySem.W.Frag) (mg : Str → Option Value) (i : Nat) (x u f : Str) (C fI : Addr) (fd : FuncData) : Prop where
  g : mg x = some (.ref C)
  t : ErrC K C fI
  n : PySem.W.findIn K (.ref C) f = some none
  fn : FunD K "__init__" u (defArgs (sIn i)) (defBody (sIn i)) (defScope (sIn i)) [] [] fI fd
/-- all of them -/
structure Txt (K : PySem.W.Frag) (mg : Str → Option Value) (C I : Nat → Addr) (D : Nat → FuncData) : Prop where
  e0 : ErrT K mg 2 "NoScope" "NoScope.__init__" "scope" (C 0) (I 0) (D 0)
  e1 : ErrT K mg 3 "NoDeclaration" "NoDeclaration.__init__" "declaration" (C 1) (I 1) (D 1)
  e2 : ErrT K mg 4 "BadName" "BadName.__init__" "name" (C 2) (I 2) (D 2)
  e3 : ErrT K mg 5 "BadNaming" "BadNaming.__init__" "naming" (C 3) (I 3) (D 3)
  e4 : ErrT K mg 6 "BadProgram" "BadProgram.__init__" "program" (C 4) (I 4) (D 4)
  e5 : ErrT K mg 7 "BadPool" "BadPool.__init__" "pool" (C 5) (I 5) (D 5)
  e6 : ErrT K mg 8 "BadPlan" "BadPlan.__init__" "plan" (C 6) (I 6) (D 6)
  e7 : ErrT K mg 9 "Unsafe" "Unsafe.__init__" "index" (C 7) (I 7) (D 7)
  e8 : ErrT K mg 10 "Clash" "Clash.__init__" "other" (C 8) (I 8) (D 8)
  e9 : ErrT K mg 11 "TooFewNames" "TooFewNames.__init__" "needed" (C 9) (I 9) (D 9)
  e10 : ErrT K mg 12 "TooMany" "TooMany.__init__" "most" (C 10) (I 10) (D 10)
  e11 : ErrT K mg 13 "TooLarge" "TooLarge.__init__" "limit" (C 11) (I 11) (D 11)
  e12 : ErrT K mg 14 "OutOfScope" "OutOfScope.__init__" "scope" (C 12) (I 12) (D 12)
  e13 : ErrT K mg 15 "MissingUse" "MissingUse.__init__" "scope" (C 13) (I 13) (D 13)
  e14 : ErrT K mg 16 "StillUsed" "StillUsed.__init__" "scope" (C 14) (I 14) (D 14)
  e15 : ErrT K mg 17 "NotEmpty" "NotEmpty.__init__" "scope" (C 15) (I 15) (D 15)
  e16 : ErrT K mg 18 "NothingToUndo" "NothingToUndo.__init__" "count" (C 16) (I 16) (D 16)
  e17 : ErrT K mg 19 "BadText" "BadText.__init__" "line" (C 17) (I 17) (D 17)
  e18 : ErrT K mg 20 "BadLine" "BadLine.__init__" "line" (C 18) (I 18) (D 18)
theorem kb_of {u x : Str} {st : Stmt} {fI : Addr} {fd : FuncData} (F : FunD K "__init__" u (defArgs st) (defBody st) (defScope st) [] [] fI fd)
    (h : ∀ (kV doc pm : Value) (an : Option Addr) (cdv ct a b : Value), bindArgs (PySem.W.fnOf "__init__" u (defArgs st) (defBody st) (defScope st) .none kV doc pm an cdv ct) ⟨[a], [(x, b)]⟩ = pure ((["self", x] : List Str).zip [a, b]))
    (s : Shared) (b : Addr) (v : Value) (_ : K.In s.heap) : BindsTo s fd ⟨[.ref b], [(x, v)]⟩ ((["self", x] : List Str).zip [.ref b, v]) := by
  obtain ⟨oc, od, dV, kV, doc, pm, an, cdv, ct, osl, rfl, lk, hcd, hD, hK⟩ := F.ex
  rcases hD with ⟨_, rfl⟩ | ⟨e, _⟩
  · exact .of_eq (h kV doc pm an cdv ct (.ref b) v)
  · exact absurd rfl e
theorem scMade : FnScope ["_law_thing", "_law_first"] ["_law_thing"] (defScope s_law_made) := ⟨rfl, rfl, rfl, by decide +kernel, rfl, by decide +kernel, by decide +kernel⟩
abbrev allC (C : Nat → Addr) : List (Addr × Str) := [(C 0, "scope"), (C 1, "declaration"), (C 2, "name"), (C 3, "naming"), (C 4, "program"), (C 5, "pool"), (C 6, "plan"), (C 7, "index"), (C 8, "other"), (C 9, "needed"), (C 10, "most"), (C 11, "limit"), (C 12, "scope"), (C 13, "scope"), (C 14, "scope"), (C 15, "scope"), (C 16, "count"), (C 17, "line"), (C 18, "line")]
def spMade (l : List (Addr × Str)) : Sp := fun vs H Q _ => ∃ v, vs = [v] ∧ ∀ (H' : Hp) (p : Addr) (ws : List V), Same H H' → H' p = some (.lst ws) → Made H' v l ws → Q (.ref p) H'
theorem ok_made {f : Addr} {fd : FuncData} {C I : Nat → Addr} {D : Nat → FuncData} (F : FnP K "_law_made" s_law_made f fd) (T : Txt K mg C I D) :
    FnOk P w K mg base CX0 3 f fd ["_law_thing"] (spMade (allC C)) := by
  refine F.ok scMade (fun vs H Q E h => ?_) (fun cdv A outer s H vs Q E hr h => ?_)
  · obtain ⟨v, rfl, _⟩ := h
    rfl
  · obtain ⟨v, rfl, q⟩ := h
    refine ⟨_, PSs.nox (pss_cons (ps_set (i := 1) scMade.nd rfl (.inl rfl)
      (pe_lst (pa_e1 (pe_errP T.e0.t (ok_i0 T.e0.fn T.e0.t T.e0.n) hr (T.e0.fn.bindsN fun _ _ _ _ _ _ us hl => match us, hl with | [_, _], _ => rfl) (by rfl) T.e0.g (pv 0))
        (pa_e1 (pe_errP T.e1.t (ok_i1 T.e1.fn T.e1.t T.e1.n) hr (T.e1.fn.bindsN fun _ _ _ _ _ _ us hl => match us, hl with | [_, _], _ => rfl) (by rfl) T.e1.g (pv 0))
        (pa_e1 (pe_errP T.e2.t (ok_i2 T.e2.fn T.e2.t T.e2.n) hr (T.e2.fn.bindsN fun _ _ _ _ _ _ us hl => match us, hl with | [_, _], _ => rfl) (by rfl) T.e2.g (pv 0))
        (pa_e1 (pe_errP T.e3.t (ok_i3 T.e3.fn T.e3.t T.e3.n) hr (T.e3.fn.bindsN fun _ _ _ _ _ _ us hl => match us, hl with | [_, _], _ => rfl) (by rfl) T.e3.g (pv 0))
        (pa_e1 (pe_errP T.e4.t (ok_i4 T.e4.fn T.e4.t T.e4.n) hr (T.e4.fn.bindsN fun _ _ _ _ _ _ us hl => match us, hl with | [_, _], _ => rfl) (by rfl) T.e4.g (pv 0))
        (pa_e1 (pe_errP T.e5.t (ok_i5 T.e5.fn T.e5.t T.e5.n) hr (T.e5.fn.bindsN fun _ _ _ _ _ _ us hl => match us, hl with | [_, _], _ => rfl) (by rfl) T.e5.g (pv 0))
        pa_e0))))))))
    (pss_cons (ps_set (i := 1) scMade.nd rfl (.inl rfl)
      (pe_op op_cat (pv 1) (pe_lst (pa_e1 (pe_errP T.e6.t (ok_i6 T.e6.fn T.e6.t T.e6.n) hr (T.e6.fn.bindsN fun _ _ _ _ _ _ us hl => match us, hl with | [_, _], _ => rfl) (by rfl) T.e6.g (pv 0))
        (pa_e1 (pe_errP T.e7.t (ok_i7 T.e7.fn T.e7.t T.e7.n) hr (T.e7.fn.bindsN fun _ _ _ _ _ _ us hl => match us, hl with | [_, _], _ => rfl) (by rfl) T.e7.g (pv 0))
        (pa_e1 (pe_errP T.e8.t (ok_i8 T.e8.fn T.e8.t T.e8.n) hr (T.e8.fn.bindsN fun _ _ _ _ _ _ us hl => match us, hl with | [_, _], _ => rfl) (by rfl) T.e8.g (pv 0))
        (pa_e1 (pe_errP T.e9.t (ok_i9 T.e9.fn T.e9.t T.e9.n) hr (T.e9.fn.bindsN fun _ _ _ _ _ _ us hl => match us, hl with | [_, _], _ => rfl) (by rfl) T.e9.g (pv 0))
        (pa_e1 (pe_errP T.e10.t (ok_i10 T.e10.fn T.e10.t T.e10.n) hr (T.e10.fn.bindsN fun _ _ _ _ _ _ us hl => match us, hl with | [_, _], _ => rfl) (by rfl) T.e10.g (pv 0))
        (pa_e1 (pe_errP T.e11.t (ok_i11 T.e11.fn T.e11.t T.e11.n) hr (T.e11.fn.bindsN fun _ _ _ _ _ _ us hl => match us, hl with | [_, _], _ => rfl) (by rfl) T.e11.g (pv 0))
        pa_e0)))))))))
    (pss_cons (ps_set (i := 1) scMade.nd rfl (.inl rfl)
      (pe_op op_cat (pv 1) (pe_lst (pa_e1 (pe_errP T.e12.t (ok_i12 T.e12.fn T.e12.t T.e12.n) hr (T.e12.fn.bindsN fun _ _ _ _ _ _ us hl => match us, hl with | [_, _], _ => rfl) (by rfl) T.e12.g (pv 0))
        (pa_e1 (pe_errP T.e13.t (ok_i13 T.e13.fn T.e13.t T.e13.n) hr (T.e13.fn.bindsN fun _ _ _ _ _ _ us hl => match us, hl with | [_, _], _ => rfl) (by rfl) T.e13.g (pv 0))
        (pa_e1 (pe_errP T.e14.t (ok_i14 T.e14.fn T.e14.t T.e14.n) hr (T.e14.fn.bindsN fun _ _ _ _ _ _ us hl => match us, hl with | [_, _], _ => rfl) (by rfl) T.e14.g (pv 0))
        (pa_e1 (pe_errP T.e15.t (ok_i15 T.e15.fn T.e15.t T.e15.n) hr (T.e15.fn.bindsN fun _ _ _ _ _ _ us hl => match us, hl with | [_, _], _ => rfl) (by rfl) T.e15.g (pv 0))
        (pa_e1 (pe_errP T.e16.t (ok_i16 T.e16.fn T.e16.t T.e16.n) hr (T.e16.fn.bindsN fun _ _ _ _ _ _ us hl => match us, hl with | [_, _], _ => rfl) (by rfl) T.e16.g (pv 0))
        pa_e0))))))))
    (pss_cons (ps_set (i := 1) scMade.nd rfl (.inl rfl)
      (pe_op op_cat (pv 1) (pe_lst (pa_e1 (pe_errP T.e17.t (ok_i17 T.e17.fn T.e17.t T.e17.n) hr (T.e17.fn.bindsN fun _ _ _ _ _ _ us hl => match us, hl with | [_, _], _ => rfl) (by rfl) T.e17.g (pv 0))
        (pa_e1 (pe_errP T.e18.t (ok_i18 T.e18.fn T.e18.t T.e18.n) hr (T.e18.fn.bindsN fun _ _ _ _ _ _ us hl => match us, hl with | [_, _], _ => rfl) (by rfl) T.e18.g (pv 0))
        pa_e0)))))
    (pss_one (ps_ret (pv 1))))))), ?_⟩
    refine ⟨v, rfl, fun v1 H1 s1 m1 => ⟨small_n (n := 6) m1.len (by decide), fun p1 n1 => ?_⟩⟩
    have S1 := s1.trans (same_new (o := .lst v1) n1)
    have M1 := Made.same (same_new (o := .lst v1) n1) m1
    have L1 : upd H1 p1 (.lst v1) p1 = some (.lst v1) := upd_same
    generalize upd H1 p1 (.lst v1) = G1 at S1 M1 L1
    refine ⟨.ref p1, rfl, v, rfl, fun v2 H2 s2 m2 => ⟨small_n (n := 6) m2.len (by decide), fun l2 n2 => ?_⟩⟩
    have sn2 := same_new (o := .lst v2) n2
    refine ⟨p1, l2, _, _, rfl, rfl, sn2 _ _ (s2 _ _ L1), upd_same, ?_, fun p2 k2 => ?_⟩
    · rw [M1.len, m2.len]
      show 6 + 6 ≤ sizeLine
      decide
    have sp2 := same_new (o := .lst (v1 ++ v2)) k2
    have S2 := S1.trans ((s2.trans sn2).trans sp2)
    have M2 := (Made.same (sn2.trans sp2) m2).cat (Made.same ((s2.trans sn2).trans sp2) M1)
    have L2 := upd_same (H := upd H2 l2 (.lst v2)) (a := p2) (o := .lst (v1 ++ v2))
    clear M1 L1 S1
    generalize upd (upd H2 l2 (.lst v2)) p2 (.lst (v1 ++ v2)) = G2 at S2 M2 L2 sp2 ⊢
    generalize v1 ++ v2 = v1 at M2 L2 ⊢
    refine ⟨.ref p2, rfl, v, rfl, fun v3 H3 s3 m3 => ⟨small_n (n := 5) m3.len (by decide), fun l3 n3 => ?_⟩⟩
    have sn3 := same_new (o := .lst v3) n3
    refine ⟨p2, l3, _, _, rfl, rfl, sn3 _ _ (s3 _ _ L2), upd_same, ?_, fun p3 k3 => ?_⟩
    · rw [M2.len, m3.len]
      show 12 + 5 ≤ sizeLine
      decide
    have sp3 := same_new (o := .lst (v1 ++ v3)) k3
    have S3 := S2.trans ((s3.trans sn3).trans sp3)
    have M3 := (Made.same (sn3.trans sp3) m3).cat (Made.same ((s3.trans sn3).trans sp3) M2)
    have L3 := upd_same (H := upd H3 l3 (.lst v3)) (a := p3) (o := .lst (v1 ++ v3))
    clear M2 L2 S2
    generalize upd (upd H3 l3 (.lst v3)) p3 (.lst (v1 ++ v3)) = G3 at S3 M3 L3 sp3 ⊢
    generalize v1 ++ v3 = v1 at M3 L3 ⊢
    refine ⟨.ref p3, rfl, v, rfl, fun v4 H4 s4 m4 => ⟨small_n (n := 2) m4.len (by decide), fun l4 n4 => ?_⟩⟩
    have sn4 := same_new (o := .lst v4) n4
    refine ⟨p3, l4, _, _, rfl, rfl, sn4 _ _ (s4 _ _ L3), upd_same, ?_, fun p4 k4 => ?_⟩
    · rw [M3.len, m4.len]
      show 17 + 2 ≤ sizeLine
      decide
    have sp4 := same_new (o := .lst (v1 ++ v4)) k4
    have S4 := S3.trans ((s4.trans sn4).trans sp4)
    have M4 := (Made.same (sn4.trans sp4) m4).cat (Made.same ((s4.trans sn4).trans sp4) M3)
    have L4 := upd_same (H := upd H4 l4 (.lst v4)) (a := p4) (o := .lst (v1 ++ v4))
    clear M3 L3 S3
    generalize upd (upd H4 l4 (.lst v4)) p4 (.lst (v1 ++ v4)) = G4 at S4 M4 L4 sp4 ⊢
    generalize v1 ++ v4 = v1 at M4 L4 ⊢
    exact ⟨_, rfl, q _ _ _ S4 L4 M4⟩
end
end K71
set_option Elab.async false
set_option linter.all false
set_option maxRecDepth 100000
set_option maxHeartbeats 4000000
namespace K71
open PySem PySem.Spec PyProof.Rows L2
section
variable {P : Program} {w : World} {K : PySem.W.Frag} {mg : Str → Option Value} {base : Heap}
theorem scKinds : FnScope ["_law_error", "_law_found"] ["_law_error"] (defScope s_law_kinds) := ⟨rfl, rfl, rfl, by decide +kernel, rfl, by decide +kernel, by decide +kernel⟩
abbrev allA (C : Nat → Addr) : List Addr := [C 0, C 1, C 2, C 3, C 4, C 5, C 6, C 7, C 8, C 9, C 10, C 11, C 12, C 13, C 14, C 15, C 16, C 17, C 18]
def spKinds (K : PySem.W.Frag) (l : List Addr) : Sp := fun vs H Q _ => ∃ (a Cc fI d : Addr) (fs : List (Str × V)) (bs : List Bool), vs = [.ref a] ∧ H a = some (exo a Cc (some d)) ∧ H d = some (exd d fs) ∧
  ErrC K Cc fI ∧ KitL K Cc l bs ∧ ∀ (H' : Hp) (p : Addr), Same H H' → H' p = some (.lst (bs.map V.bl)) → Q (.ref p) H'
theorem ok_kinds {f : Addr} {fd : FuncData} {C I : Nat → Addr} {D : Nat → FuncData} (F : FnP K "_law_kinds" s_law_kinds f fd) (T : Txt K mg C I D) (mi : mg "isinstance" = none) :
    FnOk P w K mg base CX0 1 f fd ["_law_error"] (spKinds K (allA C)) := by
  refine F.ok scKinds (fun vs H Q E h => ?_) (fun cdv A outer s H vs Q E hr h => ?_)
  · obtain ⟨a, Cc, fI, d, fs, bs, rfl, _⟩ := h
    rfl
  · obtain ⟨a, Cc, fI, d, fs, bs, rfl, ea, ed, Te, kl, q⟩ := h
    refine ⟨_, PSs.nox (pss_cons (ps_set (i := 1) scKinds.nd rfl (.inl rfl) (pe_lst (pa_i1 (by rfl) mi (pv 0) (by rfl) T.e0.g (pa_i1 (by rfl) mi (pv 0) (by rfl) T.e1.g (pa_i1 (by rfl) mi (pv 0) (by rfl) T.e2.g pa_i0)))))
    (pss_cons (ps_set (i := 1) scKinds.nd rfl (.inl rfl) (pe_op op_cat (pv 1) (pe_lst (pa_i1 (by rfl) mi (pv 0) (by rfl) T.e3.g (pa_i1 (by rfl) mi (pv 0) (by rfl) T.e4.g (pa_i1 (by rfl) mi (pv 0) (by rfl) T.e5.g pa_i0))))))
    (pss_cons (ps_set (i := 1) scKinds.nd rfl (.inl rfl) (pe_op op_cat (pv 1) (pe_lst (pa_i1 (by rfl) mi (pv 0) (by rfl) T.e6.g (pa_i1 (by rfl) mi (pv 0) (by rfl) T.e7.g (pa_i1 (by rfl) mi (pv 0) (by rfl) T.e8.g pa_i0))))))
    (pss_cons (ps_set (i := 1) scKinds.nd rfl (.inl rfl) (pe_op op_cat (pv 1) (pe_lst (pa_i1 (by rfl) mi (pv 0) (by rfl) T.e9.g (pa_i1 (by rfl) mi (pv 0) (by rfl) T.e10.g (pa_i1 (by rfl) mi (pv 0) (by rfl) T.e11.g pa_i0))))))
    (pss_cons (ps_set (i := 1) scKinds.nd rfl (.inl rfl) (pe_op op_cat (pv 1) (pe_lst (pa_i1 (by rfl) mi (pv 0) (by rfl) T.e12.g (pa_i1 (by rfl) mi (pv 0) (by rfl) T.e13.g (pa_i1 (by rfl) mi (pv 0) (by rfl) T.e14.g pa_i0))))))
    (pss_cons (ps_set (i := 1) scKinds.nd rfl (.inl rfl) (pe_op op_cat (pv 1) (pe_lst (pa_i1 (by rfl) mi (pv 0) (by rfl) T.e15.g (pa_i1 (by rfl) mi (pv 0) (by rfl) T.e16.g (pa_i1 (by rfl) mi (pv 0) (by rfl) T.e17.g pa_i0))))))
    (pss_one (ps_ret (pe_op op_cat (pv 1) (pe_lst (pa_i1 (by rfl) mi (pv 0) (by rfl) T.e18.g pa_i0))))))))))), ?_⟩
    have kr0 := kl
    obtain ⟨b1, r1, rfl, kl1, kr1⟩ := KitL.cat (l := [C 0, C 1, C 2]) (r := [C 3, C 4, C 5, C 6, C 7, C 8, C 9, C 10, C 11, C 12, C 13, C 14, C 15, C 16, C 17, C 18]) kr0
    obtain ⟨b2, r2, rfl, kl2, kr2⟩ := KitL.cat (l := [C 3, C 4, C 5]) (r := [C 6, C 7, C 8, C 9, C 10, C 11, C 12, C 13, C 14, C 15, C 16, C 17, C 18]) kr1
    obtain ⟨b3, r3, rfl, kl3, kr3⟩ := KitL.cat (l := [C 6, C 7, C 8]) (r := [C 9, C 10, C 11, C 12, C 13, C 14, C 15, C 16, C 17, C 18]) kr2
    obtain ⟨b4, r4, rfl, kl4, kr4⟩ := KitL.cat (l := [C 9, C 10, C 11]) (r := [C 12, C 13, C 14, C 15, C 16, C 17, C 18]) kr3
    obtain ⟨b5, r5, rfl, kl5, kr5⟩ := KitL.cat (l := [C 12, C 13, C 14]) (r := [C 15, C 16, C 17, C 18]) kr4
    obtain ⟨b6, r6, rfl, kl6, kr6⟩ := KitL.cat (l := [C 15, C 16, C 17]) (r := [C 18]) kr5
    refine ⟨Cc, b1, ⟨a, fI, d, fs, rfl, ea, ed, Te⟩, kl1, small_n (n := 3) (by rw [List.length_map]; exact kl1.len) (by decide), fun p1 n1 => ?_⟩
    have S1 := same_new (o := .lst (b1.map V.bl)) n1
    have L1 : upd H p1 (.lst (b1.map V.bl)) p1 = some (.lst (b1.map V.bl)) := upd_same
    generalize upd H p1 (.lst (b1.map V.bl)) = G1 at S1 L1 ⊢
    refine ⟨.ref p1, rfl, Cc, b2, ⟨a, fI, d, fs, rfl, S1 _ _ ea, S1 _ _ ed, Te⟩, kl2, small_n (n := 3) (by rw [List.length_map]; exact kl2.len) (by decide), fun l2 n2 => ?_⟩
    have sn2 := same_new (o := .lst (b2.map V.bl)) n2
    refine ⟨p1, l2, _, _, rfl, rfl, sn2 _ _ L1, upd_same, ?_, fun p2 k2 => ?_⟩
    · simp only [List.length_map, List.length_append, kl1.len, kl2.len]
      show 3+3 ≤ sizeLine
      decide
    have S2 := S1.trans (sn2.trans (same_new (o := .lst ((b1).map V.bl ++ b2.map V.bl)) k2))
    have L2 := upd_same (H := upd G1 l2 (.lst (b2.map V.bl))) (a := p2) (o := .lst ((b1).map V.bl ++ b2.map V.bl))
    rw [← List.map_append] at S2 L2 ⊢
    generalize upd (upd G1 l2 (.lst (b2.map V.bl))) p2 (.lst ((b1 ++ b2).map V.bl)) = G2 at S2 L2 ⊢
    refine ⟨.ref p2, rfl, Cc, b3, ⟨a, fI, d, fs, rfl, S2 _ _ ea, S2 _ _ ed, Te⟩, kl3, small_n (n := 3) (by rw [List.length_map]; exact kl3.len) (by decide), fun l3 n3 => ?_⟩
    have sn3 := same_new (o := .lst (b3.map V.bl)) n3
    refine ⟨p2, l3, _, _, rfl, rfl, sn3 _ _ L2, upd_same, ?_, fun p3 k3 => ?_⟩
    · simp only [List.length_map, List.length_append, kl1.len, kl2.len, kl3.len]
      show 3+3+3 ≤ sizeLine
      decide
    have S3 := S2.trans (sn3.trans (same_new (o := .lst ((b1 ++ b2).map V.bl ++ b3.map V.bl)) k3))
    have L3 := upd_same (H := upd G2 l3 (.lst (b3.map V.bl))) (a := p3) (o := .lst ((b1 ++ b2).map V.bl ++ b3.map V.bl))
    rw [← List.map_append] at S3 L3 ⊢
    generalize upd (upd G2 l3 (.lst (b3.map V.bl))) p3 (.lst ((b1 ++ b2 ++ b3).map V.bl)) = G3 at S3 L3 ⊢
    refine ⟨.ref p3, rfl, Cc, b4, ⟨a, fI, d, fs, rfl, S3 _ _ ea, S3 _ _ ed, Te⟩, kl4, small_n (n := 3) (by rw [List.length_map]; exact kl4.len) (by decide), fun l4 n4 => ?_⟩
    have sn4 := same_new (o := .lst (b4.map V.bl)) n4
    refine ⟨p3, l4, _, _, rfl, rfl, sn4 _ _ L3, upd_same, ?_, fun p4 k4 => ?_⟩
    · simp only [List.length_map, List.length_append, kl1.len, kl2.len, kl3.len, kl4.len]
      show 3+3+3+3 ≤ sizeLine
      decide
    have S4 := S3.trans (sn4.trans (same_new (o := .lst ((b1 ++ b2 ++ b3).map V.bl ++ b4.map V.bl)) k4))
    have L4 := upd_same (H := upd G3 l4 (.lst (b4.map V.bl))) (a := p4) (o := .lst ((b1 ++ b2 ++ b3).map V.bl ++ b4.map V.bl))
    rw [← List.map_append] at S4 L4 ⊢
    generalize upd (upd G3 l4 (.lst (b4.map V.bl))) p4 (.lst ((b1 ++ b2 ++ b3 ++ b4).map V.bl)) = G4 at S4 L4 ⊢
    refine ⟨.ref p4, rfl, Cc, b5, ⟨a, fI, d, fs, rfl, S4 _ _ ea, S4 _ _ ed, Te⟩, kl5, small_n (n := 3) (by rw [List.length_map]; exact kl5.len) (by decide), fun l5 n5 => ?_⟩
    have sn5 := same_new (o := .lst (b5.map V.bl)) n5
    refine ⟨p4, l5, _, _, rfl, rfl, sn5 _ _ L4, upd_same, ?_, fun p5 k5 => ?_⟩
    · simp only [List.length_map, List.length_append, kl1.len, kl2.len, kl3.len, kl4.len, kl5.len]
      show 3+3+3+3+3 ≤ sizeLine
      decide
    have S5 := S4.trans (sn5.trans (same_new (o := .lst ((b1 ++ b2 ++ b3 ++ b4).map V.bl ++ b5.map V.bl)) k5))
    have L5 := upd_same (H := upd G4 l5 (.lst (b5.map V.bl))) (a := p5) (o := .lst ((b1 ++ b2 ++ b3 ++ b4).map V.bl ++ b5.map V.bl))
    rw [← List.map_append] at S5 L5 ⊢
    generalize upd (upd G4 l5 (.lst (b5.map V.bl))) p5 (.lst ((b1 ++ b2 ++ b3 ++ b4 ++ b5).map V.bl)) = G5 at S5 L5 ⊢
    refine ⟨.ref p5, rfl, Cc, b6, ⟨a, fI, d, fs, rfl, S5 _ _ ea, S5 _ _ ed, Te⟩, kl6, small_n (n := 3) (by rw [List.length_map]; exact kl6.len) (by decide), fun l6 n6 => ?_⟩
    have sn6 := same_new (o := .lst (b6.map V.bl)) n6
    refine ⟨p5, l6, _, _, rfl, rfl, sn6 _ _ L5, upd_same, ?_, fun p6 k6 => ?_⟩
    · simp only [List.length_map, List.length_append, kl1.len, kl2.len, kl3.len, kl4.len, kl5.len, kl6.len]
      show 3+3+3+3+3+3 ≤ sizeLine
      decide
    have S6 := S5.trans (sn6.trans (same_new (o := .lst ((b1 ++ b2 ++ b3 ++ b4 ++ b5).map V.bl ++ b6.map V.bl)) k6))
    have L6 := upd_same (H := upd G5 l6 (.lst (b6.map V.bl))) (a := p6) (o := .lst ((b1 ++ b2 ++ b3 ++ b4 ++ b5).map V.bl ++ b6.map V.bl))
    rw [← List.map_append] at S6 L6 ⊢
    generalize upd (upd G5 l6 (.lst (b6.map V.bl))) p6 (.lst ((b1 ++ b2 ++ b3 ++ b4 ++ b5 ++ b6).map V.bl)) = G6 at S6 L6 ⊢
    refine ⟨.ref p6, rfl, Cc, r6, ⟨a, fI, d, fs, rfl, S6 _ _ ea, S6 _ _ ed, Te⟩, kr6, small_n (n := 1) (by rw [List.length_map]; exact kr6.len) (by decide), fun l7 n7 => ?_⟩
    have sn7 := same_new (o := .lst (r6.map V.bl)) n7
    refine ⟨p6, l7, _, _, rfl, rfl, sn7 _ _ L6, upd_same, ?_, fun p7 k7 => ?_⟩
    · simp only [List.length_map, List.length_append, kl1.len, kl2.len, kl3.len, kl4.len, kl5.len, kl6.len, kr6.len]
      show 3+3+3+3+3+3+1 ≤ sizeLine
      decide
    have S7 := S6.trans (sn7.trans (same_new (o := .lst ((b1 ++ b2 ++ b3 ++ b4 ++ b5 ++ b6).map V.bl ++ r6.map V.bl)) k7))
    have L7 := upd_same (H := upd G6 l7 (.lst (r6.map V.bl))) (a := p7) (o := .lst ((b1 ++ b2 ++ b3 ++ b4 ++ b5 ++ b6).map V.bl ++ r6.map V.bl))
    rw [← List.map_append] at S7 L7 ⊢
    generalize upd (upd G6 l7 (.lst (r6.map V.bl))) p7 (.lst ((b1 ++ b2 ++ b3 ++ b4 ++ b5 ++ b6 ++ r6).map V.bl)) = G7 at S7 L7 ⊢
    refine q _ _ S7 ?_
    rw [L7]
    simp only [List.append_assoc]
end
end K71
set_option Elab.async false
set_option linter.all false
set_option maxRecDepth 100000
set_option maxHeartbeats 1000000
namespace K71
open PySem PySem.Spec PyProof.Rows L2
/-! ### readings that lay data of a known kind -/
def Gd (K : PySem.W.Frag) (d : PyData) (t : TE) : Prop := ∀ (σ : L2.St) (H : Hp) (Q : VK), (∀ v H', Same H H' → Dt K H' d v → Q v H') → t σ H Q
def GdA (K : PySem.W.Frag) (ds : List PyData) (t : TA) : Prop := ∀ (σ : L2.St) (H : Hp) (Q : List V → Hp → Prop), (∀ vs H', Same H H' → Dts K H' ds vs → Q vs H') → t σ H Q
theorem da_nil {K : PySem.W.Frag} : GdA K [] tNil := fun _ H Q k => k [] H (Same.refl H) (by unfold Dts; rfl)
theorem da_cons {K : PySem.W.Frag} {d : PyData} {ds : List PyData} {t : TE} {u : TA} (h : Gd K d t) (r : GdA K ds u) : GdA K (d :: ds) (tCons t u) := fun σ H Q k =>
  h σ H _ fun v H1 s1 d1 => r σ H1 _ fun vs H2 s2 d2 => k (v :: vs) H2 (s1.trans s2) (by unfold Dts; exact ⟨v, vs, rfl, Dt.same s2 d v d1, d2⟩)
theorem d_non {K : PySem.W.Frag} : Gd K .none (tC .non) := fun _ H Q k => k _ H (Same.refl H) (by unfold Dt; rfl)
theorem d_bl {K : PySem.W.Frag} {b : Bool} : Gd K (.bool b) (tC (.bl b)) := fun _ H Q k => k _ H (Same.refl H) (by unfold Dt; rfl)
theorem d_int {K : PySem.W.Frag} {i : Int} : Gd K (.int i) (tC (.int i)) := fun _ H Q k => k _ H (Same.refl H) (by unfold Dt; rfl)
theorem d_str {K : PySem.W.Frag} {x : Str} : Gd K (.str x) (tC (.str x)) := fun _ H Q k => k _ H (Same.refl H) (by unfold Dt; rfl)
theorem d_neg {K : PySem.W.Frag} {i : Int} : Gd K (.int (-i)) (tUn (rU fun i => .int (-i)) (tC (.int i))) := fun _ H Q k => ⟨i, rfl, k _ H (Same.refl H) (by unfold Dt; rfl)⟩
theorem d_pow {K : PySem.W.Frag} {i j : Int} (h : CPow i j) : Gd K (.int (i ^ j.toNat)) (tOp (rI CPow fun i j => .int (i ^ j.toNat)) (tC (.int i)) (tC (.int j))) :=
  fun _ H Q k => ⟨i, j, rfl, rfl, h, k _ H (Same.refl H) (by unfold Dt; rfl)⟩
theorem dts_len {K : PySem.W.Frag} {H : Hp} : ∀ {ds : List PyData} {vs : List V}, Dts K H ds vs → vs.length = ds.length
  | [], vs, h => by
    unfold Dts at h
    rw [h]
    rfl
  | d :: ds, vs, h => by
    unfold Dts at h
    obtain ⟨x, r, e, _, h2⟩ := h
    rw [e, List.length_cons, dts_len h2]
    rfl
theorem d_tup {K : PySem.W.Frag} {ds : List PyData} {t : TA} (h : GdA K ds t) (l : ds.length ≤ 1000 := by decide) : Gd K (.tuple ds) (tTup t) := fun σ H Q k =>
  h σ H _ fun vs H1 s1 d1 => ⟨by rw [dts_len d1]; exact Nat.le_of_lt (small1000 l), fun p np => k _ _ (s1.trans (same_new np)) (by
    unfold Dt
    exact ⟨p, vs, rfl, .of upd_same, Dts.same (same_new np) ds vs d1⟩)⟩
theorem d_lst {K : PySem.W.Frag} {ds : List PyData} {t : TA} (h : GdA K ds t) (l : ds.length ≤ 1000 := by decide) : Gd K (.list ds) (tLst t) := fun σ H Q k =>
  h σ H _ fun vs H1 s1 d1 => ⟨by rw [dts_len d1]; exact Nat.le_of_lt (small1000 l), fun p np => k _ _ (s1.trans (same_new np)) (by
    unfold Dt
    exact ⟨p, vs, rfl, .of upd_same, Dts.same (same_new np) ds vs d1⟩)⟩
theorem d_dict {K : PySem.W.Frag} : Gd K (.dict []) tDNewK := fun _ H Q k p np => k _ _ (same_new np) (by
  unfold Dt Dtk
  exact ⟨p, [], rfl, upd_same, rfl⟩)
theorem dlst_top {K : PySem.W.Frag} {ds : List PyData} {t : TA} {σ : L2.St} {H : Hp} {Q : VK} (h : GdA K ds t) (l : ds.length ≤ 1000)
    (k : ∀ (p : Addr) (xs : List V) (H' : Hp), Same H H' → H p = none → H' p = some (.lst xs) → Dts K H' ds xs → Q (.ref p) H') : tLst t σ H Q :=
  h σ H _ fun vs H1 s1 d1 => ⟨by rw [dts_len d1]; exact Nat.le_of_lt (small1000 l), fun p np => k p vs _ (s1.trans (same_new np)) (s1.free np) upd_same (Dts.same (same_new np) ds vs d1)⟩
theorem set_dlst {K : PySem.W.Frag} {ds : List PyData} {t : TA} {g : TG} {u : TS} {D : Ends} {σ : L2.St} {H : Hp} (h : GdA K ds t) (l : ds.length ≤ 1000)
    (k : ∀ (p : Addr) (xs : List V) (H' : Hp), Same H H' → H p = none → H' p = some (.lst xs) → Dts K H' ds xs → g (.ref p) σ H' (u D)) : tSeq (tAsg (tLst t) g) u D σ H :=
  show tLst t σ H (fun x H1 => g x σ H1 (u D)) from dlst_top h l k
theorem dts_mem {K : PySem.W.Frag} {H : Hp} : ∀ {ds : List PyData} {vs : List V} {x : V}, Dts K H ds vs → x ∈ vs → ∃ d ∈ ds, Dt K H d x
  | [], vs, x, h, m => by
    unfold Dts at h
    rw [h] at m
    cases m
  | d :: ds, vs, x, h, m => by
    unfold Dts at h
    obtain ⟨y, r, e, h1, h2⟩ := h
    subst e
    rcases List.mem_cons.mp m with z | z
    · subst z
      exact ⟨d, List.mem_cons_self, h1⟩
    · obtain ⟨d', m', q⟩ := dts_mem h2 z
      exact ⟨d', List.mem_cons_of_mem _ m', q⟩
theorem dts_rep {K : PySem.W.Frag} {H : Hp} {d : PyData} {v : V} (h : Dt K H d v) : ∀ n : Nat, Dts K H (List.replicate n d) (List.replicate n v)
  | 0 => by unfold Dts; rfl
  | n + 1 => by
    rw [List.replicate_succ, List.replicate_succ]
    unfold Dts
    exact ⟨v, _, rfl, h, dts_rep h n⟩

/-! ### the fields -/
def AllE (K : PySem.W.Frag) (l : List (Addr × Str)) : Prop := ∀ (i : Nat) (q : Addr × Str), l[i]? = some q → ∃ fI, ErrC K q.1 fI ∧ PySem.W.findIn K (.ref q.1) q.2 = some none
def MadeAt (K : PySem.W.Frag) (l : List (Addr × Str)) (v : V) (σ : L2.St) (H : Hp) : Prop := ∃ (m : Addr) (ws : List V), σ[0]? = some (some (.ref m)) ∧ SqL K H m ws ∧ Made H v l ws ∧ AllE K l
def tFs (K : PySem.W.Frag) (l : List (Addr × Str)) (n : Nat) : TA := fun σ H Q => ∃ v, MadeAt K l v σ H ∧ Q (List.replicate n v) H
theorem pa_f0 {X : Cx} {l : List (Addr × Str)} : PA X [] (tFs X.K l 0) := paI pa_nil fun σ H Q ⟨v, _, q⟩ => q
theorem pa_f1 {X : Cx} {e : Expr} {es : List Expr} {C : Addr} {f : Str} {l : List (Addr × Str)} {n i : Nat} {j : Int} (hi : l[i]? = some (C, f))
    (h : PE X e (tFldX X.K (tOp (rIxL X.K) (tVar 0) (tC (.int j))) f)) (r : PA X es (tFs X.K l n)) (hj : j = (i : Int) := by rfl)
    (hs : starEach (e :: es) X.env = (false, eval e X.env) :: starEach es X.env := by rfl) : PA X (e :: es) (tFs X.K l (n + 1)) :=
  paI (pa_cons h r hs) fun σ H Q ⟨v, ⟨m, ws, h0, hq, mm, hE⟩, q⟩ => by
    have hl : i < ws.length := by
      rw [mm.len]
      exact (List.getElem?_eq_some_iff.mp hi).1
    have g : ws[i]? = some ws[i] := List.getElem?_eq_getElem hl
    obtain ⟨qc, a, d, hc, ex, ea, ed⟩ := Made.get mm g
    rw [hi] at hc
    cases hc
    obtain ⟨fI, T, hno⟩ := hE i _ hi
    subst hj
    exact ⟨.ref m, h0, m, ws, (i : Int), ws[i], rfl, rfl, hq, atI_nat g, a, C, fI, d, [(f, v)], v, ex, ea, ed, T, hno, by simp [List.lookup], v, ⟨m, ws, h0, hq, mm, hE⟩, q⟩
def spFields (K : PySem.W.Frag) (l : List (Addr × Str)) : Sp := fun vs H Q _ => ∃ (m : Addr) (v : V) (ws : List V), vs = [.ref m] ∧ H m = some (.lst ws) ∧ Made H v l ws ∧ AllE K l ∧
  ∀ (H' : Hp) (p : Addr), Same H H' → H' p = some (.lst (List.replicate 19 v)) → Q (.ref p) H'
theorem scFields : FnScope ["_law_made_here", "_law_found"] ["_law_made_here"] (defScope s_law_fields) := ⟨rfl, rfl, rfl, by decide +kernel, rfl, by decide +kernel, by decide +kernel⟩
section
variable {P : Program} {w : World} {K : PySem.W.Frag} {mg : Str → Option Value} {base : Heap}
theorem ok_fields {f : Addr} {fd : FuncData} {C : Nat → Addr} (F : FnP K "_law_fields" s_law_fields f fd) : FnOk P w K mg base CX0 1 f fd ["_law_made_here"] (spFields K (allC C)) := by
  refine F.ok scFields (fun vs H Q E h => ?_) (fun cdv A outer s H vs Q E hr h => ?_)
  · obtain ⟨m, v, ws, rfl, _⟩ := h
    rfl
  · obtain ⟨m, v, ws, rfl, em, mm, hE, q⟩ := h
    refine ⟨_, PSs.nox (pss_cons (ps_set (i := 1) scFields.nd rfl (.inl rfl) (pe_lst (pa_f1 (l := allC C) (i := 0) rfl (pe_fldX (pe_ix ix_list (pv 0) pe_int (fun _ _ => rfl)))
        (pa_f1 (l := allC C) (i := 1) rfl (pe_fldX (pe_ix ix_list (pv 0) pe_int (fun _ _ => rfl)))
        (pa_f1 (l := allC C) (i := 2) rfl (pe_fldX (pe_ix ix_list (pv 0) pe_int (fun _ _ => rfl)))
        (pa_f1 (l := allC C) (i := 3) rfl (pe_fldX (pe_ix ix_list (pv 0) pe_int (fun _ _ => rfl)))
        (pa_f1 (l := allC C) (i := 4) rfl (pe_fldX (pe_ix ix_list (pv 0) pe_int (fun _ _ => rfl)))
        (pa_f1 (l := allC C) (i := 5) rfl (pe_fldX (pe_ix ix_list (pv 0) pe_int (fun _ _ => rfl)))
        (pa_f0 (l := allC C))))))))))
    (pss_cons (ps_set (i := 1) scFields.nd rfl (.inl rfl) (pe_op op_cat (pv 1) (pe_lst (pa_f1 (l := allC C) (i := 6) rfl (pe_fldX (pe_ix ix_list (pv 0) pe_int (fun _ _ => rfl)))
        (pa_f1 (l := allC C) (i := 7) rfl (pe_fldX (pe_ix ix_list (pv 0) pe_int (fun _ _ => rfl)))
        (pa_f1 (l := allC C) (i := 8) rfl (pe_fldX (pe_ix ix_list (pv 0) pe_int (fun _ _ => rfl)))
        (pa_f1 (l := allC C) (i := 9) rfl (pe_fldX (pe_ix ix_list (pv 0) pe_int (fun _ _ => rfl)))
        (pa_f1 (l := allC C) (i := 10) rfl (pe_fldX (pe_ix ix_list (pv 0) pe_int (fun _ _ => rfl)))
        (pa_f1 (l := allC C) (i := 11) rfl (pe_fldX (pe_ix ix_list (pv 0) pe_int (fun _ _ => rfl)))
        (pa_f0 (l := allC C)))))))))))
    (pss_cons (ps_set (i := 1) scFields.nd rfl (.inl rfl) (pe_op op_cat (pv 1) (pe_lst (pa_f1 (l := allC C) (i := 12) rfl (pe_fldX (pe_ix ix_list (pv 0) pe_int (fun _ _ => rfl)))
        (pa_f1 (l := allC C) (i := 13) rfl (pe_fldX (pe_ix ix_list (pv 0) pe_int (fun _ _ => rfl)))
        (pa_f1 (l := allC C) (i := 14) rfl (pe_fldX (pe_ix ix_list (pv 0) pe_int (fun _ _ => rfl)))
        (pa_f1 (l := allC C) (i := 15) rfl (pe_fldX (pe_ix ix_list (pv 0) pe_int (fun _ _ => rfl)))
        (pa_f1 (l := allC C) (i := 16) rfl (pe_fldX (pe_ix ix_list (pv 0) pe_int (fun _ _ => rfl)))
        (pa_f1 (l := allC C) (i := 17) rfl (pe_fldX (pe_ix ix_list (pv 0) pe_int (fun _ _ => rfl)))
        (pa_f0 (l := allC C)))))))))))
    (pss_one (ps_ret (pe_op op_cat (pv 1) (pe_lst (pa_f1 (l := allC C) (i := 18) rfl (pe_fldX (pe_ix ix_list (pv 0) pe_int (fun _ _ => rfl)))
        (pa_f0 (l := allC C)))))))))), ?_⟩
    refine ⟨v, ⟨m, ws, rfl, .of em, mm, hE⟩, by rw [List.length_replicate]; decide, fun p1 n1 => ?_⟩
    have S1 := same_new (o := .lst (List.replicate 6 v)) n1
    have L1 := upd_same (H := H) (a := p1) (o := .lst (List.replicate 6 v))
    generalize upd H p1 (.lst (List.replicate 6 v)) = G1 at S1 L1 ⊢
    refine ⟨.ref p1, rfl, v, ⟨m, ws, rfl, .of (S1 _ _ em), Made.same S1 mm, hE⟩, by rw [List.length_replicate]; decide, fun l2 n2 => ?_⟩
    have sn2 := same_new (o := .lst (List.replicate 6 v)) n2
    refine ⟨p1, l2, _, _, rfl, rfl, sn2 _ _ L1, upd_same, by (simp only [List.length_replicate]; decide), fun p2 k2 => ?_⟩
    have S2 := S1.trans (sn2.trans (same_new (o := .lst (List.replicate 6 v ++ List.replicate 6 v)) k2))
    have L2 := upd_same (H := upd G1 l2 (.lst (List.replicate 6 v))) (a := p2) (o := .lst (List.replicate 6 v ++ List.replicate 6 v))
    rw [List.replicate_append_replicate] at S2 L2 ⊢
    generalize upd (upd G1 l2 (.lst (List.replicate 6 v))) p2 (.lst (List.replicate (6 + 6) v)) = G2 at S2 L2 ⊢
    have L2 : G2 p2 = some (.lst (List.replicate 12 v)) := L2
    refine ⟨.ref p2, rfl, v, ⟨m, ws, rfl, .of (S2 _ _ em), Made.same S2 mm, hE⟩, by rw [List.length_replicate]; decide, fun l3 n3 => ?_⟩
    have sn3 := same_new (o := .lst (List.replicate 6 v)) n3
    refine ⟨p2, l3, _, _, rfl, rfl, sn3 _ _ L2, upd_same, by (simp only [List.length_replicate]; decide), fun p3 k3 => ?_⟩
    have S3 := S2.trans (sn3.trans (same_new (o := .lst (List.replicate 12 v ++ List.replicate 6 v)) k3))
    have L3 := upd_same (H := upd G2 l3 (.lst (List.replicate 6 v))) (a := p3) (o := .lst (List.replicate 12 v ++ List.replicate 6 v))
    rw [List.replicate_append_replicate] at S3 L3 ⊢
    generalize upd (upd G2 l3 (.lst (List.replicate 6 v))) p3 (.lst (List.replicate (12 + 6) v)) = G3 at S3 L3 ⊢
    have L3 : G3 p3 = some (.lst (List.replicate 18 v)) := L3
    refine ⟨.ref p3, rfl, v, ⟨m, ws, rfl, .of (S3 _ _ em), Made.same S3 mm, hE⟩, by rw [List.length_replicate]; decide, fun l4 n4 => ?_⟩
    have sn4 := same_new (o := .lst (List.replicate 1 v)) n4
    refine ⟨p3, l4, _, _, rfl, rfl, sn4 _ _ L3, upd_same, by (simp only [List.length_replicate]; decide), fun p4 k4 => ?_⟩
    have S4 := S3.trans (sn4.trans (same_new (o := .lst (List.replicate 18 v ++ List.replicate 1 v)) k4))
    have L4 := upd_same (H := upd G3 l4 (.lst (List.replicate 1 v))) (a := p4) (o := .lst (List.replicate 18 v ++ List.replicate 1 v))
    rw [List.replicate_append_replicate] at S4 L4 ⊢
    generalize upd (upd G3 l4 (.lst (List.replicate 1 v))) p4 (.lst (List.replicate (18 + 1) v)) = G4 at S4 L4 ⊢
    have L4 : G4 p4 = some (.lst (List.replicate 19 v)) := L4
    exact q _ _ S4 L4
end
def menu : List PyData := [.int 0, .int (-1), .int 7, .int (10 ^ (20 : Int).toNat), .none, .bool true, .str "", .str "a", .str "line", .tuple [], .tuple [.str "a", .str "b"], .tuple [.tuple [.int (-1), .int 1, .tuple []]], .list [], .list [.int 1], .dict [], .tuple [.tuple [.int 0, .str "a"]]]
def menu2 : List PyData := menu ++ [.int 1, .tuple [.str "x"]]
theorem menu_ok {d : PyData} (h : d ∈ menu2) : PyData.showable (.list (List.replicate 19 d)) = true ∧ PyData.depth (.list (List.replicate 19 d)) ≤ 60 ∧ (PyData.shown (.list (List.replicate 19 d))).length ≤ sizeLine := by
  have k : (menu2.all fun d => PyData.showable (.list (List.replicate 19 d)) && (decide (PyData.depth (.list (List.replicate 19 d)) ≤ 60) && decide ((PyData.shown (.list (List.replicate 19 d))).length ≤ 16777216))) = true := by decide +kernel
  have z := List.all_eq_true.mp k d h
  obtain ⟨z1, z⟩ := He.ba z
  obtain ⟨z2, z3⟩ := He.ba z
  refine ⟨z1, of_decide_eq_true z2, ?_⟩
  rw [sizeLine_eq]
  exact of_decide_eq_true z3
def row (i : Nat) : List Bool := (List.range 19).map fun j => j == i
def dRow (i : Nat) : PyData := .list ((row i).map PyData.bool)
theorem dRow_ok {i : Nat} (h : i < 19) : SeqAt.shaped (dRow i) = true ∧ PyData.eqv (dRow i) (dRow i) = true := by
  have k : ∀ j : Fin 19, SeqAt.shaped (dRow j.1) = true ∧ PyData.eqv (dRow j.1) (dRow j.1) = true := by decide +kernel
  exact k ⟨i, h⟩
theorem dp_bools {K : PySem.W.Frag} {H : Hp} : ∀ bs : List Bool, DpAll K H (bs.map V.bl) (bs.map PyData.bool)
  | [] => .nil
  | b :: r => .cons (.bl b) (dp_bools r)
theorem cmp_row (i : Nat) : (List.range 19).map (fun j : Nat => V.bl (decide (V.int (0 + (j : Int)) = V.int (i : Int)))) = (row i).map V.bl := by
  unfold row
  rw [List.map_map]
  refine List.map_congr_left fun j _ => ?_
  show V.bl (decide (V.int (0 + (j : Int)) = V.int (i : Int))) = V.bl (j == i)
  by_cases e : j = i
  · subst e
    rw [decide_eq_true (by rw [Int.zero_add]), beq_self_eq_true]
  · rw [decide_eq_false (fun z => e (by have := V.int.inj z; omega)), beq_eq_false_iff_ne.mpr e]
abbrev lawN : List Str := ["_law_script", "_law_some", "_law_k", "_law_hand_here", "_law_thing", "_law_nth", "_law_error", "_law_turn", "_law_at", "_law_made_here"]
theorem scLaw : FnScope lawN ["_law_script"] (defScope slaw) := ⟨rfl, rfl, rfl, by decide +kernel, rfl, by decide +kernel, by decide +kernel⟩
def spLaw (K : PySem.W.Frag) : Sp := fun vs H Q _ => ∃ (a : Addr) (ns : List Int), vs = [.ref a] ∧ SqL K H a (ns.map V.int) ∧ ∀ H', Q (.bl true) H'
section
variable {P : Program} {w : World} {K : PySem.W.Frag} {mg : Str → Option Value} {base : Heap}
/-- what is told of the i-th error's class -/
structure ErrI (K : PySem.W.Frag) (cs : List Addr) (Rr : Addr) (i : Nat) (c : Addr) : Prop where
  t : ∃ fI, ErrC K c fI
  kl : KitL K c cs (row i)
  re : PySem.W.kitOne K (.ref c) (.ref Rr) = some true
  ve : PySem.W.kitOne K (.ref c) (.type "ValueError") = some true
theorem ok_law {f fH fT fP fK fM fL Rr : Addr} {fd fdH fdT fdP fdK fdM fdL : FuncData} {C I : Nat → Addr} {D : Nat → FuncData} (F : FnP K "law" slaw f fd)
    (FH : FnP K "_law_hand" s_law_hand fH fdH) (FT : FnP K "_law_take" s_law_take fT fdT) (FP : FnP K "_law_pick" s_law_pick fP fdP)
    (FK : FnP K "_law_kinds" s_law_kinds fK fdK) (FM : FnP K "_law_made" s_law_made fM fdM) (FL : FnP K "_law_fields" s_law_fields fL fdL) (T : Txt K mg C I D)
    (gH : mg "_law_hand" = some (.ref fH)) (gT : mg "_law_take" = some (.ref fT)) (gP : mg "_law_pick" = some (.ref fP)) (gK : mg "_law_kinds" = some (.ref fK)) (gM : mg "_law_made" = some (.ref fM)) (gL : mg "_law_fields" = some (.ref fL)) (mp : mg "repr" = none) (hsy : SysK K) (hAE : AllE K (allC C))
    (gR : mg "RenameError" = some (.ref Rr)) (ml : mg "len" = none) (ma : mg "abs" = none) (mi : mg "int" = none) (mr : mg "range" = none) (mx : mg "max" = none) (mn : mg "min" = none)
    (ms : mg "isinstance" = none) (me : mg "enumerate" = none) (mv : mg "ValueError" = none)
    (hE : ∀ (i : Nat) (q : Addr × Str), (allC C)[i]? = some q → ErrI K (allA C) Rr i q.1) :
    FnG P w K mg base CX0 5 f fd ["_law_script"] (spLaw K) := by
  have GH : FnOk P w K mg base CX0 1 fH fdH ["_law_script", "_law_k"] (spHand K) := ok_hand FH ml ma mi
  have GP : FnOk P w K mg base CX0 2 fP fdP ["_law_hand_here", "_law_items"] (spPick K) := ok_pick FP FT gT ml
  have GK : FnOk P w K mg base CX0 1 fK fdK ["_law_error"] (spKinds K (allA C)) := ok_kinds FK T ms
  have GM : FnOk P w K mg base CX0 3 fM fdM ["_law_thing"] (spMade (allC C)) := ok_made FM T
  have GL : FnOk P w K mg base CX0 1 fL fdL ["_law_made_here"] (spFields K (allC C)) := ok_fields FL
  have bL : Binds K fdL ["_law_made_here"] [] := FL.bindsN fun _ _ _ _ _ _ us hl => match us, hl with | [_], _ => rfl
  have bH : Binds K fdH ["_law_script", "_law_k"] [] := FH.bindsN fun _ _ _ _ _ _ us hl => match us, hl with | [_, _], _ => rfl
  have bP : Binds K fdP ["_law_hand_here", "_law_items"] [] := FP.bindsN fun _ _ _ _ _ _ us hl => match us, hl with | [_, _], _ => rfl
  have bK : Binds K fdK ["_law_error"] [] := FK.bindsN fun _ _ _ _ _ _ us hl => match us, hl with | [_], _ => rfl
  have bM : Binds K fdM ["_law_thing"] [] := FM.bindsN fun _ _ _ _ _ _ us hl => match us, hl with | [_], _ => rfl
  refine F.okG scLaw (fun vs H Q E h => ?_) (fun cdv A outer s H vs Q E hr hgd h => ?_)
  · obtain ⟨a, ns, rfl, _⟩ := h
    rfl
  · obtain ⟨a, ns, rfl, hS, q⟩ := h
    have nd := scLaw.nd
    have hr1 : Room 1 _ := hr.mono (by decide)
    have hr2 : Room 2 _ := hr.mono (by decide)
    have hr3 : Room 3 _ := hr.mono (by decide)
    refine ⟨_, PSs.nox (pss_cons (ps_set (i := 1) nd rfl (.inr rfl) (pe_lst (pa_cons pe_int (pa_cons (pe_un un_neg pe_int) (pa_cons pe_int (pa_cons (pe_op op_pow pe_int pe_int) (pa_cons pe_non (pa_cons pe_bl (pa_cons pe_str (pa_cons pe_str (pa_cons pe_str (pa_cons (pe_tup pa_nil) (pa_cons (pe_tup (pa_cons pe_str (pa_cons pe_str pa_nil))) (pa_cons (pe_tup (pa_cons (pe_tup (pa_cons (pe_un un_neg pe_int) (pa_cons pe_int (pa_cons (pe_tup pa_nil) pa_nil)))) pa_nil)) (pa_cons (pe_lst pa_nil) (pa_cons (pe_lst (pa_cons pe_int pa_nil)) (pa_cons pe_dnewK (pa_cons (pe_tup (pa_cons (pe_tup (pa_cons pe_int (pa_cons pe_str pa_nil))) pa_nil)) pa_nil))))))))))))))))))
      (pss_cons (ps_for PassesOwn.never rfl (pi_range1 (by rfl) mr (pa_cons (pe_callB (call_max2 rfl) (by rfl) mx (by decide +kernel) (pa_cons pe_int (pa_cons
          (pe_callB (call_min2 rfl) (by rfl) mn (by decide +kernel) (pa_cons pe_int (pa_cons (pe_callB call_len_seq (by rfl) ml PySem.boot_len (pa_cons (pv 0) pa_nil)) pa_nil))) pa_nil))) pa_nil))
          (pg_name (i := 2) nd rfl (.inl rfl))
        (pss_cons (ps_set (i := 3) nd rfl (.inr rfl) (pe_call GH hr1 (by rfl) gH FH.kp bH .nil pass0 (pa_cons (pv 0) (pa_cons (pv 2) pa_nil))))
        (pss_one (ps_for PassesOwn.never rfl (pi_list (pe_op op_cat
            (pe_lc (own := [("_law_turn", 7)]) (g := gName 7) (tt := tYes) rfl nd (pi_range1 (by rfl) mr (pa_cons pe_int pa_nil)) (blkOk_by (N := lawN) (sc := defScope slaw) (by decide +kernel))
              (fun _ _ _ _ _ => pg_name (i := 7) nd rfl (Or.inl rfl)) (fun _ _ _ _ _ => pts_nil)
              (fun _ _ _ _ _ => pe_call GP hr2 (by rfl) gP FP.kp bP .nil pass0 (pa_cons (pv 3) (pa_cons (pv 1) pa_nil))))
            (pe_lst (pa_cons pe_int (pa_cons (pe_tup (pa_cons pe_str pa_nil)) pa_nil)))))
            (pg_name (i := 4) nd rfl (.inl rfl))
          (pss_cons (ps_set (i := 9) nd rfl (.inl rfl) (pe_call GM hr3 (by rfl) gM FM.kp bM .nil pass0 (pa_cons (pv 4) pa_nil)))
          (pss_cons (ps_if (pt_cmpR op_ne (pe_callB (call_reprD hsy hgd hr.units) (by rfl) mp (by decide +kernel) (pa_cons (pe_call GL hr1 (by rfl) gL FL.kp bL .nil pass0 (pa_cons (pv 9) pa_nil)) pa_nil))
              (pe_callB (call_reprD hsy hgd hr.units) (by rfl) mp (by decide +kernel) (pa_cons (pe_op op_rep (pe_lst (pa_cons (pv 4) pa_nil)) pe_int) pa_nil)) (nomark _))
            (pss_one (ps_ret pe_bl)) pss_nil)
          (pss_one (ps_for PassesOwn.never rfl (pi_enum (by rfl) me (pa_cons (pv 9) pa_nil))
              (pg_tup rfl (pgs_cons (pg_name (i := 5) nd rfl (.inr rfl)) (pgs_cons (pg_name (i := 6) nd rfl (.inl rfl)) pgs_nil)))
            (pss_cons (ps_if (pt_cmpR (op_neD hr.units) (pe_call GK hr1 (by rfl) gK FK.kp bK .nil pass0 (pa_cons (pv 6) pa_nil))
                (pe_lc (own := [("_law_at", 8)]) (g := gName 8) (tt := tYes) rfl nd (pi_range1 (by rfl) mr (pa_cons pe_int pa_nil)) (blkOk_by (N := lawN) (sc := defScope slaw) (by decide +kernel))
                  (fun _ _ _ _ _ => pg_name (i := 8) nd rfl (Or.inl rfl)) (fun _ _ _ _ _ => pts_nil)
                  (fun _ _ _ _ _ => pe_cmpR op_eq (pv 8) (pv 5) (nomark _))) (nomark _))
              (pss_one (ps_ret pe_bl)) pss_nil)
            (pss_one (ps_if (PW.pt (pw_or (pt_not (pt_val (pe_callB call_isX (by rfl) ms (by decide +kernel) (pa_cons (pv 6) (pa_cons (pe_glob (v := .ref Rr) (by rfl) gR rfl) pa_nil)))))
                (pw_or1 (pt_not (pt_val (pe_callB call_isX (by rfl) ms (by decide +kernel) (pa_cons (pv 6) (pa_cons (pe_bltn (v := .ty "ValueError") (by rfl) mv (by decide +kernel) rfl) pa_nil))))))))
              (pss_one (ps_ret pe_bl)) pss_nil)))))))))))
      (pss_one (ps_ret pe_bl)))), ?_⟩
    refine set_dlst (K := K) (ds := menu) (da_cons d_int (da_cons d_neg (da_cons d_int (da_cons (d_pow ⟨by decide, by decide, by decide⟩) (da_cons d_non (da_cons d_bl (da_cons d_str (da_cons d_str (da_cons d_str (da_cons (d_tup da_nil) (da_cons (d_tup (da_cons d_str (da_cons d_str da_nil))) (da_cons (d_tup (da_cons (d_tup (da_cons d_neg (da_cons d_int (da_cons (d_tup da_nil) da_nil)))) da_nil)) (da_cons (d_lst da_nil) (da_cons (d_lst (da_cons d_int da_nil)) (da_cons d_dict (da_cons (d_tup (da_cons (d_tup (da_cons d_int (da_cons d_str da_nil))) da_nil)) da_nil)))))))))))))))) (by decide) fun so xs G S _ Lso dxs => ?_
    have hxl : xs.length = menu.length := dts_len dxs
    have hJ : ∀ x : Int, 0 ≤ x → (1 ≤ (if (if x < 2 then x else 2) > 1 then (if x < 2 then x else 2) else 1) ∧ (if (if x < 2 then x else 2) > 1 then (if x < 2 then x else 2) else 1) ≤ 2) := by
      intro x h0
      by_cases c : x < 2
      · rw [if_pos c]
        by_cases c2 : x > 1
        · rw [if_pos c2]
          omega
        · rw [if_neg c2]
          omega
      · rw [if_neg c, if_pos (by decide)]
        omega
    obtain ⟨j0, j1⟩ := hJ ((ns.map V.int).length : Int) (by omega)
    refine ⟨.ref a, rfl, a, _, rfl, .inl (S.seq hS), 2, _, rfl, 1, _, rfl, _, rfl, by omega, by omega, ?_⟩
    refine for_range (lo := 0) (fun i σ G' => ∃ y2 y3 y4 y5 y6 y7 y8 y9, σ = [some (.ref a), some (.ref so), y2, y3, y4, y5, y6, y7, y8, y9] ∧ Same G G') ⟨_, _, _, _, _, _, _, _, rfl, Same.refl G⟩ ?_ ?_
    · rintro i σ G1 hi ⟨y2, y3, y4, y5, y6, y7, y8, y9, rfl, S1⟩
      refine ⟨.ref a, rfl, .int (0 + i), rfl, a, 0 + i, ns, rfl, (S.trans S1).seq hS, by omega, by omega, fun p L np hL => ?_⟩
      have Lso1 : G1 so = some (.lst xs) := S1 _ _ Lso
      have nso : so ≠ p := ne_of_none Lso1 np
      refine ⟨4, rfl, by decide, by decide, fun D nD => ?_⟩
      have nDp : D ≠ p := fun z => by
        rw [z, upd_same] at nD
        cases nD
      have nD1 : G1 D = none := by
        rw [← nD, upd_ne nDp]
      refine lc_range (lo := 0) (n := 4) (fun j H' => Same G1 H' ∧ HandAt H' p j ∧ ∃ acc, H' D = some (.lst acc) ∧ acc.length = j ∧ ∀ x ∈ acc, ∃ d ∈ menu, Dt K G d x) ⟨fun b o e => ?_, ?_, [], upd_same, rfl, fun x hx => nomatch hx⟩ ?_ ?_
      · rw [upd_ne (ne_of_none e nD1), upd_ne (ne_of_none e np)]
        exact e
      · refine ⟨L, ?_, hL⟩
        rw [upd_ne (Ne.symm nDp), upd_same]
      · rintro j H' hj ⟨S2, hA, acc, eD, hl, hda⟩
        refine ⟨rfl, .ref p, rfl, .ref so, rfl, p, so, (j : Int), xs, rfl, hA, by omega, .of (S2 _ _ Lso1), fun z => ?_, ?_, nso, fun H2 x sx ha hx => ?_⟩
        · rw [z] at hxl
          cases hxl
        · rw [hxl]
          decide
        · refine ⟨acc, sx _ _ nDp eD, ?_, fun b o e => ?_, ?_, acc ++ [x], upd_same, ?_, fun y hy => ?_⟩
          · rw [hl]
            exact Nat.lt_of_lt_of_le hj (by decide)
          · rw [upd_ne (ne_of_none e nD1)]
            exact sx _ _ (ne_of_none e np) (S2 _ _ e)
          · obtain ⟨L2, e2, h2⟩ := ha
            refine ⟨L2, ?_, ?_⟩
            · rw [upd_ne (Ne.symm nDp)]
              exact e2
            · exact h2.mono (by omega)
          · rw [List.length_append, hl]
            rfl
          · rcases List.mem_append.mp hy with z | z
            · exact hda y z
            · rw [List.mem_singleton.mp z]
              exact dts_mem dxs hx
      · rintro H2 ⟨S2, hA, acc, eD, hl, hda⟩
        refine dlst_top (K := K) (ds := [.int 1, .tuple [.str "x"]]) (da_cons d_int (da_cons (d_tup (da_cons d_str da_nil)) da_nil)) (by decide) fun l2 xs2 H3 S3 _ L2 dx2 => ?_
        have hl2 : xs2.length = 2 := dts_len dx2
        refine ⟨D, l2, acc, xs2, rfl, rfl, S3 _ _ eD, L2, ?_, fun cc ncc => ?_⟩
        · rw [hl, hl2]
          decide
        have S4 : Same G1 (upd H3 cc (.lst (acc ++ xs2))) := (S2.trans S3).trans (same_new ncc)
        have L4 : upd H3 cc (.lst (acc ++ xs2)) cc = some (.lst (acc ++ xs2)) := upd_same
        have D4 : ∀ x ∈ acc ++ xs2, ∃ d ∈ menu2, Dt K (upd H3 cc (.lst (acc ++ xs2))) d x := fun x hx => by
          rcases List.mem_append.mp hx with z | z
          · obtain ⟨d, hd, hq⟩ := hda x z
            exact ⟨d, List.mem_append_left _ hd, Dt.same (S1.trans S4) d x hq⟩
          · obtain ⟨d, hd, hq⟩ := dts_mem dx2 z
            exact ⟨d, List.mem_append_right _ hd, Dt.same (same_new ncc) d x hq⟩
        generalize upd H3 cc (.lst (acc ++ xs2)) = H4 at S4 L4 D4 ⊢
        generalize acc ++ xs2 = things at L4 D4 ⊢
        refine ⟨cc, rfl, ⟨_, .of L4⟩, ?_⟩
        refine for_list (K := K) (a := cc) (xs := things) (fun i σ H' => ∃ z2 z4 z5 z6 z7 z8 z9, σ = [some (.ref a), some (.ref so), z2, some (.ref p), z4, z5, z6, z7, z8, z9] ∧ Same H4 H') ⟨_, _, _, _, _, _, _, rfl, Same.refl H4⟩
          (fun i σ H' _ ⟨_, _, _, _, _, _, _, _, s⟩ => .of (s _ _ L4)) ?_ ?_
        · rintro n th σ H5 hth ⟨z2, z4, z5, z6, z7, z8, z9, rfl, S5⟩
          refine ⟨th, rfl, th, rfl, fun H6 pm ws S6 L6 M6 => ?_⟩
          have hw : ws.length = 19 := M6.len
          obtain ⟨dd, hdm, hdt⟩ := D4 th (List.mem_of_getElem? hth)
          obtain ⟨sh, dp, sz⟩ := menu_ok hdm
          refine ⟨.ref pm, rfl, pm, th, ws, rfl, L6, M6, hAE, fun Ha pa Sa La => ?_⟩
          refine ⟨.ref pa, .list (List.replicate 19 dd), rfl, ?_, sh, dp, sz, ?_⟩
          · unfold Dt
            exact ⟨pa, _, rfl, .of La, dts_rep (Dt.same ((S5.trans S6).trans Sa) dd th hdt) 19⟩
          refine ⟨th, rfl, by show 1 ≤ sizeLine; decide, fun pb nb => ?_⟩
          refine ⟨pb, 19, [th], rfl, rfl, upd_same, by decide, by decide, (by show 1 * 19 ≤ sizeLine; decide), fun pc nc => ?_⟩
          have Sc := (S6.trans Sa).trans ((same_new (o := .lst [th]) nb).trans (same_new (o := .lst (List.replicate (19 : Int).toNat [th]).flatten) nc))
          have Lc := upd_same (H := upd Ha pb (.lst [th])) (a := pc) (o := .lst (List.replicate (19 : Int).toNat [th]).flatten)
          have Sb := (same_new (o := .lst [th]) nb).trans (same_new (o := .lst (List.replicate (19 : Int).toNat [th]).flatten) nc)
          refine ⟨.ref pc, .list (List.replicate 19 dd), rfl, ?_, sh, dp, sz, rfl, _, rfl, ?_⟩
          · unfold Dt
            exact ⟨pc, _, rfl, .of Lc, dts_rep (Dt.same (S5.trans Sc) dd th hdt) 19⟩
          refine iteNS rfl ?_
          generalize upd (upd Ha pb (.lst [th])) pc (.lst (List.replicate (19 : Int).toNat [th]).flatten) = H6b at Sc Sb Lc ⊢
          have Sd : Same H6 H6b := Sa.trans Sb
          have L6 : H6b pm = some (.lst ws) := Sd _ _ L6
          have M6 := Made.same Sd M6
          have S6 := S6.trans Sd
          clear Sc Sb Lc La Sa
          generalize H6b = H6 at L6 M6 S6 ⊢
          refine ⟨.ref pm, rfl, pm, ws, rfl, .of L6, fun i m σ H' => ∃ u5 u6 u7 u8, σ = [some (.ref a), some (.ref so), z2, some (.ref p), some th, u5, u6, u7, u8, some (.ref pm)] ∧ i + m = ws.length ∧ Same H6 H',
            ⟨ws.length, z5, z6, z7, z8, rfl, by omega, Same.refl H6⟩, fun i m σ H7 hW => ?_⟩
          obtain ⟨u5, u6, u7, u8, rfl, em, S7⟩ := hW
          by_cases hi2 : i < ws.length
          · have gx : ws[i]? = some ws[i] := List.getElem?_eq_getElem hi2
            refine .inr ⟨⟨ws, _, .of (S7 _ _ L6), gx⟩, fun σ' H' => ∃ u5 u6 u7 u8, σ' = [some (.ref a), some (.ref so), z2, some (.ref p), some th, u5, u6, u7, u8, some (.ref pm)] ∧ Same H6 H', fun σ' H' hN => ?_, fun x H' hy => ?_⟩
            · obtain ⟨w5, w6, w7, w8, e, s8⟩ := hN
              exact ⟨m - 1, by omega, w5, w6, w7, w8, e, by omega, s8⟩
            · obtain ⟨Tp, x', rfl, nT, rfl, fx⟩ := hy
              have ex : x' = ws[i] := Option.some.inj ((fx _ (.of (S7 _ _ L6))).symm.trans gx)
              subst ex
              obtain ⟨qc, ae, de, hqc, exr, eae, ede⟩ := Made.get M6 gx
              have Ei := hE i qc hqc
              obtain ⟨fI, Tc⟩ := Ei.t
              have S8 : Same H6 (upd H7 Tp (.tup [.int (i : Nat), ws[i]])) := S7.trans (same_new nT)
              have LT : upd H7 Tp (.tup [.int (i : Nat), ws[i]]) Tp = some (.tup [.int (i : Nat), ws[i]]) := upd_same
              generalize upd H7 Tp (.tup [.int (i : Nat), ws[i]]) = H8 at S8 LT ⊢
              rw [exr] at LT
              refine ⟨Tp, [.int (i : Nat), .ref ae], rfl, .of LT, rfl, .int (i : Nat), [.ref ae], rfl, .ref ae, [], rfl, rfl, ?_⟩
              refine ⟨.ref ae, rfl, ae, qc.1, fI, de, _, row i, rfl, S8 _ _ eae, S8 _ _ ede, Tc, Ei.kl, fun H9 pk S9 L9 => ?_⟩
              refine ⟨19, rfl, by decide, by decide, fun D2 nD2 => ?_⟩
              refine lc_range (lo := 0) (n := 19) (fun j H' => Same H9 H' ∧ H' D2 = some (.lst ((List.range j).map fun j : Nat => V.bl (decide (V.int (0 + (j : Int)) = V.int (i : Int))))))
                ⟨same_new nD2, upd_same⟩ ?_ ?_
              · rintro j H10 hj ⟨S10, e10⟩
                refine ⟨rfl, _, rfl, _, rfl, rfl, _, e10, ?_, fun b o e => ?_, ?_⟩
                · rw [List.length_map, List.length_range]
                  exact Nat.lt_of_lt_of_le hj (by decide)
                · rw [upd_ne (ne_of_none e nD2)]
                  exact S10 _ _ e
                · rw [upd_same, List.range_succ, List.map_append]
                  rfl
              · rintro H10 ⟨S10, e10⟩
                rw [cmp_row] at e10
                obtain ⟨sh, eq⟩ := dRow_ok (show i < 19 by omega)
                refine ⟨dRow i, dRow i, .lst (.of (S10 _ _ L9)) (dp_bools _), .lst (.of e10) (dp_bools _), sh, sh, _, rfl, ?_⟩
                rw [eq]
                have S11 : Same H6 H10 := (S8.trans S9).trans S10
                refine iteF ?_
                refine ⟨.ref ae, rfl, ae, qc.1, fI, de, .ref Rr, .ref Rr, true, rfl, S11 _ _ eae, ⟨_, S11 _ _ ede⟩, Tc, .own Rr, Ei.re, true, rfl, ?_⟩
                refine iteF ?_
                refine ⟨.ref ae, rfl, ae, qc.1, fI, de, .ty "ValueError", .type "ValueError", true, rfl, S11 _ _ eae, ⟨_, S11 _ _ ede⟩, Tc, .ty _, Ei.ve, true, rfl, ?_⟩
                refine iteF ?_
                exact ⟨_, _, _, _, rfl, S11⟩
          · refine .inl ⟨⟨ws, .of (S7 _ _ L6), by omega⟩, ?_⟩
            exact ⟨_, _, _, _, _, _, _, rfl, (S5.trans S6).trans S7⟩
        · rintro σ H5 ⟨z2, z4, z5, z6, z7, z8, z9, rfl, S5⟩
          exact ⟨_, _, _, _, _, _, _, _, rfl, S4.trans S5 |> S1.trans⟩
    · rintro σ G1 ⟨y2, y3, y4, y5, y6, y7, y8, y9, rfl, S1⟩
      exact q _
end
end K71
set_option Elab.async false
set_option linter.all false
set_option maxRecDepth 100000
set_option maxHeartbeats 4000000
namespace K71
open PySem PySem.Spec PyProof.Rows L2
theorem rowB_ok {K : PySem.W.Frag} {a : Addr} {i : Nat} : ∀ {l : List Addr} {j : Nat}, rowB K a i j l = true → KitL K a l ((List.range' j l.length).map fun x => x == i)
  | [], _, _ => rfl
  | b :: r, j, h => by
    obtain ⟨h1, h2⟩ := He.ba (show (oneB K a b (j == i) && rowB K a i (j + 1) r) = true from h)
    exact ⟨j == i, _, rfl, of_decide_eq_true h1, rowB_ok h2⟩
theorem allB_ok {K : PySem.W.Frag} {as : List Addr} : ∀ {l : List Addr} {k i : Nat} {c : Addr}, allB K as k l = true → l[i]? = some c → rowB K c (k + i) 0 as = true
  | [], _, _, _, _, e => by simp at e
  | a :: r, k, 0, c, h, e => by
    obtain ⟨h1, _⟩ := He.ba (show (rowB K a k 0 as && allB K as (k + 1) r) = true from h)
    have e' : a = c := Option.some.inj e
    rw [← e']
    exact h1
  | a :: r, k, i + 1, c, h, e => by
    obtain ⟨_, h2⟩ := He.ba (show (rowB K a k 0 as && allB K as (k + 1) r) = true from h)
    have z := allB_ok (i := i) h2 e
    rw [show k + (i + 1) = k + 1 + i by omega]
    exact z
/-- what ex tells of one error -/
theorem one_of {K : PySem.W.Frag} (h : ex K = true) {q : Nat × Str × Str} (hq : q ∈ errs) : ErrC K (He.ga K q.2.1) (He.ma K (He.ga K q.2.1) "__init__") ∧
    PySem.W.findIn K (.ref (He.ga K q.2.1)) q.2.2 = some none ∧ PySem.W.kitOne K (.ref (He.ga K q.2.1)) (.ref (He.ga K "RenameError")) = some true ∧
    PySem.W.kitOne K (.ref (He.ga K q.2.1)) (.type "ValueError") = some true := by
  obtain ⟨h1, _⟩ := He.ba h
  have z := List.all_eq_true.mp h1 q hq
  obtain ⟨z1, z⟩ := He.ba z
  obtain ⟨z2, z⟩ := He.ba z
  obtain ⟨z3, z4⟩ := He.ba z
  exact ⟨errB_ok z1, of_decide_eq_true z2, of_decide_eq_true z3, of_decide_eq_true z4⟩
def cA (K : PySem.W.Frag) (j : Nat) : Addr := (cs K).getD j 0
def iA (K : PySem.W.Frag) (j : Nat) : Addr := He.ma K (cA K j) "__init__"
theorem errI_of {K : PySem.W.Frag} (h : ex K = true) (i : Nat) (q : Addr × Str) (hi : (allC (cA K))[i]? = some q) : ErrI K (allA (cA K)) (He.ga K "RenameError") i q.1 := by
  have hc : (cs K)[i]? = some q.1 := by
    have e : cs K = (allC (cA K)).map (·.1) := rfl
    rw [e, List.getElem?_map, hi]
    rfl
  obtain ⟨p, hp, ep⟩ : ∃ p, errs[i]? = some p ∧ He.ga K p.2.1 = q.1 := by
    have e : cs K = errs.map fun q => He.ga K q.2.1 := rfl
    rw [e, List.getElem?_map] at hc
    cases z : errs[i]? with
    | none =>
      rw [z] at hc
      cases hc
    | some p =>
      rw [z] at hc
      exact ⟨p, rfl, Option.some.inj hc⟩
  obtain ⟨t, n, r, v⟩ := one_of h (List.mem_of_getElem? hp)
  rw [ep] at t r v
  refine ⟨⟨_, t⟩, ?_, r, v⟩
  have z := rowB_ok (allB_ok (He.ba h).2 hc)
  rw [Nat.zero_add] at z
  exact z
theorem allE_of {K : PySem.W.Frag} (h : ex K = true) : AllE K (allC (cA K)) := by
  intro i q hi
  have e : allC (cA K) = errs.map fun p => (He.ga K p.2.1, p.2.2) := rfl
  rw [e, List.getElem?_map] at hi
  cases z : errs[i]? with
  | none =>
    rw [z] at hi
    cases hi
  | some p =>
    rw [z] at hi
    cases hi
    obtain ⟨t, n, _, _⟩ := one_of h (List.mem_of_getElem? z)
    exact ⟨_, t, n⟩
theorem facts {P : Program} {w : World} {K : PySem.W.Frag} {h : Heap} {mg : Str → Option Value} {f : Addr} (X : K.In h) (G : h.Ns mainGlobals mg) (hfa : mg ("law" : Str) = some (.ref f)) (c : SaysY fa fn ex K) :
    ∃ fd : FuncData, (∀ (s : Shared) (v : Value), BindsTo s fd ⟨[v], []⟩ [("_law_script", v)]) ∧ ∀ base : Heap, K.In base → base.Ns mainGlobals mg → FnG P w K mg base CX0 5 f fd ["_law_script"] (spLaw K) := by
  obtain ⟨fd0, F0⟩ := c.d.def_ 0 (d := dD "_law_hand" 22) rfl
  obtain ⟨fd1, F1⟩ := c.d.def_ 1 (d := dD "_law_take" 23) rfl
  obtain ⟨fd2, F2⟩ := c.d.def_ 2 (d := dD "_law_pick" 24) rfl
  obtain ⟨fd3, F3⟩ := c.d.def_ 3 (d := dD "_law_kinds" 25) rfl
  obtain ⟨fd4, F4⟩ := c.d.def_ 4 (d := dD "_law_made" 26) rfl
  obtain ⟨fd5, F5⟩ := c.d.def_ 5 (d := dD "_law_fields" 27) rfl
  obtain ⟨fd6, F6⟩ := c.d.def_ 6 (d := dD "law" 28) rfl
  obtain ⟨fe0, E0⟩ := c.d.def_ 7 (d := dE (2, "NoScope", "scope") "NoScope.__init__") rfl
  obtain ⟨fe1, E1⟩ := c.d.def_ 8 (d := dE (3, "NoDeclaration", "declaration") "NoDeclaration.__init__") rfl
  obtain ⟨fe2, E2⟩ := c.d.def_ 9 (d := dE (4, "BadName", "name") "BadName.__init__") rfl
  obtain ⟨fe3, E3⟩ := c.d.def_ 10 (d := dE (5, "BadNaming", "naming") "BadNaming.__init__") rfl
  obtain ⟨fe4, E4⟩ := c.d.def_ 11 (d := dE (6, "BadProgram", "program") "BadProgram.__init__") rfl
  obtain ⟨fe5, E5⟩ := c.d.def_ 12 (d := dE (7, "BadPool", "pool") "BadPool.__init__") rfl
  obtain ⟨fe6, E6⟩ := c.d.def_ 13 (d := dE (8, "BadPlan", "plan") "BadPlan.__init__") rfl
  obtain ⟨fe7, E7⟩ := c.d.def_ 14 (d := dE (9, "Unsafe", "index") "Unsafe.__init__") rfl
  obtain ⟨fe8, E8⟩ := c.d.def_ 15 (d := dE (10, "Clash", "other") "Clash.__init__") rfl
  obtain ⟨fe9, E9⟩ := c.d.def_ 16 (d := dE (11, "TooFewNames", "needed") "TooFewNames.__init__") rfl
  obtain ⟨fe10, E10⟩ := c.d.def_ 17 (d := dE (12, "TooMany", "most") "TooMany.__init__") rfl
  obtain ⟨fe11, E11⟩ := c.d.def_ 18 (d := dE (13, "TooLarge", "limit") "TooLarge.__init__") rfl
  obtain ⟨fe12, E12⟩ := c.d.def_ 19 (d := dE (14, "OutOfScope", "scope") "OutOfScope.__init__") rfl
  obtain ⟨fe13, E13⟩ := c.d.def_ 20 (d := dE (15, "MissingUse", "scope") "MissingUse.__init__") rfl
  obtain ⟨fe14, E14⟩ := c.d.def_ 21 (d := dE (16, "StillUsed", "scope") "StillUsed.__init__") rfl
  obtain ⟨fe15, E15⟩ := c.d.def_ 22 (d := dE (17, "NotEmpty", "scope") "NotEmpty.__init__") rfl
  obtain ⟨fe16, E16⟩ := c.d.def_ 23 (d := dE (18, "NothingToUndo", "count") "NothingToUndo.__init__") rfl
  obtain ⟨fe17, E17⟩ := c.d.def_ 24 (d := dE (19, "BadText", "line") "BadText.__init__") rfl
  obtain ⟨fe18, E18⟩ := c.d.def_ 25 (d := dE (20, "BadLine", "line") "BadLine.__init__") rfl
  have T : Txt K mg (cA K) (iA K) (fun j => match j with | 0 => fe0 | 1 => fe1 | 2 => fe2 | 3 => fe3 | 4 => fe4 | 5 => fe5 | 6 => fe6 | 7 => fe7 | 8 => fe8 | 9 => fe9 | 10 => fe10 | 11 => fe11 | 12 => fe12 | 13 => fe13 | 14 => fe14 | 15 => fe15 | 16 => fe16 | 17 => fe17 | 18 => fe18 | _ => fe0) := {
    e0 := ⟨(He.glo_ok X G (c.d.fact 18 (f := .glo "NoScope") rfl)), (one_of c.more (q := (2, "NoScope", "scope")) (List.mem_of_getElem? (i := 0) rfl)).1, (one_of c.more (q := (2, "NoScope", "scope")) (List.mem_of_getElem? (i := 0) rfl)).2.1, E0⟩
    e1 := ⟨(He.glo_ok X G (c.d.fact 19 (f := .glo "NoDeclaration") rfl)), (one_of c.more (q := (3, "NoDeclaration", "declaration")) (List.mem_of_getElem? (i := 1) rfl)).1, (one_of c.more (q := (3, "NoDeclaration", "declaration")) (List.mem_of_getElem? (i := 1) rfl)).2.1, E1⟩
    e2 := ⟨(He.glo_ok X G (c.d.fact 20 (f := .glo "BadName") rfl)), (one_of c.more (q := (4, "BadName", "name")) (List.mem_of_getElem? (i := 2) rfl)).1, (one_of c.more (q := (4, "BadName", "name")) (List.mem_of_getElem? (i := 2) rfl)).2.1, E2⟩
    e3 := ⟨(He.glo_ok X G (c.d.fact 21 (f := .glo "BadNaming") rfl)), (one_of c.more (q := (5, "BadNaming", "naming")) (List.mem_of_getElem? (i := 3) rfl)).1, (one_of c.more (q := (5, "BadNaming", "naming")) (List.mem_of_getElem? (i := 3) rfl)).2.1, E3⟩
    e4 := ⟨(He.glo_ok X G (c.d.fact 22 (f := .glo "BadProgram") rfl)), (one_of c.more (q := (6, "BadProgram", "program")) (List.mem_of_getElem? (i := 4) rfl)).1, (one_of c.more (q := (6, "BadProgram", "program")) (List.mem_of_getElem? (i := 4) rfl)).2.1, E4⟩
    e5 := ⟨(He.glo_ok X G (c.d.fact 23 (f := .glo "BadPool") rfl)), (one_of c.more (q := (7, "BadPool", "pool")) (List.mem_of_getElem? (i := 5) rfl)).1, (one_of c.more (q := (7, "BadPool", "pool")) (List.mem_of_getElem? (i := 5) rfl)).2.1, E5⟩
    e6 := ⟨(He.glo_ok X G (c.d.fact 24 (f := .glo "BadPlan") rfl)), (one_of c.more (q := (8, "BadPlan", "plan")) (List.mem_of_getElem? (i := 6) rfl)).1, (one_of c.more (q := (8, "BadPlan", "plan")) (List.mem_of_getElem? (i := 6) rfl)).2.1, E6⟩
    e7 := ⟨(He.glo_ok X G (c.d.fact 25 (f := .glo "Unsafe") rfl)), (one_of c.more (q := (9, "Unsafe", "index")) (List.mem_of_getElem? (i := 7) rfl)).1, (one_of c.more (q := (9, "Unsafe", "index")) (List.mem_of_getElem? (i := 7) rfl)).2.1, E7⟩
    e8 := ⟨(He.glo_ok X G (c.d.fact 26 (f := .glo "Clash") rfl)), (one_of c.more (q := (10, "Clash", "other")) (List.mem_of_getElem? (i := 8) rfl)).1, (one_of c.more (q := (10, "Clash", "other")) (List.mem_of_getElem? (i := 8) rfl)).2.1, E8⟩
    e9 := ⟨(He.glo_ok X G (c.d.fact 27 (f := .glo "TooFewNames") rfl)), (one_of c.more (q := (11, "TooFewNames", "needed")) (List.mem_of_getElem? (i := 9) rfl)).1, (one_of c.more (q := (11, "TooFewNames", "needed")) (List.mem_of_getElem? (i := 9) rfl)).2.1, E9⟩
    e10 := ⟨(He.glo_ok X G (c.d.fact 28 (f := .glo "TooMany") rfl)), (one_of c.more (q := (12, "TooMany", "most")) (List.mem_of_getElem? (i := 10) rfl)).1, (one_of c.more (q := (12, "TooMany", "most")) (List.mem_of_getElem? (i := 10) rfl)).2.1, E10⟩
    e11 := ⟨(He.glo_ok X G (c.d.fact 29 (f := .glo "TooLarge") rfl)), (one_of c.more (q := (13, "TooLarge", "limit")) (List.mem_of_getElem? (i := 11) rfl)).1, (one_of c.more (q := (13, "TooLarge", "limit")) (List.mem_of_getElem? (i := 11) rfl)).2.1, E11⟩
    e12 := ⟨(He.glo_ok X G (c.d.fact 30 (f := .glo "OutOfScope") rfl)), (one_of c.more (q := (14, "OutOfScope", "scope")) (List.mem_of_getElem? (i := 12) rfl)).1, (one_of c.more (q := (14, "OutOfScope", "scope")) (List.mem_of_getElem? (i := 12) rfl)).2.1, E12⟩
    e13 := ⟨(He.glo_ok X G (c.d.fact 31 (f := .glo "MissingUse") rfl)), (one_of c.more (q := (15, "MissingUse", "scope")) (List.mem_of_getElem? (i := 13) rfl)).1, (one_of c.more (q := (15, "MissingUse", "scope")) (List.mem_of_getElem? (i := 13) rfl)).2.1, E13⟩
    e14 := ⟨(He.glo_ok X G (c.d.fact 32 (f := .glo "StillUsed") rfl)), (one_of c.more (q := (16, "StillUsed", "scope")) (List.mem_of_getElem? (i := 14) rfl)).1, (one_of c.more (q := (16, "StillUsed", "scope")) (List.mem_of_getElem? (i := 14) rfl)).2.1, E14⟩
    e15 := ⟨(He.glo_ok X G (c.d.fact 33 (f := .glo "NotEmpty") rfl)), (one_of c.more (q := (17, "NotEmpty", "scope")) (List.mem_of_getElem? (i := 15) rfl)).1, (one_of c.more (q := (17, "NotEmpty", "scope")) (List.mem_of_getElem? (i := 15) rfl)).2.1, E15⟩
    e16 := ⟨(He.glo_ok X G (c.d.fact 34 (f := .glo "NothingToUndo") rfl)), (one_of c.more (q := (18, "NothingToUndo", "count")) (List.mem_of_getElem? (i := 16) rfl)).1, (one_of c.more (q := (18, "NothingToUndo", "count")) (List.mem_of_getElem? (i := 16) rfl)).2.1, E16⟩
    e17 := ⟨(He.glo_ok X G (c.d.fact 35 (f := .glo "BadText") rfl)), (one_of c.more (q := (19, "BadText", "line")) (List.mem_of_getElem? (i := 17) rfl)).1, (one_of c.more (q := (19, "BadText", "line")) (List.mem_of_getElem? (i := 17) rfl)).2.1, E17⟩
    e18 := ⟨(He.glo_ok X G (c.d.fact 36 (f := .glo "BadLine") rfl)), (one_of c.more (q := (20, "BadLine", "line")) (List.mem_of_getElem? (i := 18) rfl)).1, (one_of c.more (q := (20, "BadLine", "line")) (List.mem_of_getElem? (i := 18) rfl)).2.1, E18⟩ }
  have e := hfa.symm.trans (He.glo_ok X G (c.d.fact 7 (f := .glo "law") rfl))
  cases e
  have b := FunD.bindsA (ps := ["_law_script"]) F6 fun _ _ _ _ _ _ us hl => match us, hl with | [_], _ => rfl
  exact ⟨fd6, fun s v => b s [v] rfl, fun base _ _ => ok_law F6 F0 F1 F2 F3 F4 F5 T
    (He.glo_ok X G (c.d.fact 1 (f := .glo "_law_hand") rfl)) (He.glo_ok X G (c.d.fact 2 (f := .glo "_law_take") rfl)) (He.glo_ok X G (c.d.fact 3 (f := .glo "_law_pick") rfl)) (He.glo_ok X G (c.d.fact 4 (f := .glo "_law_kinds") rfl)) (He.glo_ok X G (c.d.fact 5 (f := .glo "_law_made") rfl)) (He.glo_ok X G (c.d.fact 6 (f := .glo "_law_fields") rfl)) (He.free_ok X G (c.d.fact 17 (f := .free "repr") rfl)) c.sys (allE_of c.more) (He.glo_ok X G (c.d.fact 0 (f := .glo "RenameError") rfl))
    (He.free_ok X G (c.d.fact 10 (f := .free "len") rfl)) (He.free_ok X G (c.d.fact 8 (f := .free "abs") rfl)) (He.free_ok X G (c.d.fact 9 (f := .free "int") rfl)) (He.free_ok X G (c.d.fact 11 (f := .free "range") rfl)) (He.free_ok X G (c.d.fact 12 (f := .free "max") rfl)) (He.free_ok X G (c.d.fact 13 (f := .free "min") rfl)) (He.free_ok X G (c.d.fact 14 (f := .free "isinstance") rfl)) (He.free_ok X G (c.d.fact 15 (f := .free "enumerate") rfl)) (He.free_ok X G (c.d.fact 16 (f := .free "ValueError") rfl)) (errI_of c.more)⟩
end K71
open PySem PySem.W PySem.Calls PyProof.Rows
set_option maxRecDepth 100000 in
set_option maxHeartbeats 8000000 in
theorem PySem.Challenge.cw_renamesteps_k71_errors_and_their_values_holds : PySem.Challenge.rw_renamesteps_k71_errors_and_their_values.Holds := by
  w_on; o_law
  refine HandSHeadRun.head_any (r := OpenLaw.row PySem.Challenge.rw_renamesteps_k71_errors_and_their_values) (q := view (OpenLaw.row PySem.Challenge.rw_renamesteps_k71_errors_and_their_values).prog [28]) (H := K71.hk) (ob := K71.ob) (M := 8000) (loose := K71.loose)
    (d := HandSHeadRun.topDef (OpenLaw.row PySem.Challenge.rw_renamesteps_k71_errors_and_their_values).prog 28) (kwd := []) K71.ob_eq
    (by kernel_rfl) (fun s => by kernel_rfl) K71.run (by kernel_rfl) (by kernel_rfl) (by kernel_rfl) (by rfl) (by first | assumption | decide +kernel) (by decide +kernel) ⟨rfl, rfl, rfl, rfl, rfl, by decide +kernel⟩ ?hw ?hc
  case hw => w_witness2
  case hc =>
    refine L2.walkG (l := PySem.Challenge.rw_renamesteps_k71_errors_and_their_values) (n := 63) (k := 5) (x := "_law_script") (CX := L2.CX0) rfl (by decide) (by kernel_rfl) ⟨rfl, by decide, by decide⟩ ?F (fun _ _ _ _ z => z)
    intro w mg fa h Y G hmg0
    obtain ⟨K, KX, c⟩ := Y
    have hmg : mg ("law" : PySem.Str) = some (.ref fa) := by
      have e : (HandSHeadRun.topDef (OpenLaw.row PySem.Challenge.rw_renamesteps_k71_errors_and_their_values).prog 28).name = ("law" : PySem.Str) := by kernel_rfl
      rw [← e]
      exact hmg0
    obtain ⟨fd, hb, hF⟩ := K71.facts (P := (PySem.Challenge.rw_renamesteps_k71_errors_and_their_values).prog) (w := w) KX G hmg c
    exact ⟨K, fd, K71.spLaw K, KX, hb, fun H a ns hl hS => ⟨a, ns, rfl, hS, fun _ => rfl⟩, hF⟩

import PyProof.Rows.All
import Wide.All
import OpenK.AllK
import Wide.FinOn
import HandS.ForMost
import HandS.Defaults
import HandS.HeadEnd
import HandS.HeadHook4
import PyProof.ReprRoads
import PyProof.CallFns
import HandS.HeadHook2
import HandS.Head2
import PyProof.ListRange
import PyProof.TupleOfSeq
import HandS.Sort
import KE.KStateDown
import HandS.More
import HandS.WordsExc
import HandS.Head0
import HandS.Head1
import HandS.Wide
import HandS.IsInst
import KE.GoesMore
import HandS.Zip
import HandS.SetKeys
import HandS.ListItems
import PyProof.DictUpdate
import HandS.TupAny
import HandS.TupMul
import HandS.StrMore
import HandS.Text
import HandS.Strs
import PyProof.StrOps2
import PyProof.Rows.IntBool
import PyProof.Rows.EqBoolInt
import PyProof.CallStr
import PyProof.NeKinds
import PyProof.StrLawsRepr
import PyProof.Rows.StrFit
import HandS.Walk
import HandS.WordsDict
import PyProof.Rows.StrCut
import HandS.SetFor
import HandS.TupLe
import PySem.Challenge.RW_renamesteps_k01_programs_of_any_value
set_option Elab.async false
set_option linter.all false
set_option maxRecDepth 100000
set_option maxHeartbeats 4000000
/-! defs that may ask for repr: the promise holds where no repr is under way -/
namespace L2
open PySem PySem.Spec PyProof.Rows
structure FnG (P : Program) (w : World) (K : PySem.W.Frag) (mg : Str → Option Value) (base : Heap) (CX : CXT) (k : Nat) (f : Addr)
    (fd : FuncData) (ps : List Str) (sp : Sp) : Prop where
  len : ∀ vs H Q E, sp vs H Q E → vs.length = ps.length
  run : ∀ (A : Around) (outer : List Env) (s : Shared) (H : Hp) (args : Args) (us : List Value) (vs : List V) (Q : VK) (E : XK),
    Room k A → A.guards = some [] → Env0 P w K mg base A outer s H → BindsTo s fd args (ps.zip us) → Vals vs us → sp vs H Q E →
      codeAny (model P w) A (.call (.ref f) args) (CR CX outer P w H s Q E) s
theorem FnOk.g {P : Program} {w : World} {K : PySem.W.Frag} {mg : Str → Option Value} {base : Heap} {CX : CXT} {k : Nat} {f : Addr}
    {fd : FuncData} {ps : List Str} {sp : Sp} (F : FnOk P w K mg base CX k f fd ps sp) : FnG P w K mg base CX k f fd ps sp :=
  ⟨F.len, fun A outer s H args us vs Q E hr _ => F.run A outer s H args us vs Q E hr⟩
theorem FnG.mono {P : Program} {w : World} {K : PySem.W.Frag} {mg : Str → Option Value} {base : Heap} {CX : CXT} {j k : Nat} {f : Addr}
    {fd : FuncData} {ps : List Str} {sp : Sp} (F : FnG P w K mg base CX j f fd ps sp) (h : j ≤ k) : FnG P w K mg base CX k f fd ps sp :=
  ⟨F.len, fun A outer s H args us vs Q E hr => F.run A outer s H args us vs Q E (hr.mono h)⟩
/-- a def by its body -/
theorem FunD.okG {P : Program} {w : World} {K : PySem.W.Frag} {mg : Str → Option Value} {base : Heap} {x qual : Str} {params : Arguments}
    {body : List Stmt} {scope : Scope} {dvs : List V} {kws : List (Str × V)} {f : Addr} {fd : FuncData} {CX : CXT} {N ps : List Str} {k : Nat} {sp : Sp}
    (F : FunD K x qual params body scope dvs kws f fd) (S : FnScope N ps scope) (len : ∀ vs H Q E, sp vs H Q E → vs.length = ps.length)
    (hbody : ∀ (cdv : Value) (A : Around) (outer : List Env) (s : Shared) (H : Hp) (vs : List V) (Q : VK) (E : XK),
      Room k (A.deeper (envOfC qual scope s.heap.objs.size f cdv)) → A.guards = some [] → sp vs H Q E →
        ∃ t, PSs (cxOf CX P w K mg base N qual scope f cdv A outer s H E) body t ∧ t { nx := fun _ H' => Q .non H', rt := Q } (start N vs) H) :
    FnG P w K mg base CX (k + 1) f fd ps sp := by
  obtain ⟨oc, od, dV, kV, doc, pm, an, cdv, ct, osl, rfl, lk, hcd, _, _⟩ := F.ex
  refine ⟨len, fun A outer s H args us vs Q E hr hgd e0 hb r hsp => ?_⟩
  have old := fun (b : Addr) (o : Obj) (e : base.get? b = some o) => (e0.bs b o e).1
  have KX : K.In s.heap := e0.mod.kin.keeps old
  have lim : s.heap.NoLimit := e0.mod.nolimit.keeps old
  refine codeAny_call_function hr.depth (KX _ _ lk) rfl S.co S.gen rfl (PySem.W.codeRec_of KX hcd) (hb _ _ _ _ ?_)
  refine wpAny_newFunctionEnv_cells S.kind (fun y hy => ?_) fun env he s1 x => ?_
  · obtain ⟨n, v⟩ := y
    exact (S.par n (List.of_mem_zip hy).1).imp (fun q => q) fun q => ⟨q, PySem.W.cellsFrom_some _ _ _ (.inl q)⟩
  subst he
  refine ⟨lim.keeps x.toInCall.keep, codeAny_func ?_⟩
  obtain ⟨t, ht, hq⟩ := hbody cdv A outer s H vs Q E (hr.deeper _) hgd hsp
  have I := inv_start (CX := CX) (E := E) S hr.hd e0 (len _ _ _ _ hsp) r x
  refine wpAny_mono (ht.run [] s1 (start N vs) H _ I hq) (fun fl s' hs => ?_) fun e s' hs => hs
  cases fl with
  | ret u =>
    obtain ⟨v, σ', H', J, rv, q⟩ := hs
    exact ⟨v, H', J.os, J.bare, J.base, J.hok, rv, q⟩
  | next =>
    obtain ⟨σ', H', J, q⟩ := hs
    exact ⟨.non, H', J.os, J.bare, J.base, J.hok, rfl, q⟩
  | brk => exact False.elim hs.choose_spec.choose_spec.2
  | cont => exact False.elim hs.choose_spec.choose_spec.2
section
variable {X : Cx} {CX : CXT} {k : Nat} {f : Addr} {fd : FuncData} {ps : List Str} {sp : Sp} {E : XK} {x : Str} {p pos : Pos} {e : Expr} {es : List Expr} {t : TA}
/-- f(e, ..) -/
theorem pe_callG (F : FnG X.prog X.w X.K X.mg X.base CX k f fd ps sp) (hr : Room k X.A) (hgd : X.A.guards = some []) (hg : Gl X x) (hm : X.mg x = some (.ref f))
    (hk : PySem.W.keepIn X.K (.ref f) = true) (hb : Binds X.K fd ps []) (hx : Passes CX X E) (ha : PA X (e :: es) t)
    (hdb : (x == ("__debug__" : Str)) = false := by decide) (he : starEach (e :: es) X.env = (false, eval e X.env) :: starEach es X.env := by rfl)
    (hpl : (backTo pos (starEach es X.env)).any (·.1) = false := by rfl) :
    PE X (.Call (.Name x p) (e :: es) [] pos) (tCall sp [] E t) := by
  refine ⟨fun pins s σ H Q I h => ?_⟩
  refine wpAny_Call_Name_kw (ld_glob I hg hm ?_ hdb)
  refine PySem.W.callWith_K (h₀ := X.base) I.ok.mod.kin hk
    (thn (ha.run pos pins s σ H _ I h) fun us s1 ⟨vs, H1, I1, r, q⟩ => ⟨I1.kIn, ?_⟩) he hpl
  have q : sp (vs ++ []) H1 Q E := q
  rw [List.append_nil] at q
  have hl : us.length = ps.length := by
    rw [← Vals.length r]
    exact F.len _ _ _ _ q
  have b := hb s1 us I1.kIn (by rw [List.append_nil]; exact hl)
  rw [List.append_nil] at b
  show wpAny _ _ (call (.ref f) us) _ _ _
  refine wpAny_call (codeAny_mono (F.run X.A X.stack s1 H1 ⟨us, []⟩ us vs Q E hr hgd I1.env0 b r q) fun r s' hq => ?_)
  cases r with
  | error er => exact hx pins σ H1 s1 er s' I1 hq
  | ok fl =>
    cases fl with
    | ret u => exact I1.after hq
    | next => exact False.elim hq
    | brk => exact False.elim hq
    | cont => exact False.elim hq
end
/-- the law's own call -/
theorem law_callG {P : Program} {w : World} {K : PySem.W.Frag} {mg mb : Str → Option Value} {CX : CXT} {k : Nat} {fa a : Addr} {fd : FuncData} {x : Str}
    {sp : Sp} {s₁ : Shared} {vs : List Value} {ns : List Int}
    (KX : K.In s₁.heap) (hns : s₁.heap.Ns mainGlobals mg) (hb : s₁.heap.Ns builtinsNs mb) (hbb : ∀ x : Str, x ≠ "__name__" → mb x = bootBuiltins x)
    (hlim : s₁.heap.NoLimit) (hg : s₁.gens = #[]) (ha : s₁.heap.get? a = some { cls := .type "list", data := .seq vs.toArray }) (hi : IntsAre vs ns)
    (hl : ns.length ≤ sizeLine) (hr : Room k callerA) (F : ∀ base : Heap, K.In base → base.Ns mainGlobals mg → FnG P w K mg base CX k fa fd [x] sp)
    (hbind : ∀ (s : Shared) (u : Value), BindsTo s fd ⟨[u], []⟩ [(x, u)])
    (hsp : ∀ H : Hp, SqL K H a (ns.map V.int) → sp [.ref a] H (fun v _ => v = .bl true) fun _ _ _ => False)
    (hCX : ∀ H e s', CX [] H s₁ (fun _ _ _ => False) e s' → False) :
    codeAny (model P w) callerA (.call (.ref fa) ⟨[.ref a], []⟩)
      (fun r s' => r = .ok (.ret (.bool true)) ∧ OldK s₁.heap s'.heap ∧ s'.os = s₁.os ∧ AllBare s'.gens) s₁ := by
  have rv := vals_ints hi
  have lenV := hi.length
  let ob : Obj := { cls := .type "list", data := .seq vs.toArray }
  have core : ∀ H : Hp, (∀ b, H b ≠ none → b = a ∧ H b = some (.frz ob (.lst (ns.map V.int)))) → SqL K H a (ns.map V.int) → HOk P w H s₁.heap → (H a ≠ none → K.lookup a = none) →
      codeAny (model P w) callerA (.call (.ref fa) ⟨[.ref a], []⟩)
        (fun r s' => r = .ok (.ret (.bool true)) ∧ OldK s₁.heap s'.heap ∧ s'.os = s₁.os ∧ AllBare s'.gens) s₁ := by
    intro H hA hS hok hK
    have off : ∀ {b : Addr} {o : Obj} {es : Array DictEntry} {ep : Nat}, s₁.heap.get? b = some o → o.data = .dict es ep → H b = none := by
      intro b o es ep e d
      cases q : H b with
      | none => rfl
      | some u =>
        obtain ⟨rfl, _⟩ := hA b (by rw [q]; simp)
        rw [ha] at e
        cases e
        have z : Data.seq vs.toArray _ = Data.dict es ep := d
        cases z
    have nsK : ∀ {b : Addr} {m : Str → Option Value}, s₁.heap.Ns b m → (hidT s₁.heap H).Ns b m :=
      fun {b m} ⟨o, es, ep, e, d, r⟩ => ⟨o, es, ep, hidT_get e (off e d), d, r⟩
    have hKb : K.In (hidT s₁.heap H) := fun b o e => hidT_get (KX b o e) (by
      cases q : H b with
      | none => rfl
      | some u =>
        obtain ⟨rfl, _⟩ := hA b (by rw [q]; simp)
        rw [hK (by rw [q]; simp)] at e
        cases e)
    have hM : Mod K mg (hidT s₁.heap H) := ⟨hKb, nsK hns, ⟨mb, nsK hb, hbb⟩, let ⟨mc, h1, h2⟩ := hlim; ⟨mc, nsK h1, h2⟩⟩
    have e0 : Env0 P w K mg (hidT s₁.heap H) callerA [] s₁ H :=
      ⟨rfl, hM, fun b o e => of_hidT e, Nat.le_of_eq (hidT_size _ _), trivial, fun b hb => absurd (show b ∈ ([] : List Addr) from hb) (by simp), hok, .of_eq hg⟩
    refine codeAny_mono ((F _ hKb (nsK hns)).run callerA [] s₁ H ⟨[.ref a], []⟩ [.ref a] [.ref a] _ _ hr rfl e0 (hbind s₁ (.ref a)) (.cons rfl .nil) (hsp H hS)) fun r s' h => ?_
    cases r with
    | error e => exact (hCX H e s' h).elim
    | ok fl =>
      cases fl with
      | next => exact False.elim h
      | brk => exact False.elim h
      | cont => exact False.elim h
      | ret u =>
        obtain ⟨v, H', os, bare, un, hok', r', q⟩ := h
        cases (show v = .bl true from q)
        cases (show u = Value.bool true from r')
        refine ⟨rfl, OldK.of_keep fun b o e => ?_, os, bare⟩
        cases q : H b with
        | none => exact un.keep b o e q (by intro z; exact absurd (show b ∈ ([] : List Addr) from z) (by simp)) (by simp)
        | some u =>
          obtain ⟨rfl, z⟩ := hA b (by rw [q]; simp)
          obtain ⟨e1, _⟩ := hok b _ z
          obtain ⟨e2, _⟩ := hok' b _ (un.frzs b ob _ z)
          rw [e] at e1
          cases e1
          exact e2
  cases hk : K.lookup a with
  | some o =>
    have e := KX a o hk
    rw [ha] at e
    cases e
    exact core (fun _ => none) (fun b z => absurd rfl z)
      (.inr ⟨_, vs.toArray, _, hk, rfl, rfl, rfl, by rw [List.size_toArray, lenV]; exact hl, by simpa using rv⟩)
      (fun b u z => nomatch (show (none : Option HO) = some u from z)) fun z => absurd rfl z
  | none =>
    refine core (fun b => if b = a then some (.frz ob (.lst (ns.map V.int))) else none) (fun b z => ?_) (.inl (.inr ⟨ob, if_pos rfl⟩)) (fun b u z => ?_) fun _ => hk
    · by_cases c : b = a
      · exact ⟨c, if_pos c⟩
      · exact absurd (if_neg c) z
    · by_cases c : b = a
      · cases (if_pos c).symm.trans z
        subst c
        exact ⟨ha, by rw [List.length_map]; exact hl, vs, _, rv, ha⟩
      · cases (if_neg c).symm.trans z
theorem walkG {l : PySem.W.OpenLaw} {n k : Nat} {q : Program} {loose : List Str} {XP : (Str → Option Value) → Heap → Prop} {YP : World → Heap → Prop} {d : DefRec} {CX : CXT} {x : Str}
    (hn : l.most = some n) (hn2 : n ≤ sizeLine) (hdf : d.params.defaults = []) (hr : Room k callerA)
    (F : ∀ (w : World) (mg : Str → Option Value) (fa : Addr) (h : Heap), YP w h → h.Ns mainGlobals mg → mg d.name = some (.ref fa) →
      ∃ (K : PySem.W.Frag) (fd : FuncData) (sp : Sp), K.In h ∧ (∀ (s : Shared) (u : Value), BindsTo s fd ⟨[u], []⟩ [(x, u)]) ∧
        (∀ (H : Hp) (a : Addr) (ns : List Int), ns.length ≤ n → SqL K H a (ns.map V.int) → sp [.ref a] H (fun v _ => v = .bl true) fun _ _ _ => False) ∧
        ∀ base : Heap, K.In base → base.Ns mainGlobals mg → FnG l.prog w K mg base CX k fa fd [x] sp)
    (hCX : ∀ (H : Hp) (s : Shared) (e : Value) (s' : Shared), CX [] H s (fun _ _ _ => False) e s' → False) :
    PySem.W.WalkO q loose XP YP l.row.toRowW d [] (fun f vs => PySem.call f vs) := by
  refine Att.attach_call hn hdf fun w s₀ s₁ mg mb fa o pm cd doc a vs ns G Y ho hd hcd hmg hobj hints hlen hg => ?_
  obtain ⟨K, fd, sp, KX, hb, hsp, hF⟩ := F w mg fa _ Y G.T.g hmg
  exact law_callG KX G.T.g G.T.b G.T.builtins G.T.nolimit hg hobj hints (Nat.le_trans hlen hn2) hr hF hb
    (fun H hS => hsp H a ns hlen hS) fun H e s' => hCX H s₁ e s'
end L2
set_option Elab.async false
set_option linter.all false
set_option maxRecDepth 100000
set_option maxHeartbeats 4000000
/-! data in the abstract heap, and its repr -/
namespace L2
open PySem PySem.Spec PyProof.Rows
def keyD : Key → PyData
  | .inl i => .int i
  | .inr x => .str x
mutual
/-- v stands for the data d -/
def Dt (K : PySem.W.Frag) (H : Hp) : PyData → V → Prop
  | .none, v => v = .non
  | .bool b, v => v = .bl b
  | .int i, v => v = .int i
  | .str x, v => v = .str x
  | .list ds, v => ∃ (a : Addr) (xs : List V), v = .ref a ∧ SqL K H a xs ∧ Dts K H ds xs
  | .tuple ds, v => ∃ (a : Addr) (xs : List V), v = .ref a ∧ SqT K H a xs ∧ Dts K H ds xs
  | .dict kvs, v => ∃ (a : Addr) (kws : List (Key × V)), v = .ref a ∧ H a = some (.dK kws) ∧ Dtk K H kvs kws
def Dts (K : PySem.W.Frag) (H : Hp) : List PyData → List V → Prop
  | [], xs => xs = []
  | d :: ds, xs => ∃ x r, xs = x :: r ∧ Dt K H d x ∧ Dts K H ds r
def Dtk (K : PySem.W.Frag) (H : Hp) : List (PyData × PyData) → List (Key × V) → Prop
  | [], xs => xs = []
  | (k, d) :: ds, xs => ∃ q x r, xs = (q, x) :: r ∧ k = keyD q ∧ Dt K H d x ∧ Dtk K H ds r
end
theorem Same.sqT {K : PySem.W.Frag} {H H' : Hp} {a : Addr} {xs : List V} (s : Same H H') (h : SqT K H a xs) : SqT K H' a xs := by
  rcases h with h | h
  · refine .inl ?_
    rcases h with h | ⟨o, h⟩
    · exact .inl (s _ _ h)
    · exact .inr ⟨o, s _ _ h⟩
  · exact .inr h
mutual
theorem Dt.same {K : PySem.W.Frag} {H H' : Hp} (s : Same H H') : ∀ (d : PyData) (v : V), Dt K H d v → Dt K H' d v
  | .none, _, h => h
  | .bool _, _, h => h
  | .int _, _, h => h
  | .str _, _, h => h
  | .list ds, _, ⟨a, xs, e, q, r⟩ => ⟨a, xs, e, s.seq q, Dts.same s ds xs r⟩
  | .tuple ds, _, ⟨a, xs, e, q, r⟩ => ⟨a, xs, e, s.sqT q, Dts.same s ds xs r⟩
  | .dict ds, _, ⟨a, xs, e, q, r⟩ => ⟨a, xs, e, s _ _ q, Dtk.same s ds xs r⟩
theorem Dts.same {K : PySem.W.Frag} {H H' : Hp} (s : Same H H') : ∀ (ds : List PyData) (xs : List V), Dts K H ds xs → Dts K H' ds xs
  | [], _, h => h
  | d :: ds, _, ⟨x, r, e, h1, h2⟩ => ⟨x, r, e, Dt.same s d x h1, Dts.same s ds r h2⟩
theorem Dtk.same {K : PySem.W.Frag} {H H' : Hp} (s : Same H H') : ∀ (ds : List (PyData × PyData)) (xs : List (Key × V)), Dtk K H ds xs → Dtk K H' ds xs
  | [], _, h => h
  | (k, d) :: ds, _, ⟨q, x, r, e, ek, h1, h2⟩ => ⟨q, x, r, e, ek, Dt.same s d x h1, Dtk.same s ds r h2⟩
end
/-- the table of modules is a dict of the written part -/
def SysK (K : PySem.W.Frag) : Prop := ∃ o, K.lookup sysModules = some o ∧ o.cls = .type "dict"
section
variable {X : Cx} {pins : List (Addr × Obj)} {σ : L2.St} {H : Hp} {s : Shared}
theorem sys_ne (I : Inv X pins σ H s) (hs : SysK X.K) {a : Addr} {o : Obj} {T : String} (h : s.heap.get? a = some o) (c : o.cls = .type T) (n : T ≠ "dict") : sysModules ≠ a := fun e => by
  obtain ⟨u, hu, cu⟩ := hs
  have z := I.kIn _ _ hu
  rw [e, h] at z
  cases z
  rw [c] at cu
  cases cu
  exact n rfl
theorem keys_read {P : Program} {w : World} {h : Heap} : ∀ {es : List DictEntry} {vs : List (Key × Value)} {kws : List (Key × V)} {kvs : List (PyData × PyData)}, Pairs (mixKind P w) es vs → KV kws vs → (kvs.map (·.1) = kws.map fun q => keyD q.1) →
    ReadsAll h (es.map (·.key)) (kvs.map (·.1)) []
  | _, _, _, kvs, .nil, .nil, e => by
    rw [e]
    exact .nil
  | _, _, _, kvs, .cons (e := en) (kv := kv) hk hv ps, .cons r rs, e => by
    cases kvs with
    | nil => cases e
    | cons p ps' =>
      injection e with e1 e2
      have ih := keys_read (h := h) ps rs e2
      have e3 : p.1 = keyD kv.1 := Eq.trans e1 (congrArg keyD r.1)
      have hk : keyIs kv.1 en.key = true := hk
      have rd : Reads h en.key p.1 [] := by
        rw [e3]
        rcases keyIs_shape hk with ⟨i, t, q1, q2⟩ | ⟨x, t, q1, q2⟩
        · rw [q1, q2]
          exact .int i t
        · rw [q1, q2]
          exact .str x t
      exact ReadsAll.cons (as := []) (bs := []) rd ih
mutual
theorem Dt.reads (I : Inv X pins σ H s) (hs : SysK X.K) : ∀ (d : PyData) (v : V) (u : Value), Dt X.K H d v → RelV v u → ∃ as, Reads s.heap u d as ∧ sysModules ∉ as
  | .none, v, u, h, r => by
    cases (show v = .non from h)
    cases r
    exact ⟨[], .none, by simp⟩
  | .bool b, v, u, h, r => by
    cases (show v = .bl b from h)
    cases r
    exact ⟨[], .bool b, by simp⟩
  | .int i, v, u, h, r => by
    cases (show v = .int i from h)
    obtain ⟨t, rfl⟩ := r
    exact ⟨[], .int i t, by simp⟩
  | .str x, v, u, h, r => by
    cases (show v = .str x from h)
    obtain ⟨t, rfl⟩ := r
    exact ⟨[], .str x t, by simp⟩
  | .list ds, v, u, h, r => by
    obtain ⟨a, xs, e, q, hd⟩ := h
    subst e
    cases r
    obtain ⟨its, rv, ⟨o, n, ho, hc, _, hdt⟩, _⟩ := I.list q
    obtain ⟨as, hr, hn⟩ := Dts.reads I hs ds xs its hd rv
    refine ⟨a :: as, .list ho hc hdt hr, fun z => ?_⟩
    rcases List.mem_cons.mp z with z | z
    · exact sys_ne I hs ho hc (by decide) z
    · exact hn z
  | .tuple ds, v, u, h, r => by
    obtain ⟨a, xs, e, q, hd⟩ := h
    subst e
    cases r
    obtain ⟨its, rv, ⟨o, ho, hc, n, hdt⟩, _⟩ := I.tuple q
    obtain ⟨as, hr, hn⟩ := Dts.reads I hs ds xs its hd rv
    exact ⟨as, .tuple ho hc hdt hr, hn⟩
  | .dict kvs, v, u, h, r => by
    obtain ⟨a, kws, e, q, hd⟩ := h
    subst e
    cases r
    obtain ⟨_, hsy, vs, kv, o, es, ep, ho, ⟨hc, _, _⟩, hdt, _, hp, _⟩ := (show ObjOk X.prog X.w H s.heap a (.dK kws) from I.hok a _ q)
    obtain ⟨ek, bs, hb, hn⟩ := Dtk.reads I hs kvs kws vs es.toList hd kv hp
    have ha : a ≠ sysModules := fun z => by
      rw [z] at hsy
      cases hsy.symm.trans (beq_self_eq_true sysModules)
    refine ⟨a :: [] ++ bs, .dict ho hc hdt (keys_read hp kv ek) hb, fun z => ?_⟩
    rcases List.mem_cons.mp z with z | z
    · exact ha z.symm
    · exact hn z
theorem Dts.reads (I : Inv X pins σ H s) (hs : SysK X.K) : ∀ (ds : List PyData) (vs : List V) (us : List Value), Dts X.K H ds vs → Vals vs us → ∃ as, ReadsAll s.heap us ds as ∧ sysModules ∉ as
  | [], vs, us, h, r => by
    cases (show vs = [] from h)
    cases r
    exact ⟨[], .nil, by simp⟩
  | d :: ds, vs, us, h, r => by
    obtain ⟨x, rr, e, h1, h2⟩ := h
    subst e
    cases r with
    | cons r1 r2 =>
      obtain ⟨as, q1, n1⟩ := Dt.reads I hs d _ _ h1 r1
      obtain ⟨bs, q2, n2⟩ := Dts.reads I hs ds _ _ h2 r2
      refine ⟨as ++ bs, .cons q1 q2, fun z => ?_⟩
      rcases List.mem_append.mp z with z | z
      · exact n1 z
      · exact n2 z
theorem Dtk.reads (I : Inv X pins σ H s) (hs : SysK X.K) : ∀ (kvs : List (PyData × PyData)) (kws : List (Key × V)) (vs : List (Key × Value)) (es : List DictEntry), Dtk X.K H kvs kws → KV kws vs → Pairs (mixKind X.prog X.w) es vs →
    (kvs.map (·.1) = kws.map fun q => keyD q.1) ∧ ∃ as, ReadsAll s.heap (es.map (·.val)) (kvs.map (·.2)) as ∧ sysModules ∉ as
  | [], kws, vs, es, h, r, p => by
    cases (show kws = [] from h)
    cases r
    cases p
    exact ⟨rfl, [], .nil, by simp⟩
  | (k, d) :: ds, kws, vs, es, h, r, p => by
    obtain ⟨q, x, rr, e, ek, h1, h2⟩ := h
    subst e
    cases r with
    | cons r1 r2 =>
      cases p with
      | cons p1 p2 p3 =>
        obtain ⟨e1, e2⟩ := r1
        obtain ⟨as, q1, n1⟩ := Dt.reads I hs d _ _ h1 e2
        obtain ⟨ee, bs, q2, n2⟩ := Dtk.reads I hs ds _ _ _ h2 r2 p3
        refine ⟨by rw [List.map_cons, List.map_cons, ee, ek], as ++ bs, ?_, fun z => ?_⟩
        · refine ReadsAll.cons ?_ q2
          dsimp only
          rw [p2]
          exact q1
        · rcases List.mem_append.mp z with z | z
          · exact n1 z
          · exact n2 z
end
/-- repr(e) of data -/
def rRepr (K : PySem.W.Frag) : List V → Hp → VK → Prop := fun xs H Q => ∃ (v : V) (d : PyData), xs = [v] ∧ Dt K H d v ∧ d.showable = true ∧ d.depth ≤ 60 ∧ d.shown.length ≤ sizeLine ∧ Q (.str d.shown) H
theorem call_reprD (hs : SysK X.K) (hg : X.A.guards = some []) (hu : X.A.units + 64 < cLine) : CallR X (.builtin "repr") (rRepr X.K) := by
  intro pins s σ H xs us Q I r h
  obtain ⟨v, d, rfl, hd, sh, dp, sz, q⟩ := h
  obtain ⟨u, rfl, rv⟩ := vals1 r
  obtain ⟨as, rd, hn⟩ := Dt.reads I hs d v u hd rv
  have fin : ∀ h' tk t, (∀ b o, s.heap.get? b = some o → h'.get? b = some o) → EP X pins σ Q (.str d.shown t) { s with heap := h', toks := tk } :=
    fun h' tk t k => ⟨.str d.shown, H, I.kept k, ⟨t, rfl⟩, q⟩
  cases rd with
  | none => exact PySem.P.repr_of_none (fin s.heap _ _ fun _ _ e => e)
  | bool b => exact PySem.P.repr_of_bool (fin s.heap _ _ fun _ _ e => e)
  | int i t => exact PySem.P.repr_of_int (of_decide_eq_true sh) (fin s.heap _ _ fun _ _ e => e)
  | str x t => exact PySem.P.repr_of_str (fin s.heap _ _ fun _ _ e => e) sz
  | list h1 h2 h3 h4 => exact repr_of_reads' (.list h1 h2 h3 h4) sh (fun _ => hn) hg (by omega) (fun _ _ e => e) (fun h' u tk k => fin h' tk u k) sz
  | tuple h1 h2 h3 h4 => exact repr_of_reads' (.tuple h1 h2 h3 h4) sh (fun _ => hn) hg (by omega) (fun _ _ e => e) (fun h' u tk k => fin h' tk u k) sz
  | dict h1 h2 h3 h4 h5 => exact repr_of_reads' (.dict h1 h2 h3 h4 h5) sh (fun _ => hn) hg (by omega) (fun _ _ e => e) (fun h' u tk k => fin h' tk u k) sz
end
end L2
set_option Elab.async false
set_option linter.all false
set_option maxRecDepth 100000
set_option maxHeartbeats 4000000
/-! the head's facts with one Bool of one's own, and the table of modules -/
namespace L2
open PySem PySem.Spec PyProof.Rows
def frY (g : Addr → Option Obj) (n : Nat) : PySem.W.Frag := He.frG g (sysModules :: He.asD g n)
def sysB (K : PySem.W.Frag) : Bool := match K.lookup sysModules with
  | some ⟨.type c, _, _, _⟩ => decide (c = "dict")
  | _ => false
theorem sysB_ok {K : PySem.W.Frag} (h : sysB K = true) : SysK K := by
  unfold sysB at h
  split at h
  · rename_i c d dt sl e
    exact ⟨_, e, congrArg Value.type (of_decide_eq_true h)⟩
  · cases h
structure SaysY (fa : List He.Fa) (fn : List He.DefD) (ex : PySem.W.Frag → Bool) (K : PySem.W.Frag) : Prop where
  d : He.SaysD fa fn K
  more : ex K = true
  sys : SysK K
abbrev AlY : Type := He.AlD × Bool
def obsY (n : Nat) (fa : List He.Fa) (fn : List He.DefD) (ex : PySem.W.Frag → Bool) (g : Addr → Option Obj) : AlY :=
  (He.obsD fa fn (frY g n), ex (frY g n) && sysB (frY g n))
def hookY (n : Nat) (fa : List He.Fa) (fn : List He.DefD) (ex : PySem.W.Frag → Bool) : PySem.W.Hook where
  α := AlY
  obs := fun s => obsY n fa fn ex s.heap.get?
  val := fun _ => (He.valD fn, true)
  says := fun _ h => ∃ K : PySem.W.Frag, K.In h ∧ SaysY fa fn ex K
  of := fun _ s e => ⟨frY s.heap.get? n, He.frG_in, congrArg (fun z : AlY => z.1) e,
    (He.ba (congrArg (fun z : AlY => z.2) e)).1, sysB_ok (He.ba (congrArg (fun z : AlY => z.2) e)).2⟩
  keeps := fun _ _ _ ⟨K, hK, c⟩ k => ⟨K, PySem.W.Frag.In.keeps hK k, c⟩
theorem obsY_eq {n : Nat} {fa : List He.Fa} {fn : List He.DefD} {ex : PySem.W.Frag → Bool} {g : Addr → Option Obj} {s : Shared}
    (h : ∀ a, g a = s.heap.get? a) : obsY n fa fn ex g = (hookY n fa fn ex).obs s := by
  rw [show g = s.heap.get? from funext h]
  rfl
end L2
set_option Elab.async false
set_option linter.all false
set_option maxRecDepth 100000
set_option maxHeartbeats 4000000
/-! tuple(range(a, b)) -/
namespace PySem
namespace TR
open AutoSeq1 (wpAny_loadPart')
section
variable {prog : Program} {w : World} {A : Around} {E : Value → Shared → Prop} {s : Shared}
variable {r : Addr} {a b c : Int} {t u v : Tok} {n : Nat}
theorem collect_rng {Q : List Value → Shared → Prop} (hh : A.handled = none) (hr : IsRange s.heap r a b c t u v)
    (hsmall : Builtin.Range.small a b c = true) (hn : Builtin.Range.rangeSize a b c = n) (hlen : n ≤ 2 ^ 24)
    (hQ : ∀ h' tk acc, (∀ b o, s.heap.get? b = some o → h'.get? b = some o) → ItemsOf (fun i v => ∃ t, v = .int (a + i * c) t) acc n →
      Q acc.toList { s with heap := h', toks := tk }) : wpAny (model prog w) A (collect (.ref r)) Q E s := by
  unfold collect
  refine wpAny_bind (wpAny_runValue (codeAny_builtin F.entry_proto_collect ?_))
  rw [Around.under_plainId F.plain_proto_collect _]
  show wpAny _ A.in1 (newList [] >>= fun l => again (.builtin "list.__iadd__" ⟨[l, .ref r], []⟩)) _ _ s
  refine wpAny_bind (wpAny_newObj_type ?_)
  refine wpAny_pure ⟨plainId_quiet F.plain_list_iadd _, codeAny_builtin F.entry_list_iadd ?_⟩
  rw [Around.under_plainId F.plain_list_iadd _]
  show wpAny _ A.in1 (Builtin.List.listExtendWith (.ref s.heap.objs.size) (.ref r) (.ref s.heap.objs.size)) _ _ _
  have hS : (s.heap.push { cls := .type "list", data := .seq ([] : List Value).toArray }).get? s.heap.objs.size = some { cls := .type "list", data := .seq #[] 0 } :=
    Heap.get?_push_size _ rfl
  have fin : ∀ s' : Shared, (∃ h' tk acc c', s' = { s with heap := h', toks := tk } ∧ (∀ b o, s.heap.get? b = some o → h'.get? b = some o) ∧
      h'.get? s.heap.objs.size = some { cls := .type "list", dict := none, data := .seq acc c', slots := #[] } ∧ ItemsOf (fun i v => ∃ t, v = .int (a + i * c) t) acc n) →
      wpAny (model prog w) A (match Value.ref s.heap.objs.size with
        | Value.ref a => do
          match (← load a).data with
            | Data.seq xs _ => pure xs.toList
            | _ => unsupported "internal:collect"
        | _ => unsupported "internal:collect") Q E s' := by
    rintro s' ⟨h', tk, acc, c', rfl, hk, hS', hi⟩
    show wpAny _ A (load s.heap.objs.size >>= _) _ _ _
    exact wpAny_bind (wpAny_load hS' (wpAny_pure (hQ h' tk acc hk hi)))
  refine wpAny_mono (wpAny_extend_range (A := A) (R := fun r s' => r = .ok (.ret (.ref s.heap.objs.size)) ∧ ∃ h' tk acc c', s' = { s with heap := h', toks := tk } ∧
      (∀ b o, s.heap.get? b = some o → h'.get? b = some o) ∧ h'.get? s.heap.objs.size = some { cls := .type "list", dict := none, data := .seq acc c', slots := #[] } ∧
      ItemsOf (fun i v => ∃ t, v = .int (a + i * c) t) acc n)
    (s := { s with heap := s.heap.push { cls := .type "list", data := .seq ([] : List Value).toArray } }) hh (Heap.get?_push_of_some _ hr) hsmall hn hlen _ _ 0 hS
    fun h' tk acc c' hk hS' hi => ⟨rfl, h', tk, acc, c', rfl, fun b o e => hk b o (Nat.ne_of_lt (Heap.lt_size e)) (Heap.get?_push_of_some _ e), hS', hi⟩) (fun f s' h => ?_) (fun e s' h => ?_)
  · cases f with
    | done f =>
      obtain ⟨e, h⟩ := h
      cases e
      exact fin s' h
    | again c' => exact ⟨h.1, codeAny_mono h.2 fun r s'' hr => by
        obtain ⟨rfl, h⟩ := hr
        exact fin s'' h⟩
  · exact absurd h.1 (by simp)
end
theorem meets_tup_rng (r : Addr) (a b c : Int) (t u v : Tok) (n : Nat) (hsmall : Builtin.Range.small a b c = true) (hn : Builtin.Range.rangeSize a b c = n) (hlen : n ≤ 2 ^ 24) :
    Meets (Builtin.«tuple.__new__» ⟨[.type "tuple", .ref r], []⟩)
      (fun A R s => A.handled = none ∧ IsRange s.heap r a b c t u v ∧ ∀ (h' : Heap) (tk : Nat) (acc : Array Value), (∀ b o, s.heap.get? b = some o → h'.get? b = some o) →
        ItemsOf (fun i v => ∃ t, v = .int (a + i * c) t) acc n → R (.ok (.ret (.ref h'.objs.size))) { s with heap := h'.push { cls := .type "tuple", data := .seq acc }, toks := tk }) :=
  .of_wp fun prog w A R s h => by
    obtain ⟨hp, g, d, tk, os⟩ := s
    obtain ⟨hh, hr, h⟩ := h
    have hsub := sub_tuple_self
    have hinit := init_tuple_lookup
    have hmh := madeHere_tuple
    have hT : Shared.TypeIs ⟨hp, g, d, tk, os⟩ (.ref r) "range" := ⟨_, hr, rfl⟩
    wp_walk using wpAny_loadPart' hr, wpAny_typeOf hT, collect_rng (A := A.in1) hh hr hsmall hn hlen
    intro h' tk' acc hk hi
    show wpAny _ _ (Builtin.Tuple.tupleExact acc.toList.toArray >>= fun v => ret v) _ _ _
    unfold Builtin.Tuple.tupleExact
    refine wpAny_bind (wpAny_newObj_type ?_ (by show acc.toList.toArray.size ≤ sizeLine; rw [sizeLine_eq]; simp only [Array.toArray_toList, hi.1]; omega))
    refine wpAny_pure ⟨_, rfl, ?_⟩
    rw [show acc.toList.toArray = acc by simp]
    exact h h' tk' acc hk hi
end TR
end PySem
namespace L2
open PySem PySem.Spec PyProof.Rows
def rangeL (lo hi : Int) : List Int := (List.range (hi - lo).toNat).map fun i : Nat => lo + i
theorem vals_rng {lo : Int} : ∀ {n : Nat} {acc : Array Value}, ItemsOf (fun i v => ∃ t, v = Value.int (lo + i * 1) t) acc n → Vals ((List.range n).map fun i : Nat => V.int (lo + i)) acc.toList := by
  intro n acc h
  have key : ∀ (l : List Value) (o : Nat), (∀ j v, l[j]? = some v → ∃ t, v = Value.int (lo + ((o + j : Nat) : Int) * 1) t) → Vals ((List.range' o l.length).map fun i : Nat => V.int (lo + i)) l := by
    intro l
    induction l with
    | nil => exact fun _ _ => .nil
    | cons x l ih =>
      intro o hx
      rw [List.length_cons, List.range'_succ, List.map_cons]
      refine .cons ?_ (ih (o + 1) fun j v e => ?_)
      · obtain ⟨t, e⟩ := hx 0 x rfl
        refine ⟨t, ?_⟩
        rw [e, Nat.add_zero, Int.mul_one]
      · obtain ⟨t, e⟩ := hx (j + 1) v e
        refine ⟨t, ?_⟩
        rw [e]
        congr 3
        omega
  have z := key acc.toList 0 fun j v e => by
    obtain ⟨t, e⟩ := h.2 j v (by rw [← Array.getElem?_toList]; exact e)
    exact ⟨t, by rw [e, Nat.zero_add]⟩
  rw [Array.length_toList, h.1, ← List.range_eq_range'] at z
  exact z
section
variable {X : Cx}
def rTupR : List V → Hp → VK → Prop := fun xs H Q => ∃ (a : Addr) (lo hi : Int), xs = [.ref a] ∧ H a = some (.rng lo hi) ∧ (-(2 ^ 40) ≤ lo ∧ lo < 2 ^ 40 ∧ -(2 ^ 40) ≤ hi ∧ hi < 2 ^ 40) ∧ (hi - lo).toNat ≤ 1000 ∧
  ∀ l, H l = none → Q (.ref l) (upd H l (.tup ((rangeL lo hi).map V.int)))
theorem call_tupR (hc : X.calm = true) : CallR X (.type "tuple") rTupR := by
  intro pins s σ H xs us Q I r h
  obtain ⟨a, lo, hi, rfl, ha, ⟨b1, b2, b3, b4⟩, bl, q⟩ := h
  obtain ⟨u, rfl, rx⟩ := vals1 r
  cases rx
  obtain ⟨t1, t2, t3, hr⟩ := (show ObjOk X.prog X.w H s.heap a (.rng lo hi) from I.hok a _ ha)
  have hz : (hi - lo).toNat ≤ sizeLine := Nat.le_of_lt (small1000 bl)
  have hsm : Builtin.Range.small lo hi 1 = true := small_one (by omega) (by omega) (by omega) (by omega)
  have hn : Builtin.Range.rangeSize lo hi 1 = (((hi - lo).toNat : Nat) : Int) := by
    rw [rangeSize_one]
    split <;> omega
  refine callType_new F.called_tuple (by decide) (F.typeCall_tuple_1 _) (F.newCall_tuple_1 _) (fun obj => F.args_object_init_2 obj _) F.entry_tuple_new
    (PySem.TR.meets_tup_rng a lo hi 1 t1 t2 t3 (hi - lo).toNat hsm hn (by omega)) ⟨I.ok.hd hc, hr, fun h' tk acc hk hi' => ⟨⟨_, Heap.get?_push_size _ rfl, rfl⟩, ?_⟩⟩
  have I1 : Inv X pins σ H { s with heap := h', toks := tk } := I.kept hk
  have rv := vals_rng hi'
  have rv2 : Vals ((rangeL lo hi).map V.int) acc.toList := by
    unfold rangeL
    rw [List.map_map]
    exact rv
  have I2 : Inv X pins σ (upd H h'.objs.size (.tup ((rangeL lo hi).map V.int))) { s with heap := h'.push { cls := .type "tuple", data := .seq acc }, toks := tk } :=
    I1.laid (t' := tk) (fun b o e => Heap.get?_push_of_some _ e) (Nat.le_refl _)
      (show ObjOk X.prog X.w _ _ _ (.tup ((rangeL lo hi).map V.int)) from ⟨by rw [Vals.length rv2, Array.length_toList, hi'.1]; exact hz, acc.toList, rv2, by simpa using IsTup.new h' acc⟩)
  exact ⟨.ref h'.objs.size, _, I2, rfl, q _ (I1.hok.fresh (Nat.le_refl _))⟩
end
end L2
set_option linter.all false
/-! chains of parents, in preorder: plain mathematics -/
namespace PM
def way (ps : List Int) : Nat → Int → List Int
  | 0, _ => []
  | k + 1, a => if a < 0 then [] else a :: way ps k (ps.getD a.toNat (-1))
def W (ps : List Int) (a : Int) : List Int := way ps (a.toNat + 1) a
def Low (ps : List Int) : Prop := ∀ (i : Nat) (p : Int), ps[i]? = some p → -1 ≤ p ∧ p < i
theorem way_neg (ps : List Int) {a : Int} (h : a < 0) : ∀ k, way ps k a = []
  | 0 => rfl
  | k + 1 => by unfold way; rw [if_pos h]
theorem W_neg (ps : List Int) {a : Int} (h : a < 0) : W ps a = [] := way_neg ps h _
theorem par_of {ps : List Int} {a : Int} (h0 : 0 ≤ a) (h1 : a < ps.length) : ps[a.toNat]? = some (ps.getD a.toNat (-1)) := by
  have : a.toNat < ps.length := by omega
  rw [List.getD_eq_getElem?_getD, List.getElem?_eq_getElem this]
  rfl
theorem low_par {ps : List Int} (h : Low ps) {a : Int} (h0 : 0 ≤ a) (h1 : a < ps.length) : -1 ≤ ps.getD a.toNat (-1) ∧ ps.getD a.toNat (-1) < a := by
  have z := h _ _ (par_of h0 h1)
  omega
theorem way_fuel {ps : List Int} (h : Low ps) : ∀ (n k m : Nat) (a : Int), a.toNat ≤ n → a < ps.length → a.toNat < k → a.toNat < m → way ps k a = way ps m a
  | n, 0, _, _, _, _, hk, _ => absurd hk (Nat.not_lt_zero _)
  | n, _, 0, _, _, _, _, hm => absurd hm (Nat.not_lt_zero _)
  | n, k + 1, m + 1, a, hn, hl, hk, hm => by
    by_cases c : a < 0
    · rw [way_neg ps c, way_neg ps c]
    · unfold way
      rw [if_neg c, if_neg c]
      have z := low_par h (Int.not_lt.mp c) hl
      by_cases d : ps.getD a.toNat (-1) < 0
      · rw [way_neg ps d, way_neg ps d]
      · cases n with
        | zero => omega
        | succ n => rw [way_fuel h n k m (ps.getD a.toNat (-1)) (by omega) (by omega) (by omega) (by omega)]
theorem W_step {ps : List Int} (h : Low ps) {a : Int} (h0 : 0 ≤ a) (h1 : a < ps.length) : W ps a = a :: W ps (ps.getD a.toNat (-1)) := by
  have z := low_par h h0 h1
  have e : W ps a = a :: way ps a.toNat (ps.getD a.toNat (-1)) := by
    show (if a < 0 then [] else a :: way ps a.toNat (ps.getD a.toNat (-1))) = _
    rw [if_neg (by omega)]
  rw [e]
  by_cases d : ps.getD a.toNat (-1) < 0
  · rw [way_neg ps d, W_neg ps d]
  · unfold W
    rw [way_fuel h (ps.getD a.toNat (-1)).toNat a.toNat _ _ (Nat.le_refl _) (by omega) (by omega) (Nat.lt_succ_self _)]
theorem W_ind {ps : List Int} (h : Low ps) (P : Int → Prop) (neg : ∀ a : Int, a < 0 → P a) (step : ∀ a : Int, 0 ≤ a → a < (ps.length : Int) → P (ps.getD a.toNat (-1)) → P a) :
    ∀ a : Int, a < ps.length → P a := by
  have k : ∀ (n : Nat) (a : Int), a.toNat ≤ n → a < ps.length → P a := by
    intro n
    induction n with
    | zero =>
      intro a hn hl
      by_cases c : a < 0
      · exact neg a c
      · have z := low_par h (Int.not_lt.mp c) hl
        exact step a (by omega) hl (neg _ (by omega))
    | succ n ih =>
      intro a hn hl
      by_cases c : a < 0
      · exact neg a c
      · have z := low_par h (Int.not_lt.mp c) hl
        exact step a (by omega) hl (ih _ (by omega) (by omega))
  exact fun a hl => k a.toNat a (Nat.le_refl _) hl
theorem W_bounds {ps : List Int} (h : Low ps) : ∀ a : Int, a < ps.length → ∀ x ∈ W ps a, 0 ≤ x ∧ x ≤ a :=
  W_ind h _ (fun a c x m => by rw [W_neg ps c] at m; cases m) fun a h0 h1 ih x m => by
    rw [W_step h h0 h1] at m
    have z := low_par h h0 h1
    rcases List.mem_cons.mp m with e | m
    · omega
    · have := ih x m
      omega
theorem W_self {ps : List Int} (h : Low ps) {a : Int} (h0 : 0 ≤ a) (h1 : a < ps.length) : a ∈ W ps a := by
  rw [W_step h h0 h1]
  exact List.mem_cons_self
theorem W_suffix {ps : List Int} (h : Low ps) : ∀ a : Int, a < ps.length → ∀ x ∈ W ps a, W ps x <:+ W ps a :=
  W_ind h _ (fun a c x m => by rw [W_neg ps c] at m; cases m) fun a h0 h1 ih x m => by
    rw [W_step h h0 h1] at m
    rcases List.mem_cons.mp m with e | m
    · rw [e]
      exact List.suffix_refl _
    · rw [W_step h h0 h1]
      exact (ih x m).trans (List.suffix_cons _ _)
theorem W_trans {ps : List Int} (h : Low ps) {a x y : Int} (h1 : a < ps.length) (hx : x ∈ W ps a) (hy : y ∈ W ps x) : y ∈ W ps a :=
  (W_suffix h a h1 x hx).subset hy
theorem W_order {ps : List Int} (h : Low ps) {a x y : Int} (h1 : a < ps.length) (hx : x ∈ W ps a) (hy : y ∈ W ps a) (l : (W ps y).length ≤ (W ps x).length) : y ∈ W ps x := by
  have by_ := W_bounds h a h1 y hy
  have s := List.suffix_of_suffix_length_le (W_suffix h a h1 y hy) (W_suffix h a h1 x hx) l
  exact s.subset (W_self h by_.1 (by omega))
theorem W_len_lt {ps : List Int} (h : Low ps) {a x : Int} (h1 : a < ps.length) (hx : x ∈ W ps a) (ne : x ≠ a) : (W ps x).length < (W ps a).length := by
  have b := W_bounds h a h1 x hx
  have h0 : 0 ≤ a := by omega
  rw [W_step h h0 h1] at hx ⊢
  rcases List.mem_cons.mp hx with e | m
  · exact absurd e ne
  · have z := low_par h h0 h1
    have s := (W_suffix h _ (by omega) x m).length_le
    rw [List.length_cons]
    omega
theorem W_pos {ps : List Int} (h : Low ps) {a : Int} (h0 : 0 ≤ a) (h1 : a < ps.length) : 0 < (W ps a).length := by
  rw [W_step h h0 h1]
  exact Nat.succ_pos _
theorem getD_append_lt {ps : List Int} {q : Int} {i : Nat} (h : i < ps.length) : (ps ++ [q]).getD i (-1) = ps.getD i (-1) := by
  rw [List.getD_eq_getElem?_getD, List.getD_eq_getElem?_getD, List.getElem?_append_left h]
theorem low_snoc {ps : List Int} (h : Low ps) {q : Int} (h0 : -1 ≤ q) (h1 : q < ps.length) : Low (ps ++ [q]) := by
  intro i p e
  by_cases c : i < ps.length
  · rw [List.getElem?_append_left c] at e
    exact h i p e
  · rw [List.getElem?_append_right (by omega)] at e
    have z : i - ps.length = 0 := by
      have := (List.getElem?_eq_some_iff.mp e).1
      simp at this
      omega
    rw [z] at e
    have e' : q = p := Option.some.inj e
    omega
theorem W_snoc {ps : List Int} (h : Low ps) {q : Int} (q0 : -1 ≤ q) (q1 : q < ps.length) : ∀ a : Int, a < ps.length → W (ps ++ [q]) a = W ps a :=
  W_ind h _ (fun a c => by rw [W_neg _ c, W_neg _ c]) fun a h0 h1 ih => by
    have hl : (a : Int) < (ps ++ [q]).length := by
      rw [List.length_append]
      omega
    rw [W_step (low_snoc h q0 q1) h0 hl, W_step h h0 h1, getD_append_lt (by omega), ih]
/-- parents in preorder -/
structure Pre (ps : List Int) : Prop where
  pos : 0 < ps.length
  zero : ps[0]? = some (-1)
  low : Low ps
  pre : ∀ (i : Nat) (p : Int), ps[i + 1]? = some p → p ∈ W ps i
theorem Pre.one : Pre [-1] := ⟨Nat.succ_pos _, rfl, fun i p e => by
    cases i with
    | zero =>
      have e' : (-1 : Int) = p := Option.some.inj e
      omega
    | succ i => simp at e, fun i p e => by simp at e⟩
theorem Pre.snoc {ps : List Int} (h : Pre ps) {q : Int} (m : q ∈ W ps ((ps.length : Int) - 1)) : Pre (ps ++ [q]) := by
  have hp := h.pos
  have b := W_bounds h.low _ (by omega) q m
  refine ⟨by rw [List.length_append]; omega, by rw [List.getElem?_append_left hp]; exact h.zero, low_snoc h.low (by omega) (by omega), fun i p e => ?_⟩
  by_cases c : i + 1 < ps.length
  · rw [List.getElem?_append_left c] at e
    rw [W_snoc h.low (by omega) (by omega) _ (by omega)]
    exact h.pre i p e
  · rw [List.getElem?_append_right (by omega)] at e
    have z : i + 1 - ps.length = 0 := by
      have := (List.getElem?_eq_some_iff.mp e).1
      simp at this
      omega
    rw [z] at e
    have e' : q = p := Option.some.inj e
    rw [← e', W_snoc h.low (by omega) (by omega) _ (by omega)]
    have : ((ps.length : Int) - 1) = (i : Int) := by omega
    rw [← this]
    exact m
theorem Pre.par {ps : List Int} (h : Pre ps) {a : Int} (h0 : 0 < a) (h1 : a < ps.length) : 0 ≤ ps.getD a.toNat (-1) ∧ ps.getD a.toNat (-1) < a ∧ ps.getD a.toNat (-1) ∈ W ps (a - 1) := by
  obtain ⟨i, hi⟩ : ∃ i : Nat, a = (i : Int) + 1 := ⟨(a - 1).toNat, by omega⟩
  have e : a.toNat = i + 1 := by omega
  have z := par_of (ps := ps) (a := a) (by omega) h1
  rw [e] at z ⊢
  have m := h.pre i _ z
  have b := W_bounds h.low _ (by omega) _ m
  refine ⟨b.1, by omega, ?_⟩
  rw [hi, Int.add_sub_cancel]
  exact m
theorem Pre.root {ps : List Int} (h : Pre ps) : ps.getD 0 (-1) = -1 := by
  rw [List.getD_eq_getElem?_getD, h.zero]
  rfl
/-- every chain ends in 0 -/
theorem Pre.zero_in {ps : List Int} (h : Pre ps) : ∀ a : Int, a < ps.length → 0 ≤ a → (0 : Int) ∈ W ps a :=
  W_ind h.low _ (fun a c z => absurd z (by omega)) fun a h0 h1 ih _ => by
    by_cases c : a = 0
    · rw [c]
      exact W_self h.low (by omega) (by have := h.pos; omega)
    · rw [W_step h.low h0 h1]
      exact List.mem_cons_of_mem _ (ih (h.par (by omega) h1).1)
/-- the scopes inside s are those up to the next one that lies no deeper -/
theorem Pre.inside {ps : List Int} (h : Pre ps) {s e : Nat} (se : s < e) (en : e ≤ ps.length) (hin : ∀ i : Nat, s < i → i < e → (W ps s).length < (W ps i).length)
    (hout : e < ps.length → (W ps e).length ≤ (W ps s).length) : ∀ i : Nat, s ≤ i → i < ps.length → ((s : Int) ∈ W ps i ↔ i < e) := by
  have up : ∀ k : Nat, s + k < e → (s : Int) ∈ W ps ((s + k : Nat) : Int) := by
    intro k
    induction k with
    | zero => exact fun _ => W_self h.low (by omega) (by omega)
    | succ k ih =>
      intro hk
      have ih := ih (by omega)
      have pr := h.par (a := ((s + (k + 1) : Nat) : Int)) (by omega) (by omega)
      have m : ps.getD ((s + (k + 1) : Nat) : Int).toNat (-1) ∈ W ps ((s + k : Nat) : Int) := by
        have e1 : (((s + (k + 1) : Nat) : Int) - 1) = ((s + k : Nat) : Int) := by omega
        rw [← e1]
        exact pr.2.2
      have st := W_step h.low (a := ((s + (k + 1) : Nat) : Int)) (by omega) (by omega)
      have ln := hin (s + (k + 1)) (by omega) hk
      rw [st, List.length_cons] at ln
      rw [st]
      exact List.mem_cons_of_mem _ (W_order h.low (by omega) m ih (by omega))
  have down : ∀ k : Nat, e + k < ps.length → ¬ (s : Int) ∈ W ps ((e + k : Nat) : Int) := by
    intro k
    induction k with
    | zero =>
      intro hk z
      have l := W_len_lt h.low (by omega) z (by omega)
      have := hout (by omega)
      simp only [Nat.add_zero] at l
      omega
    | succ k ih =>
      intro hk z
      have pr := h.par (a := ((e + (k + 1) : Nat) : Int)) (by omega) (by omega)
      rw [W_step h.low (by omega) (by omega)] at z
      rcases List.mem_cons.mp z with z | z
      · omega
      · have e1 : (((e + (k + 1) : Nat) : Int) - 1) = ((e + k : Nat) : Int) := by omega
        rw [e1] at pr
        exact ih (by omega) (W_trans h.low (by omega) pr.2.2 z)
  intro i si il
  constructor
  · intro z
    by_cases c : i < e
    · exact c
    · obtain ⟨k, rfl⟩ : ∃ k, i = e + k := ⟨i - e, by omega⟩
      exact absurd z (down k il)
  · intro c
    obtain ⟨k, rfl⟩ : ∃ k, i = s + k := ⟨i - s, by omega⟩
    exact up k c
/-! ### homes -/
def homeN : List Int → Int → Nat
  | [], _ => 0
  | c :: r, d => if d < c then 0 else homeN r (d - c) + 1
def homesFrom : Nat → List Int → List Int
  | _, [] => []
  | o, c :: r => List.replicate c.toNat (o : Int) ++ homesFrom (o + 1) r
theorem homes_at : ∀ (cs : List Int) (o i : Nat) (d c : Int), (∀ c ∈ cs, 0 ≤ c) → cs[i]? = some c → (cs.take i).sum ≤ d → d < (cs.take i).sum + c → (homesFrom o cs)[d.toNat]? = some ((o + i : Nat) : Int)
  | [], o, i, d, c, _, h, _, _ => by simp at h
  | b :: r, o, 0, d, c, nn, h, h0, h1 => by
    have e : b = c := Option.some.inj h
    subst e
    simp only [List.take_zero, List.sum_nil] at h0 h1
    unfold homesFrom
    rw [List.getElem?_append_left (by rw [List.length_replicate]; omega), List.getElem?_replicate, if_pos (by omega)]
    rfl
  | b :: r, o, i + 1, d, c, nn, h, h0, h1 => by
    have b0 := nn b List.mem_cons_self
    rw [List.take_succ_cons, List.sum_cons] at h0 h1
    have tn : 0 ≤ (r.take i).sum := by
      have k : ∀ l : List Int, (∀ x ∈ l, 0 ≤ x) → 0 ≤ l.sum := by
        intro l
        induction l with
        | nil => exact fun _ => Int.le_refl _
        | cons x l ih =>
          intro hx
          rw [List.sum_cons]
          have := hx x List.mem_cons_self
          have := ih fun y hy => hx y (List.mem_cons_of_mem _ hy)
          omega
      exact k _ fun x hx => nn x (List.mem_cons_of_mem _ (List.mem_of_mem_take hx))
    have ih := homes_at r (o + 1) i (d - b) c (fun x hx => nn x (List.mem_cons_of_mem _ hx)) h (by omega) (by omega)
    unfold homesFrom
    rw [List.getElem?_append_right (by rw [List.length_replicate]; omega), List.length_replicate]
    rw [show d.toNat - b.toNat = (d - b).toNat by omega, ih]
    congr 2
    omega
end PM
set_option linter.all false
/-! programs: parents of a prefix, stacks of open scopes, uses that are seen: plain mathematics -/
namespace PM
theorem way_take {ps : List Int} {n : Nat} (h : Low (ps.take n)) (hn : n ≤ ps.length) : ∀ (k : Nat) (a : Int), a < n → way ps k a = way (ps.take n) k a
  | 0, _, _ => rfl
  | k + 1, a, ha => by
    by_cases c : a < 0
    · rw [way_neg _ c, way_neg _ c]
    · unfold way
      rw [if_neg c, if_neg c]
      have e : ps.getD a.toNat (-1) = (ps.take n).getD a.toNat (-1) := by
        rw [List.getD_eq_getElem?_getD, List.getD_eq_getElem?_getD, List.getElem?_take, if_pos (by omega)]
      have z := low_par h (a := a) (by omega) (by rw [List.length_take]; omega)
      rw [e, way_take h hn k _ (by omega)]
theorem W_take {ps : List Int} {n : Nat} (h : Low (ps.take n)) (hn : n ≤ ps.length) {a : Int} (ha : a < n) : W ps a = W (ps.take n) a := way_take h hn _ a ha
theorem take_snoc {ps : List Int} {n : Nat} {p : Int} (h : ps[n]? = some p) : ps.take (n + 1) = ps.take n ++ [p] := by
  rw [List.take_add_one, h]
  rfl
theorem pre_one {ps : List Int} (h : ps[0]? = some (-1)) : Pre (ps.take 1) := by
  rw [take_snoc h]
  exact Pre.one
theorem take_len {ps : List Int} {n : Nat} (h : n ≤ ps.length) : (ps.take n).length = n := by
  rw [List.length_take]
  omega
theorem pre_next {ps : List Int} {n : Nat} {p : Int} (h : Pre (ps.take n)) (hp : ps[n]? = some p) (m : p ∈ W ps ((n : Int) - 1)) : Pre (ps.take (n + 1)) := by
  have hn := (List.getElem?_eq_some_iff.mp hp).1
  rw [take_snoc hp]
  refine h.snoc ?_
  rw [take_len (by omega)]
  rw [W_take h.low (by omega) (by omega)] at m
  exact m
theorem Pre.take {ps : List Int} {n : Nat} (h : Pre ps) (h0 : 0 < n) (hn : n ≤ ps.length) : Pre (ps.take n) := by
  have low : Low (ps.take n) := fun i p e => by
    rw [List.getElem?_take] at e
    split at e
    · exact h.low i p e
    · cases e
  refine ⟨by rw [take_len hn]; exact h0, by rw [List.getElem?_take, if_pos h0]; exact h.zero, low, fun i p e => ?_⟩
  rw [List.getElem?_take] at e
  split at e
  · rw [← W_take low hn (by omega)]
    exact h.pre i p e
  · cases e
theorem Pre.step {ps : List Int} (h : Pre ps) {n : Nat} {p : Int} (hp : ps[n + 1]? = some p) : p ∈ W ps (((n + 1 : Nat) : Int) - 1) := by
  have e : (((n + 1 : Nat) : Int) - 1) = (n : Int) := by omega
  rw [e]
  exact h.pre n p hp
/-- the way from the last of a prefix -/
theorem W_last {ps : List Int} {n k : Nat} (h : Pre (ps.take n)) (hn : n ≤ ps.length) (hk : k < n) : W ps (k : Int) = (k : Int) :: W ps (ps.getD k (-1)) ∧ (0 < k → 0 ≤ ps.getD k (-1) ∧ ps.getD k (-1) < k) ∧ ps.getD k (-1) < (n : Int) := by
  have e : ps.getD k (-1) = (ps.take n).getD k (-1) := by
    rw [List.getD_eq_getElem?_getD, List.getD_eq_getElem?_getD, List.getElem?_take, if_pos hk]
  have z := low_par h.low (a := (k : Int)) (by omega) (by rw [take_len hn]; omega)
  rw [show ((k : Int)).toNat = k by omega] at z
  refine ⟨?_, fun k0 => ?_, by rw [e]; omega⟩
  · rw [W_take h.low hn (by omega), W_step h.low (by omega) (by rw [take_len hn]; omega), show ((k : Int)).toNat = k by omega, e, W_take h.low hn (a := (ps.take n).getD k (-1)) (by omega)]
  · have q := h.par (a := (k : Int)) (by omega) (by rw [take_len hn]; omega)
    rw [show ((k : Int)).toNat = k by omega] at q
    rw [e]
    exact ⟨q.1, q.2.1⟩
theorem W_first {ps : List Int} (h : ps[0]? = some (-1)) : W ps 0 = [0] := by
  have p := pre_one h
  have hn := (List.getElem?_eq_some_iff.mp h).1
  have z := (W_last p (by omega) (Nat.zero_lt_one)).1
  rw [show ps.getD 0 (-1) = -1 by rw [List.getD_eq_getElem?_getD, h]; rfl] at z
  have z : W ps 0 = 0 :: W ps (-1) := z
  rw [z, W_neg ps (by decide)]
theorem Pre.head {ps : List Int} {n : Nat} (h : Pre (ps.take n)) (h0 : 0 < n) : ps[0]? = some (-1) := by
  have z := h.zero
  rw [List.getElem?_take, if_pos h0] at z
  exact z
/-- scopes that are popped: what stands from p on -/
theorem W_drop {ps : List Int} (h : Low ps) (p : Int) : ∀ a : Int, a < ps.length → (W ps a).dropWhile (fun x => decide (x ≠ p)) = if p ∈ W ps a then W ps p else [] :=
  W_ind h _ (fun a c => by rw [W_neg ps c]; rfl) fun a h0 h1 ih => by
    rw [W_step h h0 h1]
    by_cases c : a = p
    · subst c
      rw [List.dropWhile_cons_of_neg (by simp), if_pos List.mem_cons_self, W_step h h0 h1]
    · rw [List.dropWhile_cons_of_pos (by simp [c]), ih]
      by_cases m : p ∈ W ps (ps.getD a.toNat (-1))
      · rw [if_pos m, if_pos (List.mem_cons_of_mem _ m)]
      · rw [if_neg m, if_neg fun z => by
          rcases List.mem_cons.mp z with z | z
          · exact c z.symm
          · exact m z]
theorem W_dropT {ps : List Int} {n : Nat} (h : Pre (ps.take n)) (hn : n ≤ ps.length) (p : Int) {a : Int} (ha : a < n) : (W ps a).dropWhile (fun x => decide (x ≠ p)) = if p ∈ W ps a then W ps p else [] := by
  have hl := take_len hn
  rw [W_take h.low hn ha, W_drop h.low p a (by omega)]
  by_cases m : p ∈ W (ps.take n) a
  · have b := W_bounds h.low a (by omega) p m
    rw [if_pos m, if_pos m, W_take h.low hn (a := p) (by omega)]
  · rw [if_neg m, if_neg m]
theorem W_bdT {ps : List Int} {n : Nat} (h : Pre (ps.take n)) (hn : n ≤ ps.length) {a x : Int} (ha : a < n) (m : x ∈ W ps a) : 0 ≤ x ∧ x ≤ a := by
  rw [W_take h.low hn ha] at m
  exact W_bounds h.low a (by rw [take_len hn]; exact ha) x m
theorem W_lenT {ps : List Int} {n : Nat} (h : Pre (ps.take n)) (hn : n ≤ ps.length) : ∀ k : Nat, k < n → (W ps (k : Int)).length ≤ k + 1 := by
  have key : ∀ m k : Nat, k ≤ m → k < n → (W ps (k : Int)).length ≤ k + 1 := by
    intro m
    induction m with
    | zero =>
      intro k hk kn
      obtain ⟨e, _, _⟩ := W_last h hn kn
      have k0 : k = 0 := by omega
      subst k0
      rw [show ps.getD 0 (-1) = -1 by rw [List.getD_eq_getElem?_getD, h.head (by omega)]; rfl, W_neg ps (a := -1) (by decide)] at e
      rw [e]
      exact Nat.le_refl _
    | succ m ih =>
      intro k hk kn
      obtain ⟨e, p, _⟩ := W_last h hn kn
      rw [e, List.length_cons]
      by_cases k0 : k = 0
      · subst k0
        rw [show ps.getD 0 (-1) = -1 by rw [List.getD_eq_getElem?_getD, h.head (by omega)]; rfl, W_neg ps (a := -1) (by decide)]
        exact Nat.le_refl _
      · have p := p (by omega)
        obtain ⟨j, hj⟩ : ∃ j : Nat, ps.getD k (-1) = (j : Int) := ⟨(ps.getD k (-1)).toNat, by omega⟩
        rw [hj] at p ⊢
        have := ih j (by omega) (by omega)
        omega
  exact fun k kn => key k k (Nat.le_refl _) kn
/-! ### uses -/
/-- u is a declaration of a scope on the way from i -/
def Sees (ps cs : List Int) (i : Int) (u : Int) : Prop := ∃ (x : Nat) (c : Int), (x : Int) ∈ W ps i ∧ cs[x]? = some c ∧ (cs.take x).sum ≤ u ∧ u < (cs.take x).sum + c
theorem sum_nn : ∀ {l : List Int}, (∀ x ∈ l, 0 ≤ x) → 0 ≤ l.sum
  | [], _ => Int.le_refl _
  | x :: l, h => by
    rw [List.sum_cons]
    have := h x List.mem_cons_self
    have := sum_nn (l := l) fun y hy => h y (List.mem_cons_of_mem _ hy)
    omega
theorem homeN_spec : ∀ {cs : List Int} {d : Int}, (∀ c ∈ cs, 0 ≤ c) → 0 ≤ d → d < cs.sum → ∃ c, cs[homeN cs d]? = some c ∧ (cs.take (homeN cs d)).sum ≤ d ∧ d < (cs.take (homeN cs d)).sum + c
  | [], d, _, h0, h1 => by
    rw [List.sum_nil] at h1
    omega
  | c :: r, d, nn, h0, h1 => by
    rw [List.sum_cons] at h1
    unfold homeN
    by_cases k : d < c
    · rw [if_pos k]
      exact ⟨c, rfl, by rw [List.take_zero, List.sum_nil]; exact h0, by rw [List.take_zero, List.sum_nil]; omega⟩
    · rw [if_neg k]
      obtain ⟨e, h2, h3, h4⟩ := homeN_spec (cs := r) (d := d - c) (fun x hx => nn x (List.mem_cons_of_mem _ hx)) (by omega) (by omega)
      exact ⟨e, by rw [List.getElem?_cons_succ]; exact h2, by rw [List.take_succ_cons, List.sum_cons]; omega, by rw [List.take_succ_cons, List.sum_cons]; omega⟩
theorem sees_bd {ps cs : List Int} {i u : Int} (nn : ∀ c ∈ cs, 0 ≤ c) (h : Sees ps cs i u) : 0 ≤ u ∧ u < cs.sum := by
  obtain ⟨x, c, _, hc, h0, h1⟩ := h
  have a : 0 ≤ (cs.take x).sum := sum_nn fun y hy => nn y (List.mem_of_mem_take hy)
  have e : cs.sum = (cs.take (x + 1)).sum + (cs.drop (x + 1)).sum := by
    rw [← List.sum_append_int, List.take_append_drop]
  have d : 0 ≤ (cs.drop (x + 1)).sum := sum_nn fun y hy => nn y (List.mem_of_mem_drop hy)
  have t : (cs.take (x + 1)).sum = (cs.take x).sum + c := by
    rw [List.take_add_one, hc, List.sum_append_int]
    simp
  omega
/-- whose home it is -/
theorem sees_iff {ps cs : List Int} {i u : Int} (nn : ∀ c ∈ cs, 0 ≤ c) {h : Int} (u0 : 0 ≤ u) (hh : (homesFrom 0 cs)[u.toNat]? = some h) (u1 : u < cs.sum) : Sees ps cs i u ↔ h ∈ W ps i := by
  obtain ⟨c, h1, h2, h3⟩ := homeN_spec nn u0 u1
  have z := homes_at cs 0 _ u c nn h1 h2 h3
  rw [hh, Nat.zero_add] at z
  have z := Option.some.inj z
  constructor
  · rintro ⟨x, c', hx, hc, a, b⟩
    have y := homes_at cs 0 _ u c' nn hc a b
    rw [hh, Nat.zero_add] at y
    rw [Option.some.inj y]
    exact hx
  · intro m
    rw [z] at m
    exact ⟨_, c, m, h1, h2, h3⟩
abbrev Row := Int × Int × List Int
structure Good (rs : List Row) : Prop where
  pos : 0 < rs.length
  len : rs.length ≤ 40
  nn : ∀ c ∈ rs.map (·.2.1), 0 ≤ c
  asc : ∀ r ∈ rs, r.2.2.Pairwise (· < ·)
  tot : (rs.map (·.2.1)).sum ≤ 60
  pre : Pre (rs.map (·.1))
  vis : ∀ (i : Nat) (r : Row), rs[i]? = some r → ∀ u ∈ r.2.2, Sees (rs.map (·.1)) (rs.map (·.2.1)) i u
/-- the truth of p, as a Bool -/
noncomputable def bo (p : Prop) : Bool := @decide p (Classical.propDecidable p)
theorem bo_true {p : Prop} (h : p) : bo p = true := @decide_eq_true p (Classical.propDecidable p) h
theorem bo_false {p : Prop} (h : ¬ p) : bo p = false := @decide_eq_false p (Classical.propDecidable p) h
theorem bo_iff {p q : Prop} (h : p ↔ q) : bo p = bo q := by
  by_cases c : p
  · rw [bo_true c, bo_true (h.mp c)]
  · rw [bo_false c, bo_false fun z => c (h.mpr z)]
/-- strictly ascending: as the next one tells -/
theorem asc_iff : ∀ {l : List Int}, l.Pairwise (· < ·) ↔ ∀ (i : Nat) (a b : Int), l[i]? = some a → l[i + 1]? = some b → a < b
  | [] => by simp
  | [x] => by simp
  | x :: y :: r => by
    have ih := asc_iff (l := y :: r)
    rw [List.pairwise_cons, ih]
    constructor
    · rintro ⟨h1, h2⟩ i a b ha hb
      cases i with
      | zero =>
        have ha : x = a := Option.some.inj ha
        have hb : y = b := Option.some.inj hb
        rw [← ha, ← hb]
        exact h1 y List.mem_cons_self
      | succ i => exact h2 i a b ha hb
    · intro h
      have h2 : ∀ (i : Nat) (a b : Int), (y :: r)[i]? = some a → (y :: r)[i + 1]? = some b → a < b := fun i a b ha hb => h (i + 1) a b ha hb
      refine ⟨fun z hz => ?_, h2⟩
      have xy := h 0 x y rfl rfl
      rcases List.mem_cons.mp hz with e | e
      · rw [e]
        exact xy
      · exact Int.lt_trans xy ((List.pairwise_cons.mp (ih.mpr h2)).1 z e)
/-- a list and its sorted set -/
theorem sorted_eq {l s : List Int} (hs : s.Pairwise (· < ·)) (m : ∀ k : Int, k ∈ s ↔ k ∈ l) : l = s ↔ l.Pairwise (· < ·) := by
  constructor
  · intro e
    rw [e]
    exact hs
  · intro h
    have nd : ∀ {l : List Int}, l.Pairwise (· < ·) → l.Nodup := fun h => h.imp fun z => Int.ne_of_lt z
    have p : l.Perm s := (List.perm_ext_iff_of_nodup (nd h) (nd hs)).mpr fun k => (m k).symm
    exact p.eq_of_pairwise (le := fun a b => a < b) (fun a b _ _ h1 h2 => absurd (Int.lt_trans h1 h2) (Int.lt_irrefl _)) h hs
end PM
set_option Elab.async false
set_option linter.all false
set_option maxRecDepth 100000
set_option maxHeartbeats 0
namespace K01
open PySem PySem.Spec PyProof.Rows L2
def topS (i : Nat) : Stmt := PySem.Challenge.pw_renamesteps_k01_programs_of_any_value.main.body.getD i (.Pass ⟨0, 0, 0, 0⟩)
abbrev s_is_whole : Stmt := topS 9
abbrev s_is_number_below : Stmt := topS 10
abbrev s_is_ascending : Stmt := topS 11
abbrev s_is_program : Stmt := topS 12
abbrev s_has_scope_form : Stmt := topS 13
abbrev s_is_in_preorder : Stmt := topS 14
abbrev s_has_visible_uses : Stmt := topS 15
abbrev s_check_scope : Stmt := topS 16
abbrev s_declaration_count : Stmt := topS 17
abbrev s_homes_of : Stmt := topS 18
abbrev s_enclosing_scopes : Stmt := topS 19
abbrev s_law_hand : Stmt := topS 21
abbrev s_law_take : Stmt := topS 22
abbrev s_law_pick : Stmt := topS 23
abbrev s_law_program : Stmt := topS 24
abbrev s_law_home : Stmt := topS 25
abbrev s_law_outward : Stmt := topS 26
abbrev s_law_bent : Stmt := topS 27
abbrev s_law_is_number : Stmt := topS 28
abbrev s_law_is_part : Stmt := topS 29
abbrev s_law_due : Stmt := topS 30
abbrev s_law_right : Stmt := topS 31
abbrev slaw : Stmt := topS 32
def dD (x : Str) (i : Nat) : He.DefD := ⟨(x, none), x, x, defArgs (topS i), defBody (topS i), defScope (topS i), [], []⟩
def fn : List He.DefD := [dD "is_whole" 9, dD "is_number_below" 10, dD "is_ascending" 11, dD "is_program" 12, dD "has_scope_form" 13, dD "is_in_preorder" 14, dD "has_visible_uses" 15, dD "check_scope" 16, dD "declaration_count" 17, dD "homes_of" 18, dD "enclosing_scopes" 19, dD "_law_hand" 21, dD "_law_take" 22, dD "_law_pick" 23, dD "_law_program" 24, dD "_law_home" 25, dD "_law_outward" 26, dD "_law_bent" 27, dD "_law_is_number" 28, dD "_law_is_part" 29, dD "_law_due" 30, dD "_law_right" 31, dD "law" 32]
def fa : List He.Fa := [.glo "is_whole", .glo "is_number_below", .glo "is_ascending", .glo "is_program", .glo "has_scope_form", .glo "is_in_preorder", .glo "has_visible_uses", .glo "check_scope", .glo "declaration_count", .glo "homes_of", .glo "enclosing_scopes", .glo "_law_hand", .glo "_law_take", .glo "_law_pick", .glo "_law_program", .glo "_law_home", .glo "_law_outward", .glo "_law_bent", .glo "_law_is_number", .glo "_law_is_part", .glo "_law_due", .glo "_law_right", .glo "law", .free "abs", .free "int", .free "len", .free "range", .free "max", .free "min", .free "isinstance", .free "bool", .free "tuple", .free "sum", .free "sorted", .free "repr", .free "list", .free "str", .free "all", .free "any", .free "set", .free "enumerate", .int "MOST_SCOPES" 40, .int "MOST_DECLARATIONS" 60, .int "PARENT" 0, .int "COUNT" 1, .int "USES" 2]
def ex (_ : PySem.W.Frag) : Bool := true
def loose : List Str := ["RenameError", "NoScope", "MOST_SCOPES", "MOST_DECLARATIONS", "PARENT", "COUNT", "USES", "is_whole", "is_number_below", "is_ascending", "is_program", "has_scope_form", "is_in_preorder", "has_visible_uses", "check_scope", "declaration_count", "homes_of", "enclosing_scopes", "_law_hand", "_law_take", "_law_pick", "_law_program", "_law_home", "_law_outward", "_law_bent", "_law_is_number", "_law_is_part", "_law_due", "_law_right"]
abbrev R : PySem.W.OpenRow := PySem.W.OpenLaw.row PySem.Challenge.rw_renamesteps_k01_programs_of_any_value
abbrev hk : PySem.W.Hook := hookY 5 fa fn ex
def ob (s : PySem.W.SharedT) : AlY := obsY 5 fa fn ex (HandSHeadRun.getT s)
theorem ob_eq (s : PySem.W.SharedT) : ob s = hk.obs s.abs := obsY_eq (HandSHeadRun.getT_eq s)
theorem run (w : World) : HandSHeadRun.RunEq R (PySem.W.view R.prog [32]) hk ob 8000 loose w := by
  intro os
  kernel_rfl
end K01
set_option Elab.async false
set_option linter.all false
set_option maxRecDepth 100000
set_option maxHeartbeats 1000000
namespace K01
open PySem PySem.Spec PyProof.Rows L2
abbrev FnP (K : PySem.W.Frag) (x : Str) (st : Stmt) (f : Addr) (fd : FuncData) : Prop :=
  FunD K x x (defArgs st) (defBody st) (defScope st) [] [] f fd
/-! ### the hand: a list of three numbers -/
def HandL (L : List V) (T : Int) : Prop := ∃ g m t : Int, L = [.int g, .int m, .int t] ∧ 0 ≤ g ∧ 0 ≤ m ∧ m < 2305843009213693952 ∧ 0 ≤ t ∧ t ≤ T
theorem HandL.mono {L : List V} {T U : Int} (h : HandL L T) (l : T ≤ U) : HandL L U := by
  obtain ⟨g, m, t, e, h1, h2, h3, h4, h5⟩ := h
  exact ⟨g, m, t, e, h1, h2, h3, h4, by omega⟩
def HandAt (H : Hp) (a : Addr) (T : Int) : Prop := ∃ L, H a = some (.lst L) ∧ HandL L T
theorem HandAt.mono {H : Hp} {a : Addr} {T U : Int} (h : HandAt H a T) (l : T ≤ U) : HandAt H a U := by
  obtain ⟨L, e, h⟩ := h
  exact ⟨L, e, h.mono l⟩
/-- all that stood stands, but what is at a -/
def SameX (a : Addr) (H H' : Hp) : Prop := ∀ b o, b ≠ a → H b = some o → H' b = some o
theorem SameX.trans {a : Addr} {H H1 H2 : Hp} (h : SameX a H H1) (k : SameX a H1 H2) : SameX a H H2 := fun b o n e => k b o n (h b o n e)
theorem SameX.of {a : Addr} {H H' : Hp} (h : Same H H') : SameX a H H' := fun b o _ e => h b o e
theorem SameX.upd {a : Addr} {H : Hp} {o : HO} : SameX a H (upd H a o) := fun b u n e => by
  rw [upd_ne n]
  exact e
theorem SameX.sq {K : PySem.W.Frag} {a b : Addr} {H H' : Hp} {xs : List V} (h : SameX a H H') (n : b ≠ a) (q : SqL K H b xs) : SqL K H' b xs := by
  rcases q with q | q
  · rcases q with q | ⟨u, q⟩
    · exact .inl (.inl (h b _ n q))
    · exact .inl (.inr ⟨u, h b _ n q⟩)
  · exact .inr q
theorem same_new {H : Hp} {p : Addr} {o : HO} (h : H p = none) : Same H (upd H p o) := fun b x e => by
  rw [upd_ne (ne_of_none e h)]
  exact e
def spTake : Sp := fun vs H Q _ => ∃ (a : Addr) (n T : Int), vs = [.ref a, .int n] ∧ HandAt H a T ∧ T ≤ 100000 ∧ 0 < n ∧ n < 1073741824 ∧
  ∀ (H' : Hp) (d : Int), SameX a H H' → HandAt H' a (T + 1) → 0 ≤ d → d < n → Q (.int d) H'
def primesV : List V := [.int 2147483647, .int 2147483629, .int 2147483587, .int 2147483579, .int 2147483563, .int 2147483549]
theorem primes_at {i : Int} (h0 : 0 ≤ i) (h1 : i < 6) : ∃ p : Int, atI primesV i = some (.int p) ∧ 0 < p ∧ p ≤ 2147483647 := by
  have c : i = 0 ∨ i = 1 ∨ i = 2 ∨ i = 3 ∨ i = 4 ∨ i = 5 := by omega
  rcases c with rfl | rfl | rfl | rfl | rfl | rfl
  · exact ⟨_, rfl, by decide, by decide⟩
  · exact ⟨_, rfl, by decide, by decide⟩
  · exact ⟨_, rfl, by decide, by decide⟩
  · exact ⟨_, rfl, by decide, by decide⟩
  · exact ⟨_, rfl, by decide, by decide⟩
  · exact ⟨_, rfl, by decide, by decide⟩
theorem mix_bound {m u : Int} (h0 : 0 ≤ m) (h1 : m < 2305843009213693952) (u0 : 0 ≤ u) (u1 : u ≤ 100001) :
    (-(2 ^ 64) < 65537 * u ∧ 65537 * u < 2 ^ 64) ∧ (m + 65537 * u * u + 31 * u).natAbs < 2 ^ 64 := by
  have sq : u * u ≤ 100001 * 100001 := Int.mul_le_mul u1 u1 u0 (by decide)
  have s0 : 0 ≤ u * u := Int.mul_nonneg u0 u0
  rw [Int.mul_assoc]
  generalize u * u = z at sq s0
  have e : (2 : Int) ^ 64 = 18446744073709551616 := by decide
  have e2 : (2 : Nat) ^ 64 = 18446744073709551616 := by decide
  rw [e, e2]
  omega
section
variable {P : Program} {w : World} {K : PySem.W.Frag} {mg : Str → Option Value} {base : Heap}
theorem scTake : FnScope ["_law_hand_here", "_law_many", "_law_digit", "_law_turn", "_law_prime", "_law_mixed"] ["_law_hand_here", "_law_many"] (defScope s_law_take) :=
  ⟨rfl, rfl, rfl, by decide +kernel, rfl, by decide +kernel, by decide +kernel⟩
theorem ok_take {f : Addr} {fd : FuncData} (F : FnP K "_law_take" s_law_take f fd) : FnOk P w K mg base CX0 1 f fd ["_law_hand_here", "_law_many"] spTake := by
  refine F.ok scTake (fun vs H Q E h => ?_) (fun cdv A outer s H vs Q E hr h => ?_)
  · obtain ⟨a, n, T, rfl, _⟩ := h
    rfl
  · obtain ⟨a, n, T, rfl, ⟨L, ea, g, m, t, rfl, hg, hm0, hm1, ht0, ht1⟩, hT, hn0, hn1, q⟩ := h
    refine ⟨_, PSs.nox (pss_cons
      (ps_if (pt_cmpR op_gt (pe_ix ix_list (pv 0) pe_int (fun _ _ => rfl)) pe_int (nomark _))
        (pss_cons (ps_set (i := 2) scTake.nd rfl (.inl rfl) (pe_op op_mod (pe_ix ix_list (pv 0) pe_int (fun _ _ => rfl)) (pv 1)))
        (pss_cons (ps_asg (pe_op op_fdiv (pe_ix ix_list (pv 0) pe_int (fun _ _ => rfl)) (pv 1)) (pg_sub (pv 0) pe_int set_list))
        (pss_one (ps_ret (pv 2))))) pss_nil)
      (pss_cons (ps_set (i := 3) scTake.nd rfl (.inl rfl) (pe_op op_add (pe_ix ix_list (pv 0) pe_int (fun _ _ => rfl)) pe_int))
      (pss_cons (ps_asg (pv 3) (pg_sub (pv 0) pe_int set_list))
      (pss_cons (ps_set (i := 4) scTake.nd rfl (.inl rfl)
        (pe_ix ix_list (pe_lst (pa_cons pe_int (pa_cons pe_int (pa_cons pe_int (pa_cons pe_int (pa_cons pe_int (pa_cons pe_int pa_nil)))))))
          (pe_op op_mod (pv 3) pe_int) (fun _ _ => rfl)))
      (pss_cons (ps_set (i := 5) scTake.nd rfl (.inl rfl)
        (pe_op op_mod (pe_op op_pow (pe_op op_add (pe_op op_add (pe_ix ix_list (pv 0) pe_int (fun _ _ => rfl))
          (pe_op op_mul (pe_op op_mul pe_int (pv 3)) (pv 3))) (pe_op op_mul pe_int (pv 3))) pe_int) (pv 4)))
      (pss_one (ps_ret (pe_op op_mod (pe_op op_fdiv (pe_op op_mod (pe_op op_mul (pv 5) (pe_op op_add (pe_op op_mod (pv 5) pe_int)
        (pe_op op_mul pe_int (pv 3)))) pe_int) pe_int) (pv 1))))))))), ?_⟩
    refine ⟨.ref a, rfl, a, _, 0, .int g, rfl, rfl, .of ea, rfl, g, 0, rfl, rfl, _, rfl, ite2 (fun c => ?_) (fun c => ?_)⟩
    · have gp : 0 < g := of_decide_eq_true c
      refine ⟨.ref a, rfl, a, _, 0, .int g, rfl, rfl, .of ea, rfl, .int n, rfl, g, n, rfl, rfl, hn0, ?_⟩
      refine ⟨.ref a, rfl, a, _, 0, .int g, rfl, rfl, .of ea, rfl, .int n, rfl, g, n, rfl, rfl, ⟨hn0, hn1⟩, ?_⟩
      refine ⟨.ref a, rfl, a, _, 0, 0, rfl, rfl, ea, rfl, _, rfl, ?_⟩
      exact q _ _ .upd ⟨_, upd_same, g / n, m, t, rfl, Int.ediv_nonneg hg (Int.le_of_lt hn0), hm0, hm1, ht0, by omega⟩ (Int.emod_nonneg _ (by omega)) (Int.emod_lt_of_pos _ hn0)
    · refine ⟨.ref a, rfl, a, _, 2, .int t, rfl, rfl, .of ea, rfl, t, 1, rfl, rfl, ?_⟩
      refine ⟨.int (t + 1), rfl, .ref a, rfl, a, _, 2, 2, rfl, rfl, ea, rfl, ?_⟩
      refine ⟨by show 6 ≤ sizeLine; decide, fun p np => ?_⟩
      have u0 : 0 ≤ t + 1 := by omega
      have u1 : t + 1 ≤ 100001 := by omega
      obtain ⟨pr, hpr, p0, p1⟩ := primes_at (i := (t + 1) % 6) (Int.emod_nonneg _ (by decide)) (Int.emod_lt_of_pos _ (by decide))
      obtain ⟨mb1, mb2⟩ := mix_bound (m := m) (u := t + 1) hm0 hm1 u0 u1
      refine ⟨.int (t + 1), rfl, t + 1, 6, rfl, rfl, (by show (0 : Int) < 6; decide), p, primesV, (t + 1) % 6, .int pr, rfl, rfl, .of upd_same, hpr, ?_⟩
      have nap : a ≠ p := fun z => by
        subst z
        rw [upd_same] at np
        cases np
      have ea2 : upd (upd H a (.lst ([V.int g, V.int m, V.int t].set 2 (V.int (t + 1))))) p (.lst primesV) a = some (.lst [V.int g, V.int m, V.int (t + 1)]) := by
        rw [upd_ne nap, upd_same]
        rfl
      refine ⟨.ref a, rfl, a, _, 1, .int m, rfl, rfl, .of ea2, rfl, .int (t + 1), rfl, 65537, t + 1, rfl, rfl, .inl ⟨by decide, by decide⟩,
        .int (t + 1), rfl, 65537 * (t + 1), t + 1, rfl, rfl, .inl mb1, m, 65537 * (t + 1) * (t + 1), rfl, rfl,
        .int (t + 1), rfl, 31, t + 1, rfl, rfl, .inl ⟨by decide, by decide⟩, _, _, rfl, rfl, _, 3, rfl, rfl, ⟨by decide, by decide, mb2⟩,
        .int pr, rfl, _, pr, rfl, rfl, p0, ?_⟩
      have x0 := Int.emod_nonneg ((m + 65537 * (t + 1) * (t + 1) + 31 * (t + 1)) ^ (3 : Int).toNat) (show pr ≠ 0 by omega)
      have x1 := Int.emod_lt_of_pos ((m + 65537 * (t + 1) * (t + 1) + 31 * (t + 1)) ^ (3 : Int).toNat) p0
      refine ⟨_, rfl, _, rfl, _, 10007, rfl, rfl, (by show (0 : Int) < 10007; decide), .int (t + 1), rfl, 13, t + 1, rfl, rfl, .inl ⟨by decide, by decide⟩, _, _, rfl, rfl,
        _, _, rfl, rfl, .inl ⟨Int.lt_of_lt_of_le (by decide) x0, Int.lt_trans x1 (Int.lt_of_le_of_lt p1 (by decide))⟩, _, 2305843009213693907, rfl, rfl, (by show (0 : Int) < 2305843009213693907; decide), _, 97, rfl, rfl, ⟨by decide, by decide⟩, .int n, rfl, _, n, rfl, rfl, hn0, ?_⟩
      refine q _ _ (SameX.upd.trans (.of (same_new np))) ⟨_, ea2, g, m, t + 1, rfl, hg, hm0, hm1, u0, by omega⟩ (Int.emod_nonneg _ (by omega)) (Int.emod_lt_of_pos _ hn0)
def spPick (K : PySem.W.Frag) : Sp := fun vs H Q _ => ∃ (a b : Addr) (T : Int) (xs : List V), vs = [.ref a, .ref b] ∧ HandAt H a T ∧ T ≤ 100000 ∧ SqL K H b xs ∧ xs ≠ [] ∧ xs.length < 1073741824 ∧ b ≠ a ∧
  ∀ (H' : Hp) (x : V), SameX a H H' → HandAt H' a (T + 1) → x ∈ xs → Q x H'
theorem scPick : FnScope ["_law_hand_here", "_law_items"] ["_law_hand_here", "_law_items"] (defScope s_law_pick) :=
  ⟨rfl, rfl, rfl, by decide +kernel, rfl, by decide +kernel, by decide +kernel⟩
theorem ok_pick {f fT : Addr} {fd fdT : FuncData} (F : FnP K "_law_pick" s_law_pick f fd) (FT : FnP K "_law_take" s_law_take fT fdT)
    (gT : mg "_law_take" = some (.ref fT)) (ml : mg "len" = none) : FnOk P w K mg base CX0 2 f fd ["_law_hand_here", "_law_items"] (spPick K) := by
  have GT : FnOk P w K mg base CX0 1 fT fdT ["_law_hand_here", "_law_many"] spTake := ok_take FT
  have bT : Binds K fdT ["_law_hand_here", "_law_many"] [] := FT.bindsN fun _ _ _ _ _ _ us hl => match us, hl with | [_, _], _ => rfl
  refine F.ok scPick (fun vs H Q E h => ?_) (fun cdv A outer s H vs Q E hr h => ?_)
  · obtain ⟨a, b, T, xs, rfl, _⟩ := h
    rfl
  · obtain ⟨a, b, T, xs, rfl, hA, hT, hS, hne, hlen, hab, q⟩ := h
    refine ⟨_, PSs.nox (pss_one (ps_ret (pe_ix ix_list (pv 1)
      (pe_call GT hr (by rfl) gT FT.kp bT .nil pass0 (pa_cons (pv 0) (pa_cons (pe_callB call_len_seq (by rfl) ml PySem.boot_len (pa_cons (pv 1) pa_nil)) pa_nil))) (fun _ _ => rfl)))), ?_⟩
    have l0 : 0 < xs.length := List.length_pos_iff.mpr hne
    refine ⟨.ref b, rfl, .ref a, rfl, .ref b, rfl, b, xs, rfl, .inl hS, a, (xs.length : Int), T, rfl, hA, hT, by omega, by omega, fun H' d sx ha d0 d1 => ?_⟩
    obtain ⟨j, rfl⟩ : ∃ j : Nat, d = (j : Int) := ⟨d.toNat, by omega⟩
    have hj : j < xs.length := by omega
    exact ⟨b, xs, (j : Int), xs[j], rfl, rfl, sx.sq hab hS, atI_nat (List.getElem?_eq_getElem hj), q H' _ sx ha (List.getElem_mem hj)⟩
def spHand (K : PySem.W.Frag) : Sp := fun vs H Q _ => ∃ (a : Addr) (k : Int) (ns : List Int), vs = [.ref a, .int k] ∧ SqL K H a (ns.map V.int) ∧ 0 ≤ k ∧ k ≤ 1000 ∧
  ∀ (p : Addr) (L : List V), H p = none → HandL L 0 → Q (.ref p) (upd H p (.lst L))
theorem scHand : FnScope ["_law_script", "_law_k", "_law_cell", "_law_great"] ["_law_script", "_law_k"] (defScope s_law_hand) :=
  ⟨rfl, rfl, rfl, by decide +kernel, rfl, by decide +kernel, by decide +kernel⟩
set_option exponentiation.threshold 1000 in
theorem ten60 : ((10 : Int) ^ (60 : Int).toNat).natAbs < 2 ^ 200 := by decide
def big4 : Int := 10 ^ (60 : Int).toNat * 10 ^ (60 : Int).toNat * 10 ^ (60 : Int).toNat * 10 ^ (60 : Int).toNat
theorem big4_pos : 0 < big4 := by decide
set_option exponentiation.threshold 1000 in
theorem big4_lt : big4.natAbs < 2 ^ 800 := by decide
set_option exponentiation.threshold 1000 in
theorem mod_lt (i : Int) : (i % big4).natAbs < 2 ^ 800 := wide_le (Int.emod_nonneg _ (Int.ne_of_gt big4_pos)) (Int.le_of_lt (Int.emod_lt_of_pos _ big4_pos)) big4_lt
theorem bit_lt (b : Bool) : (if b = true then (1 : Int) else 0).natAbs < 2 ^ 1 := by cases b <;> decide
theorem bit_nn (b : Bool) : 0 ≤ (if b = true then (1 : Int) else 0) := by cases b <;> decide
abbrev rAbs : List V → Hp → VK → Prop := fun xs H Q => ∃ i, xs = [.int i] ∧ Q (.int (if i < 0 then -i else i)) H
abbrev tPw : TE := tOp (rI CPow fun i j => .int (i ^ j.toNat)) (tC (.int 10)) (tC (.int 60))
abbrev rMW : R2 := rI CMulW fun i j => .int (i * j)
abbrev rM : R2 := rI CMul fun i j => .int (i * j)
abbrev rMd : R2 := rI (fun _ j => 0 < j) fun i j => .int (i % j)
abbrev rIn1 : List V → Hp → VK → Prop := fun xs H Q => (∃ i, xs = [.int i] ∧ Q (.int i) H) ∨ ∃ k, xs = [.bl k] ∧ Q (.int (if k then 1 else 0)) H
abbrev rPl : R2 := rI0 fun i j => .int (i + j)
set_option exponentiation.threshold 1000 in
theorem hand_rest {H : Hp} {D : Ends} {a : Addr} (c k : Int) (k0 : 0 ≤ k) (k1 : k ≤ 1000) (q : ∀ (p : Addr) (L : List V), H p = none → HandL L 0 → D.rt (.ref p) (upd H p (.lst L))) :
    tSeq (tAsg (tOp rMW (tOp rMd (tCB rAbs (tCons (tVar 2) tNil)) (tOp rMW (tOp rMW (tOp rMW tPw tPw) tPw) tPw))
        (tCB rIn1 (tCons (tOp (rI0 fun i j => .bl (decide (j ≤ i))) (tCB rAbs (tCons (tVar 2) tNil)) (tOp (rI CPow fun i j => .int (i ^ j.toNat)) (tC (.int 10)) (tC (.int 18)))) tNil))) (gName 3))
      (tRet (tLst (tCons (tVar 3) (tCons (tOp rMd (tOp rM (tOp rPl (tOp rPl (tOp rMd (tVar 2) (tC (.int 2305843009213693951)))
        (tOp rM (tOp rM (tC (.int 104729)) (tVar 1)) (tVar 1))) (tC (.int 29))) (tC (.int 48271))) (tC (.int 2305843009213693921))) (tCons (tC (.int 0)) tNil)))))
      D [some (.ref a), some (.int k), some (.int c), none] H := by
  refine ⟨.int c, rfl, c, rfl, 10, 60, rfl, rfl, ⟨by decide, by decide, by decide⟩, 10, 60, rfl, rfl, ⟨by decide, by decide, by decide⟩,
    _, _, rfl, rfl, wide_mul ten60 ten60 (by decide) (by decide) (by decide), 10, 60, rfl, rfl, ⟨by decide, by decide, by decide⟩,
    _, _, rfl, rfl, wide_mul (wide_lt ten60 ten60) ten60 (by decide) (by decide) (by decide), 10, 60, rfl, rfl, ⟨by decide, by decide, by decide⟩,
    _, _, rfl, rfl, wide_mul (wide_lt (wide_lt ten60 ten60) ten60) ten60 (by decide) (by decide) (by decide), _, big4, rfl, rfl, big4_pos, ?_⟩
  refine ⟨.int c, rfl, c, rfl, 10, 18, rfl, rfl, ⟨by decide, by decide, by decide⟩, _, _, rfl, rfl, .inr ⟨_, rfl, _, _, rfl, rfl, wide_mul (mod_lt _) (b := 1) (bit_lt _) (by decide) (by decide) (by decide), ?_⟩⟩
  refine ⟨_, rfl, .int c, rfl, c, 2305843009213693951, rfl, rfl, (by show (0 : Int) < 2305843009213693951; decide), .int k, rfl, 104729, k, rfl, rfl, .inl ⟨by decide, by decide⟩,
    .int k, rfl, 104729 * k, k, rfl, rfl, .inl ⟨by omega, by omega⟩, _, _, rfl, rfl, _, 29, rfl, rfl, _, 48271, rfl, rfl, .inr ⟨by decide, by decide⟩, _, 2305843009213693921, rfl, rfl,
    (by show (0 : Int) < 2305843009213693921; decide), (by show 3 ≤ sizeLine; decide), fun p np => q p _ np ⟨_, _, 0, rfl, ?_, ?_, ?_, by decide, by decide⟩⟩
  · exact Int.mul_nonneg (Int.emod_nonneg _ (Int.ne_of_gt big4_pos)) (bit_nn _)
  · exact Int.emod_nonneg _ (by decide)
  · exact Int.lt_trans (Int.emod_lt_of_pos _ (by decide)) (by decide)
theorem ok_hand {f : Addr} {fd : FuncData} (F : FnP K "_law_hand" s_law_hand f fd) (ml : mg "len" = none) (ma : mg "abs" = none) (mi : mg "int" = none) :
    FnOk P w K mg base CX0 1 f fd ["_law_script", "_law_k"] (spHand K) := by
  refine F.ok scHand (fun vs H Q E h => ?_) (fun cdv A outer s H vs Q E hr h => ?_)
  · obtain ⟨a, k, ns, rfl, _⟩ := h
    rfl
  · obtain ⟨a, k, ns, rfl, hS, k0, k1, q⟩ := h
    refine ⟨_, PSs.nox (pss_cons (ps_set (i := 2) scHand.nd rfl (.inl rfl)
        (pe_ifExp (pt_cmpR op_lt (pv 1) (pe_callB call_len_seq (by rfl) ml PySem.boot_len (pa_cons (pv 0) pa_nil)) (nomark _))
          (pe_ix ix_list (pv 0) (pv 1) (fun _ _ => rfl)) (pe_op op_add (pe_op op_mul pe_int (pv 1)) pe_int)))
      (pss_cons (ps_set (i := 3) scHand.nd rfl (.inl rfl)
        (pe_op op_mulW (pe_op op_mod (pe_callB call_abs (by rfl) ma (by decide +kernel) (pa_cons (pv 2) pa_nil))
          (pe_op op_mulW (pe_op op_mulW (pe_op op_mulW (pe_op op_pow pe_int pe_int) (pe_op op_pow pe_int pe_int)) (pe_op op_pow pe_int pe_int)) (pe_op op_pow pe_int pe_int)))
          (pe_callTy call_int1 (by rfl) mi (by decide +kernel) (pa_cons (pe_cmpR op_ge (pe_callB call_abs (by rfl) ma (by decide +kernel) (pa_cons (pv 2) pa_nil))
            (pe_op op_pow pe_int pe_int) (nomark _)) pa_nil))))
      (pss_one (ps_ret (pe_lst (pa_cons (pv 3) (pa_cons (pe_op op_mod (pe_op op_mul (pe_op op_add (pe_op op_add (pe_op op_mod (pv 2) pe_int)
        (pe_op op_mul (pe_op op_mul pe_int (pv 1)) (pv 1))) pe_int) pe_int) pe_int) (pa_cons pe_int pa_nil)))))))), ?_⟩
    refine ⟨.int k, rfl, .ref a, rfl, a, _, rfl, .inl hS, k, _, rfl, rfl, _, rfl, ite2 (fun c => ?_) (fun c => ?_)⟩
    · have hk : k < ((ns.map V.int).length : Int) := of_decide_eq_true c
      rw [List.length_map] at hk
      obtain ⟨j, rfl⟩ : ∃ j : Nat, k = (j : Int) := ⟨k.toNat, by omega⟩
      have hj : j < ns.length := by omega
      refine ⟨.ref a, rfl, .int j, rfl, a, _, (j : Int), .int ns[j], rfl, rfl, hS, atI_nat (by rw [List.getElem?_map, List.getElem?_eq_getElem hj]; rfl), ?_⟩
      refine hand_rest ns[j] j k0 k1 q
    · refine ⟨.int k, rfl, 7, k, rfl, rfl, .inl ⟨by decide, by decide⟩, _, 3, rfl, rfl, ?_⟩
      refine hand_rest (7 * k + 3) k k0 k1 q
end
/-! ### a program in the heap -/
abbrev PRow := Int × Int × List Int
def rowD (r : PRow) : PyData := .tuple [.int r.1, .int r.2.1, .tuple (r.2.2.map PyData.int)]
def pd (rs : List PRow) : PyData := .tuple (rs.map rowD)
abbrev pars (rs : List PRow) : List Int := rs.map (·.1)
abbrev cnts (rs : List PRow) : List Int := rs.map (·.2.1)
theorem dts_len {K : PySem.W.Frag} {H : Hp} : ∀ {ds : List PyData} {vs : List V}, Dts K H ds vs → vs.length = ds.length
  | [], vs, h => by
    unfold Dts at h
    rw [h]
    rfl
  | d :: ds, vs, h => by
    unfold Dts at h
    obtain ⟨x, r, e, _, h2⟩ := h
    rw [e, List.length_cons, dts_len h2]
    rfl
theorem dts_get {K : PySem.W.Frag} {H : Hp} : ∀ {ds : List PyData} {vs : List V} {i : Nat} {d : PyData}, Dts K H ds vs → ds[i]? = some d → ∃ x, vs[i]? = some x ∧ Dt K H d x
  | [], _, _, _, _, e => by simp at e
  | d :: ds, vs, 0, d', h, e => by
    unfold Dts at h
    obtain ⟨x, r, e1, h1, _⟩ := h
    have e2 : d = d' := Option.some.inj e
    subst e1 e2
    exact ⟨x, rfl, h1⟩
  | d :: ds, vs, i + 1, d', h, e => by
    unfold Dts at h
    obtain ⟨x, r, e1, _, h2⟩ := h
    subst e1
    exact dts_get (i := i) h2 e
theorem dts_take {K : PySem.W.Frag} {H : Hp} : ∀ {ds : List PyData} {vs : List V} (n : Nat), Dts K H ds vs → Dts K H (ds.take n) (vs.take n)
  | _, _, 0, _ => by
    rw [List.take_zero, List.take_zero]
    unfold Dts
    rfl
  | [], vs, n + 1, h => by
    unfold Dts at h
    subst h
    unfold Dts
    rfl
  | d :: ds, vs, n + 1, h => by
    unfold Dts at h
    obtain ⟨x, r, e, h1, h2⟩ := h
    subst e
    rw [List.take_succ_cons, List.take_succ_cons]
    unfold Dts
    exact ⟨x, _, rfl, h1, dts_take n h2⟩
theorem dts_ints {K : PySem.W.Frag} {H : Hp} : ∀ ns : List Int, Dts K H (ns.map PyData.int) (ns.map V.int)
  | [] => by unfold Dts; rfl
  | n :: r => by
    rw [List.map_cons, List.map_cons]
    unfold Dts
    exact ⟨_, _, rfl, by unfold Dt; rfl, dts_ints r⟩
theorem prog_at {K : PySem.W.Frag} {H : Hp} {rs : List PRow} {v : V} (h : Dt K H (pd rs) v) : ∃ g xs, v = .ref g ∧ SqT K H g xs ∧ Dts K H (rs.map rowD) xs ∧ xs.length = rs.length := by
  unfold pd Dt at h
  obtain ⟨g, xs, e, q, d⟩ := h
  exact ⟨g, xs, e, q, d, by rw [dts_len d, List.length_map]⟩
theorem row_at {K : PySem.W.Frag} {H : Hp} {rs : List PRow} {xs : List V} {i : Nat} {r : PRow} (h : Dts K H (rs.map rowD) xs) (hi : rs[i]? = some r) :
    ∃ b u, xs[i]? = some (.ref b) ∧ SqT K H b [.int r.1, .int r.2.1, u] ∧ Dt K H (.tuple (r.2.2.map PyData.int)) u := by
  obtain ⟨x, hx, hd⟩ := dts_get h (i := i) (d := rowD r) (by rw [List.getElem?_map, hi]; rfl)
  simp only [rowD, Dt, Dts] at hd
  obtain ⟨b, ys, e, q, x1, r1, e1, h1, x2, r2, e2, h2, x3, r3, e3, h3, e4⟩ := hd
  subst e e1 e2 e3 e4 h1 h2
  exact ⟨b, x3, hx, q, by unfold Dt; exact h3⟩
theorem SqT.same {K : PySem.W.Frag} {H H' : Hp} {a : Addr} {xs : List V} (h : SqT K H a xs) (s : Same H H') : SqT K H' a xs := s.sqT h
theorem sum_take_le : ∀ {l : List Int} (n : Nat), (∀ x ∈ l, 0 ≤ x) → 0 ≤ (l.take n).sum ∧ (l.take n).sum ≤ l.sum
  | [], n, _ => by simp
  | x :: l, 0, h => by
    have k := sum_take_le (l := l) l.length fun y hy => h y (List.mem_cons_of_mem _ hy)
    rw [List.take_length] at k
    have := h x List.mem_cons_self
    rw [List.take_zero, List.sum_cons, List.sum_nil]
    omega
  | x :: l, n + 1, h => by
    have k := sum_take_le (l := l) n fun y hy => h y (List.mem_cons_of_mem _ hy)
    have := h x List.mem_cons_self
    rw [List.take_succ_cons, List.sum_cons, List.sum_cons]
    omega
theorem sum_take_succ {l : List Int} {i : Nat} {c : Int} (h : l[i]? = some c) : (l.take (i + 1)).sum = (l.take i).sum + c := by
  rw [List.take_add_one, h]
  simp
theorem sum_at_le {l : List Int} {i : Nat} {c : Int} (nn : ∀ x ∈ l, 0 ≤ x) (h : l[i]? = some c) : 0 ≤ (l.take i).sum ∧ (l.take i).sum + c ≤ l.sum := by
  have a := sum_take_le (l := l) i nn
  have b := sum_take_le (l := l) (i + 1) nn
  rw [sum_take_succ h] at b
  exact ⟨a.1, b.2⟩
/-- what holds of a program: parents in preorder, counts -/
structure PWf (rs : List PRow) : Prop where
  pre : PM.Pre (pars rs)
  len : rs.length ≤ 100
  nn : ∀ c ∈ cnts rs, 0 ≤ c
  tot : (cnts rs).sum ≤ 100
section
variable {P : Program} {w : World} {K : PySem.W.Frag} {mg : Str → Option Value} {base : Heap}
def spWhole : Sp := fun vs H Q _ => ∃ i : Int, vs = [.int i] ∧ Q (.bl true) H
theorem scWhole : FnScope ["value"] ["value"] (defScope s_is_whole) := ⟨rfl, rfl, rfl, by decide +kernel, rfl, by decide +kernel, by decide +kernel⟩
theorem ok_whole {f : Addr} {fd : FuncData} (F : FnP K "is_whole" s_is_whole f fd) (ms : mg "isinstance" = none) (mi : mg "int" = none) (mb : mg "bool" = none) :
    FnOk P w K mg base CX0 1 f fd ["value"] spWhole := by
  refine F.ok scWhole (fun vs H Q E h => ?_) (fun cdv A outer s H vs Q E hr h => ?_)
  · obtain ⟨i, rfl, _⟩ := h
    rfl
  · obtain ⟨i, rfl, q⟩ := h
    refine ⟨_, PSs.nox (pss_one (ps_ret (pe_and (pe_callB call_isi (by rfl) ms (by decide +kernel) (pa_cons (pv 0) (pa_cons (pe_bltn (v := .ty "int") (by rfl) mi (by decide +kernel) rfl) pa_nil)))
      (pe_one (pe_not (pe_callB call_isi (by rfl) ms (by decide +kernel) (pa_cons (pv 0) (pa_cons (pe_bltn (v := .ty "bool") (by rfl) mb (by decide +kernel) rfl) pa_nil)))))))), ?_⟩
    refine ⟨.int i, rfl, .int i, .ty "int", .type "int", .type "int", true, rfl, .ty _, .base (.int i), kit_ty (by decide +kernel), true, rfl, iteT ?_⟩
    exact ⟨.int i, rfl, .int i, .ty "bool", .type "int", .type "bool", false, rfl, .ty _, .base (.int i), kit_ty (by decide +kernel), false, rfl, q⟩
def spNb : Sp := fun vs H Q _ => ∃ i n : Int, vs = [.int i, .int n] ∧ 0 ≤ i ∧ i < n ∧ Q (.bl true) H
theorem scNb : FnScope ["value", "limit"] ["value", "limit"] (defScope s_is_number_below) := ⟨rfl, rfl, rfl, by decide +kernel, rfl, by decide +kernel, by decide +kernel⟩
/-- the small defs that check a number -/
structure TxtN (K : PySem.W.Frag) (mg : Str → Option Value) (fW fN : Addr) (fdW fdN : FuncData) : Prop where
  FW : FnP K "is_whole" s_is_whole fW fdW
  FN : FnP K "is_number_below" s_is_number_below fN fdN
  gW : mg "is_whole" = some (.ref fW)
  gN : mg "is_number_below" = some (.ref fN)
  ms : mg "isinstance" = none
  mi : mg "int" = none
  mb : mg "bool" = none
  ml : mg "len" = none
  mr : mg "range" = none
  mu : mg "sum" = none
  mt : mg "tuple" = none
  mx : mg "max" = none
  gC : ∃ t, mg "COUNT" = some (.int 1 t)
  gP : ∃ t, mg "PARENT" = some (.int 0 t)
theorem ok_nb {fW fN : Addr} {fdW fdN : FuncData} (T : TxtN K mg fW fN fdW fdN) : FnOk P w K mg base CX0 2 fN fdN ["value", "limit"] spNb := by
  have GW : FnOk P w K mg base CX0 1 fW fdW ["value"] spWhole := ok_whole T.FW T.ms T.mi T.mb
  have bW : Binds K fdW ["value"] [] := T.FW.bindsN fun _ _ _ _ _ _ us hl => match us, hl with | [_], _ => rfl
  refine T.FN.ok scNb (fun vs H Q E h => ?_) (fun cdv A outer s H vs Q E hr h => ?_)
  · obtain ⟨i, n, rfl, _⟩ := h
    rfl
  · obtain ⟨i, n, rfl, h0, h1, q⟩ := h
    refine ⟨_, PSs.nox (pss_one (ps_ret (pe_and (pe_call GW hr (by rfl) T.gW T.FW.kp bW .nil pass0 (pa_cons (pv 0) pa_nil)) (pe_one (pe_chain op_le op_lt pe_int (pv 0) (pv 1)))))), ?_⟩
    refine ⟨.int i, rfl, i, rfl, true, rfl, iteT ?_⟩
    refine ⟨.int i, rfl, 0, i, rfl, rfl, _, rfl, ?_⟩
    rw [decide_eq_true h0]
    refine iteT ⟨.int n, rfl, i, n, rfl, rfl, ?_⟩
    show Q (.bl (decide (i < n))) H
    rw [decide_eq_true h1]
    exact q
/-- declaration_count -/
def spCount (K : PySem.W.Frag) : Sp := fun vs H Q _ => ∃ (v : V) (rs : List PRow), vs = [v] ∧ Dt K H (pd rs) v ∧ rs.length ≤ 1000 ∧ ∀ H', Same H H' → Q (.int (cnts rs).sum) H'
theorem scCount : FnScope ["program", "row"] ["program"] (defScope s_declaration_count) := ⟨rfl, rfl, rfl, by decide +kernel, rfl, by decide +kernel, by decide +kernel⟩
theorem ok_count {fW fN f : Addr} {fdW fdN fd : FuncData} (T : TxtN K mg fW fN fdW fdN) (F : FnP K "declaration_count" s_declaration_count f fd) : FnOk P w K mg base CX0 1 f fd ["program"] (spCount K) := by
  obtain ⟨tkC, gC⟩ := T.gC
  refine F.ok scCount (fun vs H Q E h => ?_) (fun cdv A outer s H vs Q E hr h => ?_)
  · obtain ⟨v, rs, rfl, _⟩ := h
    rfl
  · obtain ⟨v, rs, rfl, hd, hl, q⟩ := h
    have nd := scCount.nd
    refine ⟨_, PSs.nox (pss_one (ps_ret (pe_callB (cr_sum rfl) (by rfl) T.mu (by decide +kernel) (pa_cons
      (pe_lc (own := [("row", 1)]) (g := gName 1) (tt := tYes) (te := tOp (rIxT K) (tVar 1) (tC (.int 1))) rfl nd (pi_tup (pv 0)) (blkOk_by (N := ["program", "row"]) (sc := defScope s_declaration_count) (by decide +kernel))
        (fun _ _ _ _ _ => pg_name (i := 1) nd rfl (Or.inl rfl)) (fun _ _ _ _ _ => pts_nil)
        (fun _ _ _ _ _ => pe_ix ix_tup (pv 1) (pe_glob (v := .int 1) (by rfl) gC ⟨_, rfl⟩) (fun _ _ => rfl))) pa_nil)))), ?_⟩
    obtain ⟨g, xs, rfl, hq, hds, hxl⟩ := prog_at hd
    refine ⟨.ref g, rfl, g, rfl, ⟨xs, hq⟩, fun D nD => ?_⟩
    refine lc_tup (K := K) (a := g) (xs := xs) (fun i H' => Same H H' ∧ H' D = some (.lst (((cnts rs).take i).map V.int))) ⟨same_new nD, upd_same⟩ (fun i H' _ ⟨s', _⟩ => s'.sqT hq) ?_ ?_
    · rintro i x H' hx ⟨S, e⟩
      have hi : i < rs.length := by
        rw [← hxl]
        exact (List.getElem?_eq_some_iff.mp hx).1
      obtain ⟨b, u, hb, qb, _⟩ := row_at (Dts.same S _ _ hds) (List.getElem?_eq_getElem hi)
      rw [hx] at hb
      cases hb
      refine ⟨rfl, .ref b, rfl, b, _, 1, _, rfl, rfl, qb, rfl, _, e, ?_, fun b o z => ?_, ?_⟩
      · rw [List.length_map, List.length_take]
        exact Nat.lt_of_le_of_lt (Nat.min_le_left _ _) (small1000 (by omega))
      · rw [upd_ne (ne_of_none z nD)]
        exact S _ _ z
      · rw [upd_same, List.take_add_one, List.getElem?_map, List.getElem?_eq_getElem hi, List.map_append]
        rfl
    · rintro H' ⟨S, e⟩
      rw [hxl, show rs.length = (cnts rs).length by rw [List.length_map], List.take_length] at e
      exact ⟨D, _, rfl, .of e, q H' S⟩
/-- check_scope, check_declaration: nothing is raised for a number that is one -/
def spCkS (K : PySem.W.Frag) : Sp := fun vs H Q _ => ∃ (v : V) (rs : List PRow) (i : Int), vs = [v, .int i] ∧ Dt K H (pd rs) v ∧ 0 ≤ i ∧ i < rs.length ∧ Q .non H
theorem scCkS : FnScope ["program", "scope"] ["program", "scope"] (defScope s_check_scope) := ⟨rfl, rfl, rfl, by decide +kernel, rfl, by decide +kernel, by decide +kernel⟩
theorem ok_ckS {fW fN f : Addr} {fdW fdN fd : FuncData} (T : TxtN K mg fW fN fdW fdN) (F : FnP K "check_scope" s_check_scope f fd) : FnOk P w K mg base CX0 3 f fd ["program", "scope"] (spCkS K) := by
  have GN : FnOk P w K mg base CX0 2 fN fdN ["value", "limit"] spNb := ok_nb T
  have bN : Binds K fdN ["value", "limit"] [] := T.FN.bindsN fun _ _ _ _ _ _ us hl => match us, hl with | [_, _], _ => rfl
  refine F.ok scCkS (fun vs H Q E h => ?_) (fun cdv A outer s H vs Q E hr h => ?_)
  · obtain ⟨v, rs, i, rfl, _⟩ := h
    rfl
  · obtain ⟨v, rs, i, rfl, hd, h0, h1, q⟩ := h
    refine ⟨_, PSs.nox (pss_one (ps_if (pt_not (pt_val (pe_call GN hr (by rfl) T.gN T.FN.kp bN .nil pass0 (pa_cons (pv 1) (pa_cons (pe_callB call_len_seq (by rfl) T.ml PySem.boot_len (pa_cons (pv 0) pa_nil)) pa_nil)))))
      (pss_one ps_never) pss_nil)), ?_⟩
    obtain ⟨g, xs, rfl, hq, _, hxl⟩ := prog_at hd
    exact ⟨.int i, rfl, .ref g, rfl, g, xs, rfl, .inr hq, i, _, rfl, h0, by omega, true, rfl, iteF q⟩
end
theorem homes_snoc : ∀ (l : List Int) (o : Nat) (c : Int), PM.homesFrom o (l ++ [c]) = PM.homesFrom o l ++ List.replicate c.toNat ((o + l.length : Nat) : Int)
  | [], o, c => by
    show List.replicate c.toNat (o : Int) ++ [] = [] ++ List.replicate c.toNat ((o + 0 : Nat) : Int)
    rw [List.append_nil, List.nil_append, Nat.add_zero]
  | b :: l, o, c => by
    show List.replicate b.toNat (o : Int) ++ PM.homesFrom (o + 1) (l ++ [c]) = (List.replicate b.toNat (o : Int) ++ PM.homesFrom (o + 1) l) ++ _
    rw [homes_snoc l (o + 1) c, List.append_assoc, List.length_cons, show o + 1 + l.length = o + (l.length + 1) by omega]
theorem homes_len : ∀ (l : List Int) (o : Nat), (∀ c ∈ l, 0 ≤ c) → ((PM.homesFrom o l).length : Int) = l.sum
  | [], _, _ => rfl
  | c :: l, o, h => by
    have ih := homes_len l (o + 1) fun x hx => h x (List.mem_cons_of_mem _ hx)
    have := h c List.mem_cons_self
    show ((List.replicate c.toNat (o : Int) ++ PM.homesFrom (o + 1) l).length : Int) = _
    rw [List.length_append, List.length_replicate, List.sum_cons]
    omega
theorem inV_int (x : Int) (l : List Int) : inV (.int x) (l.map V.int) = decide (x ∈ l) := by
  unfold inV
  rw [List.any_map]
  by_cases c : x ∈ l
  · rw [decide_eq_true c]
    exact List.any_eq_true.mpr ⟨x, c, by show (x == x) = true; exact beq_self_eq_true x⟩
  · rw [decide_eq_false c]
    refine Bool.eq_false_iff.mpr fun z => ?_
    obtain ⟨y, hy, e⟩ := List.any_eq_true.mp z
    have e : (y == x) = true := e
    exact c (by rw [← beq_iff_eq.mp e]; exact hy)
theorem flat_ints (l : List Int) : (l.map V.int).all flatV = true := by
  rw [List.all_map]
  exact List.all_eq_true.mpr fun x _ => rfl
theorem W_zero {ps : List Int} (h : PM.Pre ps) : PM.W ps 0 = [0] := by
  have hp := h.pos
  rw [PM.W_step h.low (by omega) (by omega), show (0 : Int).toNat = 0 from rfl, h.root, PM.W_neg ps (by decide)]
theorem W_len_le {ps : List Int} (h : PM.Low ps) : ∀ a : Int, a < ps.length → (PM.W ps a).length ≤ a.toNat + 1 :=
  PM.W_ind h _ (fun a c => by rw [PM.W_neg ps c]; exact Nat.zero_le _) fun a h0 h1 ih => by
    have z := PM.low_par h h0 h1
    rw [PM.W_step h h0 h1, List.length_cons]
    by_cases c : ps.getD a.toNat (-1) < 0
    · rw [PM.W_neg ps c, List.length_nil]
      omega
    · omega
section
variable {P : Program} {w : World} {K : PySem.W.Frag} {mg : Str → Option Value} {base : Heap}
/-- homes_of -/
def spHomes (K : PySem.W.Frag) : Sp := fun vs H Q _ => ∃ (v : V) (rs : List PRow), vs = [v] ∧ Dt K H (pd rs) v ∧ PWf rs ∧ ∀ H' p, Same H H' → H' p = some (.tup ((PM.homesFrom 0 (cnts rs)).map V.int)) → Q (.ref p) H'
abbrev homesN : List Str := ["program", "scope", "each"]
theorem scHomes : FnScope homesN ["program"] (defScope s_homes_of) := ⟨rfl, rfl, rfl, by decide +kernel, rfl, by decide +kernel, by decide +kernel⟩
theorem ok_homes {fW fN f : Addr} {fdW fdN fd : FuncData} (T : TxtN K mg fW fN fdW fdN) (F : FnP K "homes_of" s_homes_of f fd) : FnOk P w K mg base CX0 1 f fd ["program"] (spHomes K) := by
  obtain ⟨tkC, gC⟩ := T.gC
  refine F.ok scHomes (fun vs H Q E h => ?_) (fun cdv A outer s H vs Q E hr h => ?_)
  · obtain ⟨v, rs, rfl, _⟩ := h
    rfl
  · obtain ⟨v, rs, rfl, hd, wf, q⟩ := h
    have nd := scHomes.nd
    refine ⟨_, PSs.nox (pss_one (ps_ret (pe_callTy call_tuple_of (by rfl) T.mt (by decide +kernel) (pa_cons
      (pe_lc2 (own := [("scope", 1), ("each", 2)]) (vs1 := [2]) (g := gName 1) (g1 := gName 2) (tt := tYes) (tt1 := tYes) (te := tVar 1)
        (wi1 := iRng1 (tCons (tOp (rIxT K) (tOp (rIxT K) (tVar 0) (tVar 1)) (tC (.int 1))) tNil)) rfl nd
        (pi_range1 (by rfl) T.mr (pa_cons (pe_callB call_len_seq (by rfl) T.ml PySem.boot_len (pa_cons (pv 0) pa_nil)) pa_nil))
        (blkOk_by (N := homesN) (sc := defScope s_homes_of) (by decide +kernel)) (by decide)
        (fun _ _ _ _ _ => pg_name (i := 1) nd rfl (Or.inl rfl)) (fun _ _ _ _ _ => pts_nil)
        (fun _ _ _ _ _ => pi_range1 (by rfl) T.mr (pa_cons (pe_ix ix_tup (pe_ix ix_tup (pv 0) (pv 1) (fun _ _ => rfl)) (pe_glob (v := .int 1) (by rfl) gC ⟨_, rfl⟩) (fun _ _ => rfl)) pa_nil))
        (fun _ _ _ _ _ => pg_name (i := 2) nd rfl (Or.inl rfl)) (fun _ _ _ _ _ => pts_nil) (fun _ _ _ _ _ => pv 1)) pa_nil)))), ?_⟩
    obtain ⟨g, xs, rfl, hq, hds, hxl⟩ := prog_at hd
    have hl := wf.len
    refine ⟨.ref g, rfl, g, xs, rfl, .inr hq, _, rfl, by omega, by omega, fun D nD => ?_⟩
    refine ⟨fun i m H' => m = xs.length - i ∧ i ≤ xs.length ∧ Same H H' ∧ H' D = some (.lst ((PM.homesFrom 0 ((cnts rs).take i)).map V.int)), ⟨xs.length, by omega, Nat.zero_le _, same_new nD, upd_same⟩, ?_⟩
    rintro i m H1 ⟨rfl, hi, S1, e1⟩
    by_cases c : i < xs.length
    · have hir : i < rs.length := by omega
      refine .inr ⟨show i < ((xs.length : Int)).toNat by omega, fun H' => Same H H' ∧ H' D = some (.lst ((PM.homesFrom 0 ((cnts rs).take (i + 1))).map V.int)), fun H' ⟨a, b⟩ => ⟨xs.length - (i + 1), by omega, rfl, by omega, a, b⟩, ?_⟩
      rintro x H2 ⟨rfl, rfl⟩
      obtain ⟨b, u, hb, qb, _⟩ := row_at (Dts.same S1 _ _ hds) (List.getElem?_eq_getElem hir)
      have cb : 0 ≤ rs[i].2.1 := wf.nn _ (List.mem_map.mpr ⟨rs[i], List.getElem_mem hir, rfl⟩)
      have ct : rs[i].2.1 ≤ 100 := by
        have z := sum_at_le (l := cnts rs) (i := i) (c := rs[i].2.1) wf.nn (by rw [List.getElem?_map, List.getElem?_eq_getElem hir]; rfl)
        have := wf.tot
        omega
      refine ⟨rfl, ?_⟩
      refine ⟨.ref g, rfl, .int (0 + i), rfl, g, xs, (i : Int), .ref b, rfl, by rw [Int.zero_add], S1.sqT hq, atI_nat hb, b, _, 1, _, rfl, rfl, qb, rfl, rs[i].2.1, rfl, by omega, by omega, ?_⟩
      refine ⟨fun j k H' => k = rs[i].2.1.toNat - j ∧ j ≤ rs[i].2.1.toNat ∧ Same H H' ∧ H' D = some (.lst ((PM.homesFrom 0 ((cnts rs).take i) ++ List.replicate j (i : Int)).map V.int)),
        ⟨rs[i].2.1.toNat, by omega, Nat.zero_le _, S1, by rw [e1, List.replicate_zero, List.append_nil]⟩, ?_⟩
      rintro j k H3 ⟨rfl, hj, S3, e3⟩
      by_cases cj : j < rs[i].2.1.toNat
      · refine .inr ⟨cj, fun H' => Same H H' ∧ H' D = some (.lst ((PM.homesFrom 0 ((cnts rs).take i) ++ List.replicate (j + 1) (i : Int)).map V.int)), fun H' ⟨a, b⟩ => ⟨rs[i].2.1.toNat - (j + 1), by omega, rfl, by omega, a, b⟩, ?_⟩
        rintro x H4 ⟨rfl, rfl⟩
        refine ⟨rfl, .int (0 + i), rfl, _, e3, ?_, fun b o z => ?_, ?_⟩
        · rw [List.length_map, List.length_append, List.length_replicate]
          have z := homes_len ((cnts rs).take i) 0 fun c hc => wf.nn c (List.mem_of_mem_take hc)
          have y := sum_take_le (l := cnts rs) i wf.nn
          have := wf.tot
          exact small1000 (by omega)
        · rw [upd_ne (ne_of_none z nD)]
          exact S3 _ _ z
        · simp only [upd_same, List.replicate_succ', ← List.append_assoc, List.map_append, Int.zero_add]
          rfl
      · have ej : j = rs[i].2.1.toNat := by omega
        refine .inl ⟨show rs[i].2.1.toNat ≤ j by omega, S3, ?_⟩
        rw [e3, ej, List.take_add_one, List.getElem?_map, List.getElem?_eq_getElem hir]
        show _ = some (HO.lst ((PM.homesFrom 0 ((cnts rs).take i ++ [rs[i].2.1])).map V.int))
        rw [homes_snoc, List.length_take, List.length_map, Nat.min_eq_left (by omega), Nat.zero_add]
    · have ei : i = xs.length := by omega
      refine .inl ⟨show ((xs.length : Int)).toNat ≤ i by omega, ?_⟩
      rw [ei, hxl, show rs.length = (cnts rs).length by rw [List.length_map], List.take_length] at e1
      refine ⟨D, _, rfl, .inl ⟨.of e1, fun l nl => ?_⟩⟩
      exact q _ l (S1.trans (same_new nl)) upd_same
/-- enclosing_scopes -/
def spEnc (K : PySem.W.Frag) : Sp := fun vs H Q _ => ∃ (v : V) (rs : List PRow) (i : Int), vs = [v, .int i] ∧ Dt K H (pd rs) v ∧ PWf rs ∧ 0 ≤ i ∧ i < rs.length ∧
  ∀ H' p, Same H H' → H' p = some (.tup ((PM.W (pars rs) i).map V.int)) → Q (.ref p) H'
theorem scEnc : FnScope ["program", "scope", "around"] ["program", "scope"] (defScope s_enclosing_scopes) := ⟨rfl, rfl, rfl, by decide +kernel, rfl, by decide +kernel, by decide +kernel⟩
theorem ok_enc {fW fN f fK : Addr} {fdW fdN fd fdK : FuncData} (T : TxtN K mg fW fN fdW fdN) (F : FnP K "enclosing_scopes" s_enclosing_scopes f fd) (FK : FnP K "check_scope" s_check_scope fK fdK) (gK : mg "check_scope" = some (.ref fK)) :
    FnOk P w K mg base CX0 4 f fd ["program", "scope"] (spEnc K) := by
  obtain ⟨tkP, gP⟩ := T.gP
  have GK : FnOk P w K mg base CX0 3 fK fdK ["program", "scope"] (spCkS K) := ok_ckS T FK
  have bK : Binds K fdK ["program", "scope"] [] := FK.bindsN fun _ _ _ _ _ _ us hl => match us, hl with | [_, _], _ => rfl
  refine F.ok scEnc (fun vs H Q E h => ?_) (fun cdv A outer s H vs Q E hr h => ?_)
  · obtain ⟨v, rs, i, rfl, _⟩ := h
    rfl
  · obtain ⟨v, rs, i, rfl, hd, wf, h0, h1, q⟩ := h
    refine ⟨_, PSs.nox (pss_cons (ps_expr (pe_call GK hr (by rfl) gK FK.kp bK .nil pass0 (pa_cons (pv 0) (pa_cons (pv 1) pa_nil))))
      (pss_cons (ps_set (i := 2) scEnc.nd rfl (.inl rfl) (pe_lst (pa_cons (pv 1) pa_nil)))
      (pss_cons (ps_while PassesOwn.never (pt_cmpR op_ne (pe_ix ix_list (pv 2) (pe_un un_neg pe_int) (fun _ _ => rfl)) pe_int (nomark _))
        (pss_one (ps_expr (pe_bm PySem.F.plainAttrs_list PySem.F.slot_list_append PySem.F.type_list_append mt_append (pv 2) (pa_cons
          (pe_ix ix_tup (pe_ix ix_tup (pv 0) (pe_ix ix_list (pv 2) (pe_un un_neg pe_int) (fun _ _ => rfl)) (fun _ _ => rfl)) (pe_glob (v := .int 0) (by rfl) gP ⟨_, rfl⟩) (fun _ _ => rfl)) pa_nil)))))
      (pss_one (ps_ret (pe_callTy call_tuple_of (by rfl) T.mt (by decide +kernel) (pa_cons (pv 2) pa_nil))))))), ?_⟩
    obtain ⟨g, xs, rfl, hq, hds, hxl⟩ := prog_at hd
    have hpl : (pars rs).length = rs.length := by rw [List.length_map]
    have hl := wf.len
    have low := wf.pre.low
    refine ⟨.ref g, rfl, .int i, rfl, .ref g, rs, i, rfl, hd, h0, h1, ?_⟩
    refine ⟨.int i, rfl, by show 1 ≤ sizeLine; decide, fun ar na => ?_⟩
    refine ⟨fun m σ H' => σ = [some (.ref g), some (.int i), some (.ref ar)] ∧ Same H H' ∧ ∃ (acc : List Int) (x : Int), m = x.toNat ∧ H' ar = some (.lst ((acc ++ [x]).map V.int)) ∧ PM.W (pars rs) i = acc ++ PM.W (pars rs) x ∧ 0 ≤ x ∧ x < rs.length,
      ⟨i.toNat, rfl, same_new na, [], i, rfl, upd_same, rfl, h0, h1⟩, ?_⟩
    rintro m σ H1 ⟨rfl, S1, acc, x, rfl, e1, ew, x0, x1⟩
    have last : atI ((acc ++ [x]).map V.int) (-1) = some (.int x) := by
      rw [List.map_append]
      exact atI_last _ _
    have wl := W_len_le low i (by omega)
    have aw : acc.length < 1000 := by
      have := congrArg List.length ew
      rw [List.length_append] at this
      omega
    refine ⟨.ref ar, rfl, 1, rfl, ar, _, -1, .int x, rfl, rfl, .of e1, last, rfl, _, rfl, ?_⟩
    by_cases c : x = 0
    · subst c
      refine iteNS rfl ?_
      rw [W_zero wf.pre] at ew
      refine ⟨.ref ar, rfl, ar, _, rfl, .inl ⟨.of e1, fun l nl => ?_⟩⟩
      refine q _ l (S1.trans (same_new nl)) ?_
      rw [upd_same, ew]
    · rw [show (!decide (V.int x = V.int 0)) = true by rw [decide_eq_false (fun z => c (V.int.inj z))]; rfl]
      refine iteT ⟨fun σ' H' => σ' = [some (.ref g), some (.int i), some (.ref ar)] ∧ Same H H' ∧ ∃ (acc' : List Int) (y : Int), y.toNat < x.toNat ∧ H' ar = some (.lst ((acc' ++ [y]).map V.int)) ∧ PM.W (pars rs) i = acc' ++ PM.W (pars rs) y ∧ 0 ≤ y ∧ y < rs.length, ?_, ?_⟩
      · rintro σ' H' ⟨rfl, S', acc', y, hy, e', w', y0, y1⟩
        exact ⟨y.toNat, hy, rfl, S', acc', y, rfl, e', w', y0, y1⟩
      · obtain ⟨k, rfl⟩ : ∃ k : Nat, x = (k : Int) := ⟨x.toNat, by omega⟩
        have hk : k < rs.length := by omega
        have pr := wf.pre.par (a := (k : Int)) (by omega) (by omega)
        have st := PM.W_step low (a := (k : Int)) (by omega) (by omega)
        obtain ⟨b, u, hb, qb, _⟩ := row_at (Dts.same S1 _ _ hds) (List.getElem?_eq_getElem hk)
        have ep : (pars rs).getD (k : Int).toNat (-1) = rs[k].1 := by
          rw [List.getD_eq_getElem?_getD, List.getElem?_map, show ((k : Int)).toNat = k by omega, List.getElem?_eq_getElem hk]
          rfl
        rw [ep] at pr st
        refine ⟨.ref ar, rfl, .inl ⟨rfl, _, .of e1⟩, .ref g, rfl, .ref ar, rfl, 1, rfl, ar, _, -1, .int (k : Int), rfl, rfl, .of e1, last, g, xs, (k : Int), .ref b, rfl, rfl, S1.sqT hq, atI_nat hb,
          b, _, 0, .int rs[k].1, rfl, rfl, qb, rfl, ar, _, _, rfl, rfl, e1, ?_, ?_⟩
        · rw [List.length_map, List.length_append, List.length_singleton]
          exact small1000 (by omega)
        · refine ⟨rfl, fun b o z => ?_, acc ++ [(k : Int)], rs[k].1, by omega, ?_, ?_, pr.1, by omega⟩
          · rw [upd_ne (ne_of_none z na)]
            exact S1 _ _ z
          · rw [upd_same, List.map_append (l₂ := [rs[k].1])]
            rfl
          · rw [ew, st, List.append_assoc]
            rfl
end
theorem homeN_lt : ∀ {cs : List Int} {d : Int}, d < cs.sum → PM.homeN cs d < cs.length ∨ cs = []
  | [], _, _ => .inr rfl
  | c :: r, d, h => by
    refine .inl ?_
    unfold PM.homeN
    by_cases k : d < c
    · rw [if_pos k]
      exact Nat.succ_pos _
    · rw [if_neg k]
      rw [List.sum_cons] at h
      rcases homeN_lt (cs := r) (d := d - c) (by omega) with z | z
      · rw [List.length_cons]
        omega
      · subst z
        rw [List.sum_nil] at h
        omega
theorem homeN_skip : ∀ {cs : List Int} {k : Nat} {d : Int}, (∀ c ∈ cs, 0 ≤ c) → k ≤ cs.length → (cs.take k).sum ≤ d → PM.homeN cs d = k + PM.homeN (cs.drop k) (d - (cs.take k).sum)
  | cs, 0, d, _, _, _ => by
    rw [List.take_zero, List.sum_nil, List.drop_zero, Int.sub_zero, Nat.zero_add]
  | [], k + 1, d, _, h, _ => absurd h (by simp)
  | c :: r, k + 1, d, nn, h, hs => by
    have nr : ∀ x ∈ r, 0 ≤ x := fun x hx => nn x (List.mem_cons_of_mem _ hx)
    rw [List.take_succ_cons, List.sum_cons] at hs
    have tn := (sum_take_le (l := r) k nr).1
    rw [List.length_cons] at h
    have ih := homeN_skip (cs := r) (k := k) (d := d - c) nr (by omega) (by omega)
    rw [List.take_succ_cons, List.sum_cons, List.drop_succ_cons]
    show (if d < c then 0 else PM.homeN r (d - c) + 1) = _
    rw [if_neg (by omega), ih, show d - c - (r.take k).sum = d - (c + (r.take k).sum) by omega]
    omega
section
variable {P : Program} {w : World} {K : PySem.W.Frag} {mg : Str → Option Value} {base : Heap}
def spOut (K : PySem.W.Frag) : Sp := fun vs H Q _ => ∃ (a : Addr) (ps : List Int) (x : Int), vs = [.ref a, .int x] ∧ SqL K H a (ps.map V.int) ∧ PM.Low ps ∧ ps.length ≤ 100 ∧ x < ps.length ∧
  ∀ H' p, Same H H' → H' p = some (.lst ((PM.W ps x).map V.int)) → Q (.ref p) H'
theorem scOut : FnScope ["_law_parents", "_law_scope", "_law_found"] ["_law_parents", "_law_scope"] (defScope s_law_outward) := ⟨rfl, rfl, rfl, by decide +kernel, rfl, by decide +kernel, by decide +kernel⟩
theorem ok_out {f : Addr} {fd : FuncData} (F : FnP K "_law_outward" s_law_outward f fd) : FnOk P w K mg base CX0 1 f fd ["_law_parents", "_law_scope"] (spOut K) := by
  refine F.ok scOut (fun vs H Q E h => ?_) (fun cdv A outer s H vs Q E hr h => ?_)
  · obtain ⟨a, ps, x, rfl, _⟩ := h
    rfl
  · obtain ⟨a, ps, x0, rfl, hq, low, hpl, hx, q⟩ := h
    have nd := scOut.nd
    refine ⟨_, PSs.nox (pss_cons (ps_set (i := 2) nd rfl (.inl rfl) (pe_lst pa_nil))
      (pss_cons (ps_while PassesOwn.never (pt_cmpR op_ge (pv 1) pe_int (nomark _))
        (pss_cons (ps_expr (pe_bm PySem.F.plainAttrs_list PySem.F.slot_list_append PySem.F.type_list_append mt_append (pv 2) (pa_cons (pv 1) pa_nil)))
        (pss_one (ps_set (i := 1) nd rfl (.inl rfl) (pe_ix ix_list (pv 0) (pv 1) (fun _ _ => rfl))))))
      (pss_one (ps_ret (pv 2))))), ?_⟩
    refine ⟨Nat.zero_le _, fun fl nf => ?_⟩
    refine ⟨fun m σ H' => ∃ (acc : List Int) (x : Int), m = (x + 1).toNat ∧ σ = [some (.ref a), some (.int x), some (.ref fl)] ∧ Same H H' ∧ H' fl = some (.lst (acc.map V.int)) ∧ PM.W ps x0 = acc ++ PM.W ps x ∧ x < ps.length,
      ⟨_, [], x0, rfl, rfl, same_new nf, upd_same, rfl, hx⟩, ?_⟩
    rintro m σ H1 ⟨acc, x, rfl, rfl, S1, e1, ew, x1⟩
    refine ⟨.int x, rfl, x, 0, rfl, rfl, _, rfl, ite2 (fun c => ?_) (fun c => ?_)⟩
    · have x0' : 0 ≤ x := of_decide_eq_true c
      have st := PM.W_step low x0' x1
      have lp := PM.low_par low x0' x1
      have wl := W_len_le low x0 hx
      have al : acc.length < 1000 := by
        have := congrArg List.length ew
        rw [List.length_append] at this
        omega
      refine ⟨fun σ' H' => ∃ (acc' : List Int) (y : Int), y < x ∧ σ' = [some (.ref a), some (.int y), some (.ref fl)] ∧ Same H H' ∧ H' fl = some (.lst (acc'.map V.int)) ∧ PM.W ps x0 = acc' ++ PM.W ps y ∧ y < ps.length, ?_, ?_⟩
      · rintro σ' H' ⟨acc', y, hy, rfl, S', e', w', y1⟩
        exact ⟨(y + 1).toNat, by omega, acc', y, rfl, rfl, S', e', w', y1⟩
      · refine ⟨.ref fl, rfl, .inl ⟨rfl, _, .of e1⟩, .int x, rfl, fl, _, _, rfl, rfl, e1, by rw [List.length_map]; exact small1000 (by omega), ?_⟩
        have S2 : Same H (upd H1 fl (.lst (acc.map V.int ++ [V.int x]))) := fun b o z => by
          rw [upd_ne (ne_of_none z nf)]
          exact S1 _ _ z
        refine ⟨.ref a, rfl, .int x, rfl, a, _, x, .int (ps.getD x.toNat (-1)), rfl, rfl, S2.seq hq, ?_, ?_⟩
        · have e : x = ((x.toNat : Nat) : Int) := by omega
          have pz := PM.par_of x0' x1
          rw [e]
          exact atI_nat (by rw [List.getElem?_map, show ((x.toNat : Nat) : Int).toNat = x.toNat by omega, pz]; rfl)
        · refine ⟨acc ++ [x], ps.getD x.toNat (-1), by omega, rfl, S2, ?_, ?_, by omega⟩
          · rw [upd_same, List.map_append]
            rfl
          · rw [ew, st, List.append_assoc]
            rfl
    · have xn : x < 0 := Int.not_le.mp fun z => c (decide_eq_true z)
      rw [PM.W_neg ps xn, List.append_nil] at ew
      rw [← ew] at e1
      exact ⟨.ref fl, rfl, q H1 fl S1 e1⟩
def spLHome (K : PySem.W.Frag) : Sp := fun vs H Q _ => ∃ (a : Addr) (cs : List Int) (d : Int), vs = [.ref a, .int d] ∧ SqL K H a (cs.map V.int) ∧ (∀ c ∈ cs, 0 ≤ c) ∧ 0 ≤ d ∧ d < cs.sum ∧ Q (.int (PM.homeN cs d : Int)) H
theorem scLHome : FnScope ["_law_counts", "_law_declaration", "_law_scope"] ["_law_counts", "_law_declaration"] (defScope s_law_home) := ⟨rfl, rfl, rfl, by decide +kernel, rfl, by decide +kernel, by decide +kernel⟩
theorem sum_split (cs : List Int) (k : Nat) : cs.sum = (cs.take k).sum + (cs.drop k).sum := by
  rw [← List.sum_append, List.take_append_drop]
theorem ok_lhome {f : Addr} {fd : FuncData} (F : FnP K "_law_home" s_law_home f fd) : FnOk P w K mg base CX0 1 f fd ["_law_counts", "_law_declaration"] (spLHome K) := by
  refine F.ok scLHome (fun vs H Q E h => ?_) (fun cdv A outer s H vs Q E hr h => ?_)
  · obtain ⟨a, cs, d, rfl, _⟩ := h
    rfl
  · obtain ⟨a, cs, d, rfl, hq, nn, d0, d1, q⟩ := h
    have nd := scLHome.nd
    refine ⟨_, PSs.nox (pss_cons (ps_set (i := 2) nd rfl (.inl rfl) pe_int)
      (pss_cons (ps_while PassesOwn.never (pt_cmpR op_ge (pv 1) (pe_ix ix_list (pv 0) (pv 2) (fun _ _ => rfl)) (nomark _))
        (pss_one (ps_par (i := 1) (j := 2) (by rfl) nd rfl rfl (by decide) rfl rfl (pa_cons (pe_op op_sub (pv 1) (pe_ix ix_list (pv 0) (pv 2) (fun _ _ => rfl))) (pa_cons (pe_op op_add (pv 2) pe_int) pa_nil)) (by rfl))))
      (pss_one (ps_ret (pv 2))))), ?_⟩
    refine ⟨fun m σ H' => ∃ k : Nat, m = cs.length - k ∧ σ = [some (.ref a), some (.int (d - (cs.take k).sum)), some (.int (k : Int))] ∧ H' = H ∧ k ≤ cs.length ∧ (cs.take k).sum ≤ d,
      ⟨_, 0, rfl, by rw [List.take_zero, List.sum_nil, Int.sub_zero]; rfl, rfl, Nat.zero_le _, by rw [List.take_zero, List.sum_nil]; exact d0⟩, ?_⟩
    rintro m σ H1 ⟨k, rfl, rfl, rfl, kl, ks⟩
    have hk : k < cs.length := by
      rcases Nat.lt_or_ge k cs.length with z | z
      · exact z
      · have : cs.take k = cs := List.take_of_length_le z
        rw [this] at ks
        omega
    have gk : (cs.map V.int)[k]? = some (.int cs[k]) := by
      rw [List.getElem?_map, List.getElem?_eq_getElem hk]
      rfl
    have hc : cs[k]? = some cs[k] := List.getElem?_eq_getElem hk
    refine ⟨_, rfl, .ref a, rfl, .int (k : Int), rfl, a, _, (k : Int), .int cs[k], rfl, rfl, hq, atI_nat gk, d - (cs.take k).sum, cs[k], rfl, rfl, _, rfl, ite2 (fun c => ?_) (fun c => ?_)⟩
    · have ge : cs[k] ≤ d - (cs.take k).sum := of_decide_eq_true c
      refine ⟨fun σ' H' => ∃ k' : Nat, k' = k + 1 ∧ σ' = [some (.ref a), some (.int (d - (cs.take k').sum)), some (.int (k' : Int))] ∧ H' = H1 ∧ (cs.take k').sum ≤ d, ?_, ?_⟩
      · rintro σ' H' ⟨k', rfl, rfl, rfl, z⟩
        exact ⟨cs.length - (k + 1), by omega, k + 1, rfl, rfl, rfl, by omega, z⟩
      · refine ⟨_, rfl, .ref a, rfl, .int (k : Int), rfl, a, _, (k : Int), .int cs[k], rfl, rfl, hq, atI_nat gk, d - (cs.take k).sum, cs[k], rfl, rfl, .int (k : Int), rfl, (k : Int), 1, rfl, rfl, _, _, rfl, k + 1, rfl, ?_, rfl, ?_⟩
        · rw [sum_take_succ hc, show d - ((cs.take k).sum + cs[k]) = d - (cs.take k).sum - cs[k] by omega]
          rfl
        · rw [sum_take_succ hc]
          omega
    · have lt : d - (cs.take k).sum < cs[k] := Int.not_le.mp fun z => c (decide_eq_true z)
      have e : PM.homeN cs d = k := by
        rw [homeN_skip nn kl ks, List.drop_eq_getElem_cons hk]
        show k + (if d - (cs.take k).sum < cs[k] then 0 else _) = k
        rw [if_pos lt]
        rfl
      rw [e] at q
      exact ⟨.int (k : Int), rfl, q⟩
end
/-- the uses of a program: ascending, of declarations whose home encloses the scope -/
def UWf (rs : List PRow) : Prop := ∀ (i : Nat) (r : PRow), rs[i]? = some r → r.2.2.Pairwise (· < ·) ∧ r.2.2.length ≤ 40 ∧ ∀ d ∈ r.2.2, 0 ≤ d ∧ d < (cnts rs).sum ∧ (PM.homeN (cnts rs) d : Int) ∈ PM.W (pars rs) i
def spProg (K : PySem.W.Frag) : Sp := fun vs H Q _ => ∃ (a : Addr) (ms md mu T : Int), vs = [.ref a, .int ms, .int md, .int mu] ∧ HandAt H a T ∧ T ≤ 99000 ∧ 1 ≤ ms ∧ ms ≤ 40 ∧ 0 ≤ md ∧ md ≤ 60 ∧ 0 ≤ mu ∧ mu ≤ 40 ∧
  ∀ (H' : Hp) (v : V) (rs : List PRow), SameX a H H' → HandAt H' a (T + 400) → PWf rs → UWf rs → (rs.length : Int) ≤ ms → (cnts rs).sum ≤ md → Dt K H' (pd rs) v → Q v H'
abbrev progN : List Str := ["_law_hand_here", "_law_most_scopes", "_law_most_declared", "_law_most_uses", "_law_parents", "_law_many", "_law_ways", "_law_at", "_law_counts", "_law_turn", "_law_scope", "_law_uses", "_law_declaration", "_law_nth"]
theorem scProg : FnScope progN ["_law_hand_here", "_law_most_scopes", "_law_most_declared", "_law_most_uses"] (defScope s_law_program) := ⟨rfl, rfl, rfl, by decide +kernel, rfl, by decide +kernel, by decide +kernel⟩
/-- what the generator calls -/
structure TxtG (K : PySem.W.Frag) (mg : Str → Option Value) (fT fP fH fO : Addr) (fdT fdP fdH fdO : FuncData) : Prop where
  FT : FnP K "_law_take" s_law_take fT fdT
  FP : FnP K "_law_pick" s_law_pick fP fdP
  FH : FnP K "_law_home" s_law_home fH fdH
  FO : FnP K "_law_outward" s_law_outward fO fdO
  gT : mg "_law_take" = some (.ref fT)
  gP : mg "_law_pick" = some (.ref fP)
  gH : mg "_law_home" = some (.ref fH)
  gO : mg "_law_outward" = some (.ref fO)
  ml : mg "len" = none
  mr : mg "range" = none
  mi : mg "int" = none
  mu : mg "sum" = none
  mt : mg "tuple" = none
  md : mg "sorted" = none
theorem SameX.after {a : Addr} {H H1 H2 : Hp} {p : Addr} {o : HO} (h : SameX a H H1) (n : H p = none) (e : H2 = L2.upd H1 p o) : SameX a H H2 := fun b u nb z => by
  subst e
  rw [upd_ne (ne_of_none z n)]
  exact h b u nb z
theorem HandAt.upd {H : Hp} {a p : Addr} {T : Int} {o : HO} (h : HandAt H a T) (n : a ≠ p) : HandAt (L2.upd H p o) a T := by
  obtain ⟨L, e, h⟩ := h
  exact ⟨L, by rw [upd_ne n]; exact e, h⟩
theorem HandAt.same {H H' : Hp} {a : Addr} {T : Int} (h : HandAt H a T) (s : Same H H') : HandAt H' a T := by
  obtain ⟨L, e, h⟩ := h
  exact ⟨L, s _ _ e, h⟩
theorem HandAt.ne {H : Hp} {a p : Addr} {T : Int} (h : HandAt H a T) (n : H p = none) : p ≠ a := fun z => by
  obtain ⟨L, e, _⟩ := h
  rw [z, e] at n
  cases n
theorem rep_zero (n : Nat) : (List.replicate n [V.int 0]).flatten = (List.replicate n (0 : Int)).map V.int := by
  rw [List.flatten_replicate_singleton, List.map_replicate]
theorem sum_rep (n : Nat) : (List.replicate n (0 : Int)).sum = 0 := by
  induction n with
  | zero => rfl
  | succ n ih => rw [List.replicate_succ, List.sum_cons, ih]; rfl
theorem sum_set1 {l : List Int} {j : Nat} {z : Int} (h : l[j]? = some z) : (l.set j (z + 1)).sum = l.sum + 1 := by
  rw [L2.sum_set h]
  omega
theorem sqT_keep {K : PySem.W.Frag} {H H' : Hp} {D b : Addr} {xs ys : List V} (hD : H D = some (.lst ys)) (sx : SameX D H H') (q : SqT K H b xs) : SqT K H' b xs := by
  rcases q with q | q
  · rcases q with q | ⟨o, q⟩
    · exact .inl (.inl (sx _ _ (fun z => by rw [z, hD] at q; cases q) q))
    · exact .inl (.inr ⟨o, sx _ _ (fun z => by rw [z, hD] at q; cases q) q⟩)
  · exact .inr q
theorem ints_any {K : PySem.W.Frag} {H H' : Hp} : ∀ (l : List Int) (xs : List V), Dts K H (l.map PyData.int) xs → Dts K H' (l.map PyData.int) xs
  | [], _, h => by
    rw [List.map_nil] at h ⊢
    unfold Dts at h ⊢
    exact h
  | i :: l, xs, h => by
    rw [List.map_cons] at h ⊢
    unfold Dts Dt at h ⊢
    obtain ⟨x, r, e, h1, h2⟩ := h
    exact ⟨x, r, e, h1, ints_any l r h2⟩
theorem rows_keep {K : PySem.W.Frag} {H H' : Hp} {D : Addr} {ys : List V} (hD : H D = some (.lst ys)) (sx : SameX D H H') : ∀ (rs : List PRow) (xs : List V), Dts K H (rs.map rowD) xs → Dts K H' (rs.map rowD) xs
  | [], _, h => by
    rw [List.map_nil] at h ⊢
    unfold Dts at h ⊢
    exact h
  | r :: rs, xs, h => by
    rw [List.map_cons] at h ⊢
    unfold Dts at h ⊢
    obtain ⟨x, rest, e, h1, h2⟩ := h
    refine ⟨x, rest, e, ?_, rows_keep hD sx rs rest h2⟩
    simp only [rowD, Dt, Dts] at h1 ⊢
    obtain ⟨b, zs, e1, q1, x1, r1, e2, e3, x2, r2, e4, e5, x3, r3, e6, ⟨b2, zs2, e7, q2, d2⟩, e8⟩ := h1
    exact ⟨b, zs, e1, sqT_keep hD sx q1, x1, r1, e2, e3, x2, r2, e4, e5, x3, r3, e6, ⟨b2, zs2, e7, sqT_keep hD sx q2, ints_any _ _ d2⟩, e8⟩
theorem dts_snoc {K : PySem.W.Frag} {H : Hp} {d : PyData} {x : V} (hd : Dt K H d x) : ∀ (ds : List PyData) (xs : List V), Dts K H ds xs → Dts K H (ds ++ [d]) (xs ++ [x])
  | [], xs, h => by
    unfold Dts at h
    subst h
    show Dts K H [d] [x]
    unfold Dts Dts
    exact ⟨x, [], rfl, hd, rfl⟩
  | e :: ds, xs, h => by
    unfold Dts at h
    obtain ⟨y, r, e1, h1, h2⟩ := h
    subst e1
    show Dts K H (e :: (ds ++ [d])) (y :: (r ++ [x]))
    unfold Dts
    exact ⟨y, _, rfl, h1, dts_snoc hd ds r h2⟩
theorem map_is {α : Type} {f : PRow → α} {rs : List PRow} {l : List α} (hl : rs.length = l.length) (h : ∀ (i : Nat) (r : PRow), rs[i]? = some r → l[i]? = some (f r)) : rs.map f = l := by
  refine List.ext_getElem? fun i => ?_
  rw [List.getElem?_map]
  cases z : rs[i]? with
  | none =>
    have : rs.length ≤ i := List.getElem?_eq_none_iff.mp z
    rw [List.getElem?_eq_none (by omega)]
    rfl
  | some r => rw [h i r z]; rfl
theorem strict : ∀ {l : List Int}, l.Pairwise (· ≤ ·) → l.Nodup → l.Pairwise (· < ·)
  | [], _, _ => .nil
  | x :: l, h, n => by
    obtain ⟨h1, h2⟩ := List.pairwise_cons.mp h
    obtain ⟨n1, n2⟩ := List.nodup_cons.mp n
    refine List.pairwise_cons.mpr ⟨fun y hy => ?_, strict h2 n2⟩
    have a := h1 y hy
    have b : x ≠ y := fun e => n1 (e ▸ hy)
    omega
section
variable {P : Program} {w : World} {K : PySem.W.Frag} {mg : Str → Option Value} {base : Heap}
/-- the rows' reading -/
abbrev tRowE (K : PySem.W.Frag) : TE := tTup (tCons (tOp (rIxL K) (tVar 4) (tVar 13)) (tCons (tOp (rIxL K) (tVar 8) (tVar 13))
  (tCons (tCB (fun xs H Q => ∃ p ys, xs = [.ref p] ∧ ((SqL K H p ys ∧ ∀ l, H l = none → Q (.ref l) (upd H l (.tup ys))) ∨ (SqT K H p ys ∧ Q (.ref p) H))) (tCons (tCB (rSorted K) (tCons (tOp (rIxL K) (tVar 11) (tVar 13)) tNil)) tNil)) tNil)))
theorem ok_prog {f fT fP fH fO : Addr} {fd fdT fdP fdH fdO : FuncData} (T : TxtG K mg fT fP fH fO fdT fdP fdH fdO) (F : FnP K "_law_program" s_law_program f fd) :
    FnOk P w K mg base CX0 3 f fd ["_law_hand_here", "_law_most_scopes", "_law_most_declared", "_law_most_uses"] (spProg K) := by
  have GT : FnOk P w K mg base CX0 1 fT fdT ["_law_hand_here", "_law_many"] spTake := ok_take T.FT
  have GP : FnOk P w K mg base CX0 2 fP fdP ["_law_hand_here", "_law_items"] (spPick K) := ok_pick T.FP T.FT T.gT T.ml
  have GH : FnOk P w K mg base CX0 1 fH fdH ["_law_counts", "_law_declaration"] (spLHome K) := ok_lhome T.FH
  have GO : FnOk P w K mg base CX0 1 fO fdO ["_law_parents", "_law_scope"] (spOut K) := ok_out T.FO
  have bT : Binds K fdT ["_law_hand_here", "_law_many"] [] := T.FT.bindsN fun _ _ _ _ _ _ us hl => match us, hl with | [_, _], _ => rfl
  have bP : Binds K fdP ["_law_hand_here", "_law_items"] [] := T.FP.bindsN fun _ _ _ _ _ _ us hl => match us, hl with | [_, _], _ => rfl
  have bH : Binds K fdH ["_law_counts", "_law_declaration"] [] := T.FH.bindsN fun _ _ _ _ _ _ us hl => match us, hl with | [_, _], _ => rfl
  have bO : Binds K fdO ["_law_parents", "_law_scope"] [] := T.FO.bindsN fun _ _ _ _ _ _ us hl => match us, hl with | [_, _], _ => rfl
  refine F.ok scProg (fun vs H Q E h => ?_) (fun cdv A outer s H vs Q E hr h => ?_)
  · obtain ⟨a, ms, md, mu, T0, rfl, _⟩ := h
    rfl
  · obtain ⟨a, ms, md, mu, T0, rfl, hA, hT, ms0, ms1, md0, md1, mu0, mu1, q⟩ := h
    have nd := scProg.nd
    have hr1 : Room 1 _ := hr.mono (by decide)
    have hr2 : Room 2 _ := hr.mono (by decide)
    refine ⟨_, PSs.nox (pss_cons (ps_asg (pe_tup (pa_cons (pe_lst (pa_cons (pe_un un_neg pe_int) pa_nil)) (pa_cons (pe_op op_add pe_int (pe_call GT hr1 (by rfl) T.gT T.FT.kp bT .nil pass0 (pa_cons (pv 0) (pa_cons (pv 1) pa_nil)))) pa_nil))) (pg_tup rfl (pgs_cons (pg_name (i := 4) nd rfl (.inr rfl)) (pgs_cons (pg_name (i := 5) nd rfl (.inl rfl)) pgs_nil))))
      (pss_cons (ps_while PassesOwn.never (pt_cmpR op_lt (pe_callB call_len_seq (by rfl) T.ml PySem.boot_len (pa_cons (pv 4) pa_nil)) (pv 5) (nomark _)) (pss_cons (ps_par (i := 6) (j := 7) (by rfl) nd rfl rfl (by decide) rfl rfl (pa_cons (pe_lst pa_nil) (pa_cons (pe_op op_sub (pe_callB call_len_seq (by rfl) T.ml PySem.boot_len (pa_cons (pv 4) pa_nil)) pe_int) pa_nil)) (by rfl))
      (pss_cons (ps_while PassesOwn.never (pt_cmpR op_ge (pv 7) pe_int (nomark _)) (pss_cons (ps_expr (pe_bm PySem.F.plainAttrs_list PySem.F.slot_list_append PySem.F.type_list_append mt_append (pv 6) (pa_cons (pv 7) pa_nil)))
      (pss_one (ps_set (i := 7) nd rfl (.inl rfl) (pe_ix ix_list (pv 4) (pv 7) (fun _ _ => rfl))))))
      (pss_one (ps_expr (pe_bm PySem.F.plainAttrs_list PySem.F.slot_list_append PySem.F.type_list_append mt_append (pv 4) (pa_cons (pe_call GP hr2 (by rfl) T.gP T.FP.kp bP .nil pass0 (pa_cons (pv 0) (pa_cons (pe_lst (pa_cons (pe_ix ix_list (pv 6) pe_int (fun _ _ => rfl)) (pa_cons (pe_call GP hr2 (by rfl) T.gP T.FP.kp bP .nil pass0 (pa_cons (pv 0) (pa_cons (pv 6) pa_nil))) pa_nil))) pa_nil))) pa_nil)))))))
      (pss_cons (ps_set (i := 8) nd rfl (.inr rfl) (pe_op op_rep (pe_lst (pa_cons pe_int pa_nil)) (pv 5)))
      (pss_cons (ps_for PassesOwn.never rfl (pi_range1 (by rfl) T.mr (pa_cons (pe_call GT hr1 (by rfl) T.gT T.FT.kp bT .nil pass0 (pa_cons (pv 0) (pa_cons (pe_op op_add (pv 2) pe_int) pa_nil))) pa_nil)) (pg_name (i := 9) nd rfl (.inl rfl)) (pss_cons (ps_set (i := 10) nd rfl (.inl rfl) (pe_call GT hr1 (by rfl) T.gT T.FT.kp bT .nil pass0 (pa_cons (pv 0) (pa_cons (pv 5) pa_nil))))
      (pss_one (ps_asg (pe_op op_add (pe_ix ix_list (pv 8) (pv 10) (fun _ _ => rfl)) pe_int) (pg_sub (pv 8) (pv 10) set_list)))))
      (pss_cons (ps_set (i := 11) nd rfl (.inr rfl) (pe_lc (own := [("_law_scope", 10)]) (g := gName 10) (tt := tYes) (te := tLst tNil) rfl nd (pi_list (pv 4)) (blkOk_by (N := progN) (sc := defScope s_law_program) (by decide +kernel)) (fun _ _ _ _ _ => pg_name (i := 10) nd rfl (Or.inl rfl)) (fun _ _ _ _ _ => pts_nil) (fun _ _ _ _ _ => (pe_lst pa_nil))))
      (pss_cons (ps_for PassesOwn.never rfl (pi_range1 (by rfl) T.mr (pa_cons (pe_op op_mul (pe_call GT hr1 (by rfl) T.gT T.FT.kp bT .nil pass0 (pa_cons (pv 0) (pa_cons (pe_op op_add (pv 3) pe_int) pa_nil))) (pe_callTy call_int1 (by rfl) T.mi (by decide +kernel) (pa_cons (pe_cmpR op_gt (pe_callB (cr_sum rfl) (by rfl) T.mu (by decide +kernel) (pa_cons (pv 8) pa_nil)) pe_int (nomark _)) pa_nil))) pa_nil)) (pg_name (i := 9) nd rfl (.inl rfl)) (pss_cons (ps_par (i := 12) (j := 10) (by rfl) nd rfl rfl (by decide) rfl rfl (pa_cons (pe_call GT hr1 (by rfl) T.gT T.FT.kp bT .nil pass0 (pa_cons (pv 0) (pa_cons (pe_callB (cr_sum rfl) (by rfl) T.mu (by decide +kernel) (pa_cons (pv 8) pa_nil)) pa_nil))) (pa_cons (pe_call GT hr1 (by rfl) T.gT T.FT.kp bT .nil pass0 (pa_cons (pv 0) (pa_cons (pv 5) pa_nil))) pa_nil)) (by rfl))
      (pss_one (ps_if (PW.pt (pw_and (pt_cmpR op_in_seq (pe_call GH hr1 (by rfl) T.gH T.FH.kp bH .nil pass0 (pa_cons (pv 8) (pa_cons (pv 12) pa_nil))) (pe_call GO hr1 (by rfl) T.gO T.FO.kp bO .nil pass0 (pa_cons (pv 4) (pa_cons (pv 10) pa_nil))) (by rfl)) (pw_and1 (pt_cmpR op_notIn_seq (pv 12) (pe_ix ix_list (pv 11) (pv 10) (fun _ _ => rfl)) (by rfl))))) (pss_one (ps_expr (pe_bm PySem.F.plainAttrs_list PySem.F.slot_list_append PySem.F.type_list_append mt_append (pe_ix ix_list (pv 11) (pv 10) (fun _ _ => rfl)) (pa_cons (pv 12) pa_nil)))) pss_nil))))
      (pss_one (ps_ret (pe_callTy call_tuple_of (by rfl) T.mt (by decide +kernel) (pa_cons (pe_lc (own := [("_law_nth", 13)]) (g := gName 13) (tt := tYes) (te := tRowE K) rfl nd (pi_range1 (by rfl) T.mr (pa_cons (pv 5) pa_nil)) (blkOk_by (N := progN) (sc := defScope s_law_program) (by decide +kernel)) (fun _ _ _ _ _ => pg_name (i := 13) nd rfl (Or.inl rfl)) (fun _ _ _ _ _ => pts_nil) (fun _ _ _ _ _ => (pe_tup (pa_cons (pe_ix ix_list (pv 4) (pv 13) (fun _ _ => rfl)) (pa_cons (pe_ix ix_list (pv 8) (pv 13) (fun _ _ => rfl)) (pa_cons (pe_callTy call_tuple_of (by rfl) T.mt (by decide +kernel) (pa_cons (pe_callB cr_sorted (by rfl) T.md (by decide +kernel) (pa_cons (pe_ix ix_list (pv 11) (pv 13) (fun _ _ => rfl)) pa_nil)) pa_nil)) pa_nil)))))) pa_nil)))))))))), ?_⟩
    have nal : ∀ {p : Addr} {G : Hp} {T : Int}, HandAt G a T → G p = none → a ≠ p := fun h n z => h.ne n z.symm
    refine ⟨1, rfl, (by show 1 ≤ sizeLine; decide), fun pl npl => ?_⟩
    have apl : a ≠ pl := nal hA npl
    refine ⟨.ref a, rfl, .int ms, rfl, a, ms, T0, rfl, hA.upd apl, by omega, by omega, by omega, fun H1 d sx1 hA1 d0 d1 => ?_⟩
    refine ⟨1, d, rfl, rfl, (by show 2 ≤ sizeLine; decide), fun tp ntp => ?_⟩
    refine ⟨tp, _, rfl, .of upd_same, rfl, _, _, rfl, _, _, rfl, rfl, ?_⟩
    have P1 : H1 pl = some (.lst [V.int (-1)]) := sx1 _ _ (Ne.symm apl) upd_same
    have X2 : SameX a H (L2.upd H1 tp (.tup [V.ref pl, V.int (1 + d)])) := fun b o nb z => by
      have z1 : H1 b = some o := sx1 _ _ nb (by rw [upd_ne (ne_of_none z npl)]; exact z)
      rw [upd_ne (ne_of_none z1 ntp)]
      exact z1
    have A2 : HandAt (L2.upd H1 tp (.tup [V.ref pl, V.int (1 + d)])) a (T0 + 1) := hA1.upd (nal hA1 ntp)
    have P2 : L2.upd H1 tp (.tup [V.ref pl, V.int (1 + d)]) pl = some (.lst [V.int (-1)]) := by
      rw [upd_ne (ne_of_none P1 ntp)]
      exact P1
    generalize L2.upd H1 tp (.tup [V.ref pl, V.int (1 + d)]) = H2 at X2 A2 P2 ⊢
    refine ⟨fun m σ H' => ∃ (ps : List Int) (y6 y7 : Option V), m = (1 + d).toNat - ps.length ∧ σ = [some (.ref a), some (.int ms), some (.int md), some (.int mu), some (.ref pl), some (.int (1 + d)), y6, y7, none, none, none, none, none, none] ∧
      SameX a H H' ∧ HandAt H' a (T0 + 1 + 2 * ((ps.length : Int) - 1)) ∧ H' pl = some (.lst (ps.map V.int)) ∧ PM.Pre ps ∧ (ps.length : Int) ≤ 1 + d,
      ⟨_, [-1], none, none, rfl, rfl, X2, A2.mono (by show T0 + 1 ≤ T0 + 1 + 2 * ((1 : Int) - 1); omega), P2, PM.Pre.one, by show (1 : Int) ≤ 1 + d; omega⟩, ?_⟩
    rintro m σ H3 ⟨ps, y6, y7, rfl, rfl, X3, A3, P3, pre, pl3⟩
    have ppos := pre.pos
    refine ⟨.ref pl, rfl, pl, _, rfl, .inl (.of P3), .int (1 + d), rfl, _, _, rfl, rfl, _, rfl, ite2 (fun c => ?_) (fun c => ?_)⟩
    · have c' : (((ps.map V.int).length : Nat) : Int) < 1 + d := of_decide_eq_true c
      rw [List.length_map] at c'
      refine ⟨fun σ' H' => ∃ (ps' : List Int) (y6 y7 : Option V), ps'.length = ps.length + 1 ∧ σ' = [some (.ref a), some (.int ms), some (.int md), some (.int mu), some (.ref pl), some (.int (1 + d)), y6, y7, none, none, none, none, none, none] ∧
        SameX a H H' ∧ HandAt H' a (T0 + 1 + 2 * ((ps'.length : Int) - 1)) ∧ H' pl = some (.lst (ps'.map V.int)) ∧ PM.Pre ps', ?_, ?_⟩
      · rintro σ' H' ⟨ps', z6, z7, hl', rfl, X', A', P', pre'⟩
        exact ⟨(1 + d).toNat - ps'.length, by omega, ps', z6, z7, rfl, rfl, X', A', P', pre', by omega⟩
      · refine ⟨Nat.zero_le _, fun wl nwl => ?_⟩
        have plw : pl ≠ wl := ne_of_none P3 nwl
        have aw : a ≠ wl := nal A3 nwl
        have at4 : ∀ o : HO, L2.upd H3 wl o pl = some (.lst (ps.map V.int)) := fun o => by
          rw [upd_ne plw]
          exact P3
        refine ⟨.ref pl, rfl, pl, _, rfl, .inl (.of (at4 _)), _, 1, rfl, rfl, _, _, rfl, ?_⟩
        rw [List.length_map]
        have lst0 : ((ps.length : Int) - 1) < ps.length := by omega
        refine ⟨fun m σ H' => ∃ (acc : List Int) (x : Int), m = (x + 1).toNat ∧ σ = [some (.ref a), some (.int ms), some (.int md), some (.int mu), some (.ref pl), some (.int (1 + d)), some (.ref wl), some (.int x), none, none, none, none, none, none] ∧
          H' = L2.upd H3 wl (.lst (acc.map V.int)) ∧ PM.W ps ((ps.length : Int) - 1) = acc ++ PM.W ps x ∧ x < ps.length, ⟨_, [], (ps.length : Int) - 1, rfl, rfl, rfl, rfl, lst0⟩, ?_⟩
        rintro m σ H4 ⟨acc, x, rfl, rfl, rfl, ew, x1⟩
        refine ⟨.int x, rfl, x, 0, rfl, rfl, _, rfl, ite2 (fun cx => ?_) (fun cx => ?_)⟩
        · have x0 : 0 ≤ x := of_decide_eq_true cx
          have st := PM.W_step pre.low x0 x1
          have lp := PM.low_par pre.low x0 x1
          have wlen := W_len_le pre.low _ lst0
          have al : acc.length < 1000 := by
            have := congrArg List.length ew
            rw [List.length_append] at this
            omega
          refine ⟨fun σ' H' => ∃ (acc' : List Int) (y : Int), y < x ∧ σ' = [some (.ref a), some (.int ms), some (.int md), some (.int mu), some (.ref pl), some (.int (1 + d)), some (.ref wl), some (.int y), none, none, none, none, none, none] ∧
            H' = L2.upd H3 wl (.lst (acc'.map V.int)) ∧ PM.W ps ((ps.length : Int) - 1) = acc' ++ PM.W ps y ∧ y < ps.length, ?_, ?_⟩
          · rintro σ' H' ⟨acc', y, hy, rfl, rfl, w', y1⟩
            exact ⟨(y + 1).toNat, by omega, acc', y, rfl, rfl, rfl, w', y1⟩
          · refine ⟨.ref wl, rfl, .inl ⟨rfl, _, .of upd_same⟩, .int x, rfl, wl, _, _, rfl, rfl, upd_same, by rw [List.length_map]; exact small1000 (by omega), ?_⟩
            rw [upd_upd]
            refine ⟨.ref pl, rfl, .int x, rfl, pl, _, x, .int (ps.getD x.toNat (-1)), rfl, rfl, .of (at4 _), ?_, ?_⟩
            · have e : x = ((x.toNat : Nat) : Int) := by omega
              have pz := PM.par_of x0 x1
              rw [e]
              exact atI_nat (by rw [List.getElem?_map, show ((x.toNat : Nat) : Int).toNat = x.toNat by omega, pz]; rfl)
            · refine ⟨acc ++ [x], ps.getD x.toNat (-1), by omega, rfl, ?_, ?_, by omega⟩
              · rw [List.map_append]
                rfl
              · rw [ew, st, List.append_assoc]
                rfl
        · have xn : x < 0 := Int.not_le.mp fun z => cx (decide_eq_true z)
          rw [PM.W_neg ps xn, List.append_nil] at ew
          subst ew
          have st := PM.W_step pre.low (a := (ps.length : Int) - 1) (by omega) lst0
          have wlen := W_len_le pre.low _ lst0
          have A5 : HandAt (L2.upd H3 wl (.lst ((PM.W ps ((ps.length : Int) - 1)).map V.int))) a (T0 + 1 + 2 * ((ps.length : Int) - 1)) := A3.upd aw
          refine ⟨.ref pl, rfl, .inl ⟨rfl, _, .of (at4 _)⟩, .ref a, rfl, .ref wl, rfl, wl, _, 0, .int ((ps.length : Int) - 1), rfl, rfl, .of upd_same, ?_, ?_⟩
          · rw [st]
            exact atI_nat (j := 0) rfl
          refine ⟨.ref a, rfl, .ref wl, rfl, a, wl, _, _, rfl, A5, by omega, .of upd_same, ?_, ?_, Ne.symm aw, fun H6 xv sx6 A6 hx6 => ?_⟩
          · rw [st]
            exact fun z => nomatch z
          · rw [List.length_map]
            omega
          refine ⟨by show 2 ≤ sizeLine; decide, fun l2 n2 => ?_⟩
          have al2 : a ≠ l2 := nal A6 n2
          refine ⟨a, l2, _, _, rfl, A6.upd al2, by omega, .of upd_same, (fun z => nomatch z), (by show 2 < 1073741824; decide), Ne.symm al2, fun H7 yv sx7 A7 hy7 => ?_⟩
          obtain ⟨y, rfl, hy⟩ : ∃ y : Int, yv = .int y ∧ y ∈ PM.W ps ((ps.length : Int) - 1) := by
            rcases List.mem_cons.mp hy7 with e | e
            · refine ⟨(ps.length : Int) - 1, e, ?_⟩
              rw [st]
              exact List.mem_cons_self
            · have e : yv = xv := List.mem_singleton.mp e
              subst e
              obtain ⟨y, hy, e⟩ := List.mem_map.mp hx6
              exact ⟨y, e.symm, hy⟩
          have P6 : H6 pl = some (.lst (ps.map V.int)) := sx6 _ _ (Ne.symm apl) (at4 _)
          have P7 : H7 pl = some (.lst (ps.map V.int)) := sx7 _ _ (Ne.symm apl) (by rw [upd_ne (ne_of_none P6 n2)]; exact P6)
          refine ⟨pl, _, _, rfl, rfl, P7, by rw [List.length_map]; exact small1000 (by omega), ?_⟩
          refine ⟨ps ++ [y], _, _, by rw [List.length_append]; rfl, rfl, fun b o nb z => ?_, ?_, ?_, pre.snoc hy⟩
          · have z3 := X3 _ _ nb z
            have z6 := sx6 b o nb (by rw [upd_ne (ne_of_none z3 nwl)]; exact z3)
            have z7 := sx7 b o nb (by rw [upd_ne (ne_of_none z6 n2)]; exact z6)
            rw [upd_ne (ne_of_none z npl)]
            exact z7
          · rw [List.length_append, List.length_singleton]
            exact (A7.upd apl).mono (by omega)
          · rw [upd_same, List.map_append]
            rfl
    · have cn : ¬ ((((ps.map V.int).length : Nat) : Int) < 1 + d) := fun z => c (decide_eq_true z)
      rw [List.length_map] at cn
      have pn : (ps.length : Int) = 1 + d := by omega
      have fresh : ∀ {p : Addr} {G : Hp} {T : Int}, SameX a H G → HandAt G a T → G p = none → H p = none := fun {p G T} X A n => by
        cases z : H p with
        | none => rfl
        | some o =>
          by_cases e : p = a
          · exact absurd e (A.ne n)
          · rw [X p o e z] at n
            cases n
      refine ⟨by show 1 ≤ sizeLine; decide, fun l0 nl0 => ?_⟩
      refine ⟨.int (1 + d), rfl, l0, 1 + d, [V.int 0], rfl, rfl, upd_same, by omega, by omega, ?_, fun cl ncl => ?_⟩
      · show 1 * (1 + d).toNat ≤ sizeLine
        exact Nat.le_of_lt (small1000 (by omega))
      rw [show (1 + d).toNat = ps.length by omega, rep_zero]
      have s34 := (same_new (H := H3) (o := .lst [V.int 0]) nl0).trans (same_new (o := .lst ((List.replicate ps.length (0 : Int)).map V.int)) ncl)
      have Hcl : H3 cl = none := (same_new (H := H3) (o := .lst [V.int 0]) nl0).free ncl
      have cln : H cl = none := fresh X3 A3 Hcl
      have plc : pl ≠ cl := ne_of_none P3 Hcl
      have acl : a ≠ cl := nal A3 Hcl
      have X4 : SameX a H _ := X3.trans (.of s34)
      have A4 : HandAt _ a (T0 + 80) := (A3.same s34).mono (by omega)
      have P4 := s34 _ _ P3
      have C4 := upd_same (H := L2.upd H3 l0 (.lst [V.int 0])) (a := cl) (o := .lst ((List.replicate ps.length (0 : Int)).map V.int))
      generalize L2.upd (L2.upd H3 l0 (.lst [V.int 0])) cl (.lst ((List.replicate ps.length (0 : Int)).map V.int)) = H4 at X4 A4 P4 C4 ⊢
      clear s34
      refine ⟨.ref a, rfl, .int md, rfl, md, 1, rfl, rfl, a, md + 1, T0 + 80, rfl, A4, by omega, by omega, by omega, fun H5 k sx5 A5 k0 k1 => ?_⟩
      refine ⟨k, rfl, by omega, by omega, ?_⟩
      refine for_range (lo := 0) (fun i σ H' => ∃ (cs : List Int) (y9 y10 : Option V), σ = [some (.ref a), some (.int ms), some (.int md), some (.int mu), some (.ref pl), some (.int (1 + d)), y6, y7, some (.ref cl), y9, y10, none, none, none] ∧
        SameX a H H' ∧ HandAt H' a (T0 + 81 + i) ∧ H' pl = some (.lst (ps.map V.int)) ∧ H' cl = some (.lst (cs.map V.int)) ∧ cs.length = ps.length ∧ (∀ c ∈ cs, 0 ≤ c) ∧ cs.sum = i)
        ⟨List.replicate ps.length 0, none, none, rfl, X4.trans sx5, A5.mono (by omega), sx5 _ _ (Ne.symm apl) P4, sx5 _ _ (Ne.symm acl) C4, List.length_replicate, fun c hc => by rw [(List.mem_replicate.mp hc).2]; omega, by rw [sum_rep]; rfl⟩ ?_ ?_
      · rintro i σ G hi ⟨cs, y9, y10, rfl, XG, AG, PG, CG, csl, csn, css⟩
        refine ⟨.ref a, rfl, .int (1 + d), rfl, a, 1 + d, _, rfl, AG, by omega, by omega, by omega, fun H6 sc sx6 A6 s0 s1 => ?_⟩
        obtain ⟨j, rfl⟩ : ∃ j : Nat, sc = (j : Int) := ⟨sc.toNat, by omega⟩
        have hj : j < cs.length := by omega
        have gj : cs[j]? = some cs[j] := List.getElem?_eq_getElem hj
        have C6 := sx6 _ _ (Ne.symm acl) CG
        have P6 := sx6 _ _ (Ne.symm apl) PG
        refine ⟨.ref cl, rfl, .int (j : Int), rfl, cl, _, (j : Int), .int cs[j], rfl, rfl, .of C6, atI_nat (by rw [List.getElem?_map, gj]; rfl), _, 1, rfl, rfl, ?_⟩
        refine ⟨.ref cl, rfl, .int (j : Int), rfl, cl, _, (j : Int), j, rfl, rfl, C6, ?_, ?_⟩
        · unfold ixN
          rw [if_pos (by omega), if_pos (by rw [List.length_map]; omega)]
          rfl
        · refine ⟨cs.set j (cs[j] + 1), _, _, rfl, fun b o nb z => ?_, (A6.upd acl).mono (by omega), ?_, ?_, by rw [List.length_set]; exact csl, fun c hc => ?_, ?_⟩
          · rw [upd_ne (ne_of_none z cln)]
            exact sx6 _ _ nb (XG _ _ nb z)
          · rw [upd_ne plc]
            exact P6
          · rw [upd_same, List.map_set]
          · rcases List.mem_or_eq_of_mem_set hc with z | z
            · exact csn c z
            · have := csn _ (List.getElem_mem hj)
              omega
          · rw [sum_set1 gj, css]
            omega
      · rintro σ G ⟨cs, y9, y10, rfl, XG, AG, PG, CG, csl, csn, css⟩
        have ksum : cs.sum ≤ md := by omega
        refine ⟨.ref pl, rfl, pl, rfl, ⟨_, .of PG⟩, fun D nD => ?_⟩
        refine lc_list (K := K) (a := pl) (xs := ps.map V.int) (fun j H' => ∃ as : List Addr, Same G H' ∧ H' D = some (.lst (as.map V.ref)) ∧ as.length = j ∧ as.Nodup ∧ ∀ u ∈ as, H' u = some (.lst []) ∧ G u = none ∧ u ≠ D)
          ⟨[], same_new nD, upd_same, rfl, List.nodup_nil, fun u hu => nomatch hu⟩ (fun j H' _ ⟨_, s', _⟩ => .of (s' _ _ PG)) ?_ ?_
        · rintro j x H' hx ⟨as, S', eD, hl', hnd, hu'⟩
          have hjl : j < ps.length := by
            have := (List.getElem?_eq_some_iff.mp hx).1
            rw [List.length_map] at this
            exact this
          refine ⟨rfl, Nat.zero_le _, fun u nu => ?_⟩
          have uD : u ≠ D := fun z => by
            rw [z, eD] at nu
            cases nu
          have gu : G u = none := S'.free nu
          refine ⟨as.map V.ref, by rw [upd_ne (Ne.symm uD)]; exact eD, by rw [List.length_map]; exact small1000 (by omega), as ++ [u], fun b o z => ?_, ?_, by rw [List.length_append, hl']; rfl, ?_, fun y hy => ?_⟩
          · rw [upd_ne (ne_of_none z nD), upd_ne (ne_of_none z gu)]
            exact S' _ _ z
          · rw [upd_same, List.map_append]
            rfl
          · refine List.nodup_append.mpr ⟨hnd, (by simp), fun y hy z hz e => ?_⟩
            rw [List.mem_singleton.mp hz] at e
            have := (hu' y hy).1
            rw [e, nu] at this
            cases this
          · rcases List.mem_append.mp hy with hy | hy
            · obtain ⟨h1, h2, h3⟩ := hu' y hy
              refine ⟨?_, h2, h3⟩
              rw [upd_ne h3, upd_ne (ne_of_none h1 nu)]
              exact h1
            · rw [List.mem_singleton.mp hy]
              refine ⟨?_, gu, uD⟩
              rw [upd_ne uD, upd_same]
        · rintro G2 ⟨as, S2, eD, hl2, hnd, hu2⟩
          rw [List.length_map] at hl2
          have aG : ∀ {u}, u ∈ as → a ≠ u := fun {u} hu => nal AG (hu2 u hu).2.1
          have fG : ∀ {u}, u ∈ as → H u = none := fun {u} hu => fresh XG AG (hu2 u hu).2.1
          have nDH : H D = none := fresh XG AG nD
          have aD : a ≠ D := nal AG nD
          have pu : ∀ {u}, u ∈ as → u ≠ pl := fun {u} hu z => by
            have := (hu2 u hu).2.1
            rw [z, PG] at this
            cases this
          have cu : ∀ {u}, u ∈ as → u ≠ cl := fun {u} hu z => by
            have := (hu2 u hu).2.1
            rw [z, CG] at this
            cases this
          have X5 : SameX a H G2 := XG.trans (.of S2)
          have A5' : HandAt G2 a (T0 + 141) := (AG.same S2).mono (by omega)
          have P5 : G2 pl = some (.lst (ps.map V.int)) := S2 _ _ PG
          have C5 : G2 cl = some (.lst (cs.map V.int)) := S2 _ _ CG
          have Dpl : D ≠ pl := fun z => by
            rw [z, PG] at nD
            cases nD
          have Dcl : D ≠ cl := fun z => by
            rw [z, CG] at nD
            cases nD
          refine ⟨.ref a, rfl, .int mu, rfl, mu, 1, rfl, rfl, a, mu + 1, T0 + 141, rfl, A5', by omega, by omega, by omega, fun H6 t sx6 A6 t0 t1 => ?_⟩
          have C6 := sx6 _ _ (Ne.symm acl) C5
          refine ⟨.ref cl, rfl, cl, cs, rfl, .of C6, cs.sum, 0, rfl, rfl, .inr ⟨_, rfl, t, _, rfl, rfl, .inl ⟨by omega, by omega⟩, _, rfl, ?_, ?_, ?_⟩⟩
          · have := bit_nn (decide (0 < cs.sum))
            have := Int.mul_nonneg t0 this
            omega
          · have b01 : (if decide (0 < cs.sum) = true then (1 : Int) else 0) = 0 ∨ (if decide (0 < cs.sum) = true then (1 : Int) else 0) = 1 := by
              by_cases z : decide (0 < cs.sum) = true
              · rw [if_pos z]
                exact .inr rfl
              · rw [if_neg z]
                exact .inl rfl
            rcases b01 with z | z
            · rw [z]
              omega
            · rw [z]
              omega
          have turns : ∀ i : Nat, i < (t * (if decide (0 < cs.sum) = true then (1 : Int) else 0)).toNat → 0 < cs.sum ∧ i < 40 := fun i hi => by
            by_cases z : decide (0 < cs.sum) = true
            · rw [if_pos z, Int.mul_one] at hi
              exact ⟨of_decide_eq_true z, by omega⟩
            · rw [if_neg z, Int.mul_zero] at hi
              exact absurd hi (Nat.not_lt_zero _)
          refine for_range (lo := 0) (fun i σ H' => ∃ (us : List (List Int)) (y9 y10 y12 : Option V), σ = [some (.ref a), some (.int ms), some (.int md), some (.int mu), some (.ref pl), some (.int (1 + d)), y6, y7, some (.ref cl), y9, y10, some (.ref D), y12, none] ∧
            SameX a H H' ∧ HandAt H' a (T0 + 142 + 2 * i) ∧ H' pl = some (.lst (ps.map V.int)) ∧ H' cl = some (.lst (cs.map V.int)) ∧ H' D = some (.lst (as.map V.ref)) ∧ us.length = as.length ∧
            (∀ (j : Nat) (u : Addr) (l : List Int), as[j]? = some u → us[j]? = some l → H' u = some (.lst (l.map V.int))) ∧ (∀ (j : Nat) (l : List Int), us[j]? = some l → l.Nodup ∧ l.length ≤ i ∧ ∀ e ∈ l, 0 ≤ e ∧ e < cs.sum ∧ (PM.homeN cs e : Int) ∈ PM.W ps j))
            ⟨List.replicate as.length [], _, _, none, rfl, X5.trans sx6, A6.mono (by omega), sx6 _ _ (Ne.symm apl) P5, C6, sx6 _ _ (Ne.symm aD) eD, List.length_replicate, fun j u l hu hl => ?_, fun j l hl => ?_⟩ ?_ ?_
          · have hm := List.mem_of_getElem? hu
            have e : l = [] := by
              rw [List.getElem?_replicate] at hl
              split at hl
              · exact (Option.some.inj hl).symm
              · cases hl
            rw [e]
            exact sx6 _ _ (Ne.symm (aG hm)) (hu2 u hm).1
          · have e : l = [] := by
              rw [List.getElem?_replicate] at hl
              split at hl
              · exact (Option.some.inj hl).symm
              · cases hl
            rw [e]
            exact ⟨List.nodup_nil, Nat.zero_le _, fun e he => nomatch he⟩
          · rintro i σ G3 hi ⟨us, z9, z10, z12, rfl, X7, A7, P7, C7, D7, usl, ush, uso⟩
            obtain ⟨spos, i40⟩ := turns i hi
            refine ⟨.ref a, rfl, .ref cl, rfl, cl, cs, rfl, .of C7, a, cs.sum, _, rfl, A7, by omega, by omega, by omega, fun H8 de sx8 A8 e0 e1 => ?_⟩
            refine ⟨.ref a, rfl, .int (1 + d), rfl, a, 1 + d, _, rfl, A8, by omega, by omega, by omega, fun H9 sc sx9 A9 s0 s1 => ?_⟩
            refine ⟨_, _, rfl, ?_⟩
            have sx := sx8.trans sx9
            have C9 := sx _ _ (Ne.symm acl) C7
            have P9 := sx _ _ (Ne.symm apl) P7
            have D9 := sx _ _ (Ne.symm aD) D7
            obtain ⟨j, rfl⟩ : ∃ j : Nat, sc = (j : Int) := ⟨sc.toNat, by omega⟩
            have hj : j < as.length := by omega
            have hju : j < us.length := by omega
            have gu : as[j]? = some as[j] := List.getElem?_eq_getElem hj
            have gl : us[j]? = some us[j] := List.getElem?_eq_getElem hju
            have mu' : as[j] ∈ as := List.getElem_mem hj
            have U9 := sx _ _ (Ne.symm (aG mu')) (ush j _ _ gu gl)
            obtain ⟨lnd, lle, lok⟩ := uso j _ gl
            refine ⟨.ref cl, rfl, .int de, rfl, cl, cs, de, rfl, .of C9, csn, e0, e1, ?_⟩
            refine ⟨.ref pl, rfl, .int (j : Int), rfl, pl, ps, (j : Int), rfl, .of P9, pre.low, by omega, by omega, fun H10 p10 S10 L10 => ?_⟩
            refine ⟨p10, _, rfl, .inl (.of L10), rfl, flat_ints _, _, rfl, ?_⟩
            rw [if_neg (by decide : ¬ (false = true)), inV_int]
            have back : ∃ (us' : List (List Int)) (w9 w10 w12 : Option V), ([some (.ref a), some (.int ms), some (.int md), some (.int mu), some (.ref pl), some (.int (1 + d)), y6, y7, some (.ref cl), some (.int (0 + (i : Int))), some (.int (j : Int)), some (.ref D), some (.int de), none] : L2.St)
                = [some (.ref a), some (.int ms), some (.int md), some (.int mu), some (.ref pl), some (.int (1 + d)), y6, y7, some (.ref cl), w9, w10, some (.ref D), w12, none] ∧
                SameX a H H10 ∧ HandAt H10 a (T0 + 142 + 2 * ((i + 1 : Nat) : Int)) ∧ H10 pl = some (.lst (ps.map V.int)) ∧ H10 cl = some (.lst (cs.map V.int)) ∧ H10 D = some (.lst (as.map V.ref)) ∧ us'.length = as.length ∧
                (∀ (j : Nat) (u : Addr) (l : List Int), as[j]? = some u → us'[j]? = some l → H10 u = some (.lst (l.map V.int))) ∧ (∀ (j : Nat) (l : List Int), us'[j]? = some l → l.Nodup ∧ l.length ≤ i + 1 ∧ ∀ e ∈ l, 0 ≤ e ∧ e < cs.sum ∧ (PM.homeN cs e : Int) ∈ PM.W ps j) :=
              ⟨us, _, _, _, rfl, (X7.trans sx).trans (.of S10), (A9.same S10).mono (by omega), S10 _ _ P9, S10 _ _ C9, S10 _ _ D9, usl,
                fun j u l h1 h2 => S10 _ _ (sx _ _ (Ne.symm (aG (List.mem_of_getElem? h1))) (ush j u l h1 h2)), fun j l h => ⟨(uso j l h).1, Nat.le_succ_of_le (uso j l h).2.1, (uso j l h).2.2⟩⟩
            by_cases c1 : (PM.homeN cs de : Int) ∈ PM.W ps (j : Int)
            · rw [decide_eq_true c1]
              refine iteT ?_
              have gr : (as.map V.ref)[j]? = some (.ref as[j]) := by
                rw [List.getElem?_map, gu]
                rfl
              have D10 := S10 _ _ D9
              have U10 := S10 _ _ U9
              refine ⟨.int de, rfl, .ref D, rfl, .int (j : Int), rfl, D, _, (j : Int), .ref as[j], rfl, rfl, .of D10, atI_nat gr, as[j], _, rfl, .inl (.of U10), rfl, flat_ints _, _, rfl, ?_⟩
              rw [if_pos rfl, inV_int]
              by_cases c2 : de ∈ us[j]
              · rw [decide_eq_true c2]
                exact iteF back
              · rw [decide_eq_false c2]
                refine iteT ?_
                refine ⟨.ref D, rfl, .int (j : Int), rfl, D, _, (j : Int), .ref as[j], rfl, rfl, .of D10, atI_nat gr, .inl ⟨rfl, _, .of U10⟩, .int de, rfl, as[j], _, _, rfl, rfl, U10, by rw [List.length_map]; exact small1000 (by omega), ?_⟩
                refine ⟨us.set j (us[j] ++ [de]), _, _, _, rfl, fun b o nb z => ?_, ((A9.same S10).upd (aG mu')).mono (by omega), ?_, ?_, ?_, by rw [List.length_set]; exact usl, fun j' u l h1 h2 => ?_, fun j' l h => ?_⟩
                · rw [upd_ne (ne_of_none z (fG mu'))]
                  exact S10 _ _ (sx _ _ nb (X7 _ _ nb z))
                · rw [upd_ne (Ne.symm (pu mu'))]
                  exact S10 _ _ P9
                · rw [upd_ne (Ne.symm (cu mu'))]
                  exact S10 _ _ C9
                · rw [upd_ne (Ne.symm (hu2 _ mu').2.2)]
                  exact D10
                · by_cases e : j' = j
                  · subst e
                    rw [gu] at h1
                    have h1 := Option.some.inj h1
                    rw [List.getElem?_set_self hju] at h2
                    have h2 := Option.some.inj h2
                    rw [← h1, ← h2, upd_same, List.map_append]
                    rfl
                  · rw [List.getElem?_set_ne (Ne.symm e)] at h2
                    have nu : u ≠ as[j] := fun z => e (L2.nd_ix hnd h1 (by rw [z]; exact gu))
                    rw [upd_ne nu]
                    exact S10 _ _ (sx _ _ (Ne.symm (aG (List.mem_of_getElem? h1))) (ush j' u l h1 h2))
                · by_cases e : j' = j
                  · subst e
                    rw [List.getElem?_set_self hju] at h
                    have h := Option.some.inj h
                    rw [← h]
                    refine ⟨List.nodup_append.mpr ⟨lnd, by simp, fun y hy z hz ee => ?_⟩, by rw [List.length_append, List.length_singleton]; omega, fun e he => ?_⟩
                    · rw [List.mem_singleton.mp hz] at ee
                      exact c2 (ee ▸ hy)
                    · rcases List.mem_append.mp he with he | he
                      · exact lok e he
                      · rw [List.mem_singleton.mp he]
                        exact ⟨e0, e1, c1⟩
                  · rw [List.getElem?_set_ne (Ne.symm e)] at h
                    obtain ⟨q1, q2, q3⟩ := uso j' l h
                    exact ⟨q1, Nat.le_succ_of_le q2, q3⟩
            · rw [decide_eq_false c1]
              exact iteF (iteF back)
          · rintro σ G3 ⟨us, z9, z10, z12, rfl, X7, A7, P7, C7, D7, usl, ush, uso⟩
            have nle : (t * (if decide (0 < cs.sum) = true then (1 : Int) else 0)).toNat ≤ 40 := by
              by_cases z : decide (0 < cs.sum) = true
              · rw [if_pos z, Int.mul_one]
                omega
              · rw [if_neg z, Int.mul_zero]
                exact Nat.zero_le _
            refine ⟨.int (1 + d), rfl, 1 + d, rfl, by omega, by omega, fun D2 nD2 => ?_⟩
            refine lc_range (lo := 0) (n := (1 + d).toNat) (fun j H' => ∃ (rs : List PRow) (xs : List V), Same G3 H' ∧ H' D2 = some (.lst xs) ∧ Dts K H' (rs.map rowD) xs ∧ rs.length = j ∧
              ∀ (i : Nat) (r : PRow), rs[i]? = some r → ps[i]? = some r.1 ∧ cs[i]? = some r.2.1 ∧ ∃ l, us[i]? = some l ∧ r.2.2.Perm l ∧ r.2.2.Pairwise (· ≤ ·))
              ⟨[], [], same_new nD2, upd_same, by rw [List.map_nil]; unfold Dts; rfl, rfl, fun i r h => by simp at h⟩ ?_ ?_
            · rintro j H' hj ⟨rs, xs, S', eD2, hds, hrl, hok⟩
              have hjp : j < ps.length := by omega
              have hjc : j < cs.length := by omega
              have hja : j < as.length := by omega
              have hju : j < us.length := by omega
              have gp : (ps.map V.int)[j]? = some (.int ps[j]) := by
                rw [List.getElem?_map, List.getElem?_eq_getElem hjp]
                rfl
              have gc : (cs.map V.int)[j]? = some (.int cs[j]) := by
                rw [List.getElem?_map, List.getElem?_eq_getElem hjc]
                rfl
              have ga : (as.map V.ref)[j]? = some (.ref as[j]) := by
                rw [List.getElem?_map, List.getElem?_eq_getElem hja]
                rfl
              have gl : us[j]? = some us[j] := List.getElem?_eq_getElem hju
              have U := S' _ _ (ush j _ _ (List.getElem?_eq_getElem hja) gl)
              obtain ⟨_, lle, _⟩ := uso j _ gl
              have xl : xs.length = j := by rw [dts_len hds, List.length_map, hrl]
              have ej : (0 : Int) + (j : Int) = (j : Int) := Int.zero_add _
              refine ⟨rfl, ?_⟩
              refine ⟨.ref pl, rfl, .int (0 + j), rfl, pl, _, (j : Int), .int ps[j], rfl, by rw [ej], .of (S' _ _ P7), atI_nat gp, ?_⟩
              refine ⟨.ref cl, rfl, .int (0 + j), rfl, cl, _, (j : Int), .int cs[j], rfl, by rw [ej], .of (S' _ _ C7), atI_nat gc, ?_⟩
              refine ⟨.ref D, rfl, .int (0 + j), rfl, D, _, (j : Int), .ref as[j], rfl, by rw [ej], .of (S' _ _ D7), atI_nat ga, ?_⟩
              refine ⟨as[j], us[j], rfl, .of U, by omega, fun ns sp perm srt nsp => ?_⟩
              refine ⟨sp, _, rfl, .inl ⟨.of upd_same, fun tq ntq => ?_⟩⟩
              refine ⟨by show 3 ≤ sizeLine; decide, fun rp nrp => ?_⟩
              have Sa := (same_new (H := H') (o := .lst (ns.map V.int)) nsp).trans ((same_new (o := .tup (ns.map V.int)) ntq).trans (same_new (o := .tup [V.int ps[j], V.int cs[j], V.ref tq]) nrp))
              have Lt := same_new (o := .tup [V.int ps[j], V.int cs[j], V.ref tq]) nrp _ _ (upd_same (H := L2.upd H' sp (.lst (ns.map V.int))) (a := tq) (o := .tup (ns.map V.int)))
              have Lr := upd_same (H := L2.upd (L2.upd H' sp (.lst (ns.map V.int))) tq (.tup (ns.map V.int))) (a := rp) (o := .tup [V.int ps[j], V.int cs[j], V.ref tq])
              generalize L2.upd (L2.upd (L2.upd H' sp (.lst (ns.map V.int))) tq (.tup (ns.map V.int))) rp (.tup [V.int ps[j], V.int cs[j], V.ref tq]) = H'' at Sa Lt Lr ⊢
              have Db := Sa _ _ eD2
              have nG2 : ∀ {b : Addr} {o : HO}, G3 b = some o → b ≠ D2 := fun z => ne_of_none z nD2
              refine ⟨xs, Db, by rw [xl]; exact small1000 (by omega), rs ++ [(ps[j], cs[j], ns)], xs ++ [V.ref rp], fun b o z => ?_, upd_same, ?_, by rw [List.length_append, hrl]; rfl, fun i r h => ?_⟩
              · rw [upd_ne (nG2 z)]
                exact Sa _ _ (S' _ _ z)
              · have nl : ∀ {b : Addr} {zs : List V}, H'' b = some (.tup zs) → b ≠ D2 := fun {b zs} z e => by
                  rw [e, Db] at z
                  cases z
                rw [List.map_append]
                refine dts_snoc ?_ _ _ (rows_keep Db .upd rs xs (Dts.same Sa _ _ hds))
                simp only [rowD, Dt, Dts]
                refine ⟨rp, _, rfl, .of ?_, _, _, rfl, rfl, _, _, rfl, rfl, _, _, rfl, ⟨tq, _, rfl, .of ?_, dts_ints ns⟩, rfl⟩
                · rw [upd_ne (nl Lr)]
                  exact Lr
                · rw [upd_ne (nl Lt)]
                  exact Lt
              · by_cases e : i < rs.length
                · rw [List.getElem?_append_left e] at h
                  exact hok i r h
                · rw [List.getElem?_append_right (by omega)] at h
                  have z : i - rs.length = 0 := by
                    have := (List.getElem?_eq_some_iff.mp h).1
                    simp at this
                    omega
                  rw [z] at h
                  have h := Option.some.inj h
                  have ei : i = j := by omega
                  subst ei
                  rw [← h]
                  exact ⟨List.getElem?_eq_getElem hjp, List.getElem?_eq_getElem hjc, us[i], gl, perm, srt⟩
            · rintro H' ⟨rs, xs, S', eD2, hds, hrl, hok⟩
              have rl : rs.length = ps.length := by omega
              have ep : pars rs = ps := map_is rl fun i r h => (hok i r h).1
              have ec : cnts rs = cs := map_is (by omega) fun i r h => (hok i r h).2.1
              refine ⟨D2, xs, rfl, .inl ⟨.of eD2, fun l nl => ?_⟩⟩
              have S'' := S'.trans (same_new (o := .tup xs) nl)
              refine q _ (.ref l) rs (X7.trans (.of S'')) ((A7.same S'').mono (by omega)) ⟨by rw [ep]; exact pre, by omega, by rw [ec]; exact csn, by rw [ec]; omega⟩ (fun i r h => ?_) (by omega) (by rw [ec]; exact ksum) ?_
              · obtain ⟨_, _, l', hl', perm, srt⟩ := hok i r h
                obtain ⟨q1, q2, q3⟩ := uso i l' hl'
                rw [ep, ec]
                refine ⟨strict srt (perm.nodup_iff.mpr q1), by rw [perm.length_eq]; omega, fun e he => q3 e (perm.mem_iff.mp he)⟩
              · unfold pd Dt
                exact ⟨l, xs, rfl, .of upd_same, Dts.same (same_new nl) _ _ hds⟩

end
end K01
set_option Elab.async false
set_option linter.all false
set_option maxRecDepth 100000
set_option maxHeartbeats 4000000
/-! enumerate(tuple) -/
namespace PySem
namespace TE
open AutoSeq1 (wpAny_loadPart')
theorem meets_newT (l : Addr) (items : Array Value) :
    Meets (Builtin.«enumerate.__new__» ⟨[.type "enumerate", .ref l], []⟩) (fun _ R s => s.heap.IsTuple l items ∧
      R (.ok (.ret (.ref (s.heap.push { cls := .type "tuple_iterator", data := .fields #[.ref l, .int 0 0] }).objs.size)))
        { s with heap := (s.heap.push { cls := .type "tuple_iterator", data := .fields #[.ref l, .int 0 0] }).push { cls := .type "enumerate", data := .fields #[.none, .bool false, .ref s.heap.objs.size, rawInt 0, .none, .none] } }) :=
  .of_wp fun prog w A R s h => by
    obtain ⟨hp, g, d, tk, os⟩ := s; obtain ⟨hl, h⟩ := h
    have hsub := sub_enumerate
    have hL : Heap.IsTuple (Shared.heap ⟨hp, g, d, tk, os⟩) l items := hl
    obtain ⟨o, ho, _⟩ := id hL
    wp_walk using wpAny_loadPart' ho
    refine wpAny_stack_any fun st => wpAny_pure ?_
    split
    · rename_i c _ _ _ _ _
      cases (c == Value.type "enumerate")
      · wp_walk using wpAny_loadPart' ho, wpAny_pyIter_tuple hL
        exact ⟨_, rfl, h⟩
      · wp_walk using wpAny_loadPart' ho, wpAny_pyIter_tuple hL
        exact ⟨_, rfl, h⟩
    · wp_walk using wpAny_loadPart' ho, wpAny_pyIter_tuple hL
      exact ⟨_, rfl, h⟩
theorem call_enumT {prog : Program} {w : World} {A : Around} {E : Value → Shared → Prop} {s : Shared} {l : Addr} {items : Array Value} {Q : Value → Shared → Prop} (hL : s.heap.IsTuple l items)
    (h : ∀ h', IsEnum h' (s.heap.objs.size + 1) s.heap.objs.size 0 .none → h'.IsTupleIter s.heap.objs.size l 0 → h'.objs.size = s.heap.objs.size + 2 →
      (∀ b o, s.heap.get? b = some o → h'.get? b = some o) → Q (.ref (s.heap.objs.size + 1)) { s with heap := h' }) :
    wpAny (model prog w) A (call (.type "enumerate") [.ref l]) Q E s := by
  refine callType_new F.called_enumerate (by decide) (F.typeCall_enumerate_1 _) (F.newCall_enumerate_1 _) (fun obj => F.args_object_init_2 obj _) F.entry_enumerate_new
    (meets_newT l items) ⟨hL, ?_⟩
  have hz : (s.heap.push { cls := .type "tuple_iterator", data := .fields #[.ref l, .int 0 0] }).objs.size = s.heap.objs.size + 1 := Heap.size_push ..
  show _ ∧ _
  rw [hz]
  have he : IsEnum ((s.heap.push { cls := .type "tuple_iterator", data := .fields #[.ref l, .int 0 0] }).push
      { cls := .type "enumerate", data := .fields #[.none, .bool false, .ref s.heap.objs.size, rawInt 0, .none, .none] }) (s.heap.objs.size + 1) s.heap.objs.size 0 .none := by
    have := Heap.get?_push_size (s.heap.push { cls := .type "tuple_iterator", data := .fields #[.ref l, .int 0 0] })
      (o := { cls := .type "enumerate", data := .fields #[.none, .bool false, .ref s.heap.objs.size, rawInt 0, .none, .none] }) rfl
    rw [hz] at this; exact this
  exact ⟨⟨_, he, rfl⟩, h _ he ⟨_, Heap.get?_push_of_some _ (Heap.get?_push_size _ rfl), rfl, rfl⟩ (by rw [Heap.size_push, hz]) fun b o x => Heap.get?_push_of_some _ (Heap.get?_push_of_some _ x)⟩
end TE
end PySem
namespace L2
open PySem PySem.Spec PyProof.Rows
/-- the tuple at a, each item in a new pair -/
def IteT (K : PySem.W.Frag) (a : Addr) : It :=
  ⟨fun i H => ∃ (xs : List V) (x : V), SqT K H a xs ∧ xs[i]? = some x, fun i H v H' => ∃ T x, v = .ref T ∧ H T = none ∧ H' = upd H T (.tup [.int (i : Nat), x]) ∧ ∀ xs, SqT K H a xs → xs[i]? = some x, fun i H => ∃ xs : List V, SqT K H a xs ∧ xs.length ≤ i⟩
theorem turn_enumT {P : Program} {w : World} {K : PySem.W.Frag} {elts : List Expr} {kk : Nat} {tpos : Pos} (a e it : Addr) :
    Turn P w K (.Tuple elts kk tpos) (IteT K a) [e, it] e (fun i h => (∃ old, IsEnum h e it ((i : Nat) : Int) old) ∧ h.IsTupleIter it a i ∧ e ≠ it ∧ a ≠ it ∧ a ≠ e) where
  mem := by simp
  obj := fun i h st b hb => by
    obtain ⟨⟨old, he⟩, ⟨o, ho, hc, hd⟩, _⟩ := st
    have e' : b = e ∨ b = it := by simpa using hb
    rcases e' with z | z
    · rw [z]; exact ⟨_, he, fun v q => nomatch q⟩
    · rw [z]; exact ⟨o, ho, fun v q => by rw [hd] at q; cases q⟩
  keep := fun i h h' st k => let ⟨⟨old, he⟩, hi, hne⟩ := st; ⟨⟨old, k e (by simp) _ he⟩, hi.at fun o q => k it (by simp) o q, hne⟩
  item := by
    intro X hP hw hK hc i pins s σ H E I hf st hg
    subst hP hw hK
    obtain ⟨⟨old, he⟩, hit, hne, hai, hae⟩ := st
    obtain ⟨xs, x, hq, hx⟩ := hg
    obtain ⟨its, rv, p, hz⟩ := I.tuple hq
    obtain ⟨u, hu, ru⟩ := rv.get hx
    have hel : e < s.heap.objs.size := Heap.lt_size he
    have hil : it < s.heap.objs.size := by obtain ⟨_, q, _⟩ := hit; exact Heap.lt_size q
    have hp : s.heap.IsTuple a its.toArray := p
    have hlt : i < its.toArray.size := by
      have := (List.getElem?_eq_some_iff.mp hu).1
      simpa using this
    refine wpAny_pyNext_enum_itemD (Draws.tuple (A := X.A.in1) (I.ok.hd hc) it a hai its.toArray) he ⟨hit, hp⟩ hlt hne (by simp; exact ⟨hne, Ne.symm hae⟩) fun u' h' tk hu' ho hst' hT hsz hk => ?_
    have eu : u' = u := by
      have z : its.toArray[i]? = some u' := hu'
      rw [show its.toArray[i]? = its[i]? by simp, hu] at z
      exact (Option.some.inj z).symm
    subst eu
    refine ⟨_, rfl, wpAny_letOwnedTupleGo_enum (s := { s with heap := h', toks := tk + 1 }) ho fun h'' he' sb => ?_⟩
    have hT2 : h''.get? s.heap.objs.size = some { cls := .type "tuple", data := .seq #[.int i tk, u'] } := (sb.2 _ (Nat.ne_of_gt hel)).trans hT
    have new : ObjOk X.prog X.w (upd H s.heap.objs.size (.tup [.int (i : Nat), x])) h'' s.heap.objs.size (.tup [.int (i : Nat), x]) :=
      ⟨by show 2 ≤ sizeLine; decide, [.int i tk, u'], .cons ⟨_, rfl⟩ (.cons ru .nil), ⟨_, hT2, rfl, _, rfl⟩⟩
    have I1 : Inv X pins σ (upd H s.heap.objs.size (.tup [.int (i : Nat), x])) { s with heap := h'', toks := tk + 1 } :=
      I.turnedNew (ch := [e, it]) (fun b ob hb q => (sb.2 b (fun z => hb (by simp [z]))).trans (hk b ob (fun z => hb (by simp [z])) (fun z => hb (by simp [z])) q)) hf (Nat.le_refl _) new
    refine ⟨.ref s.heap.objs.size, _, I1, rfl, ⟨_, x, rfl, I.hok.fresh (Nat.le_refl _), rfl, fun ys hy => by rw [I.tuple_inj hy hq]; exact hx⟩, ⟨⟨u', ?_⟩, hst'.1.at fun o q => (sb.2 it (Ne.symm hne)).trans q, hne, hai, hae⟩, fun b hb => ?_⟩
    · have e1 : ((i + 1 : Nat) : Int) = (i : Int) + 1 := by omega
      rw [e1]; exact he'
    · have hb' : b < s.heap.objs.size := by
        have e' : b = e ∨ b = it := by simpa using hb
        rcases e' with z | z
        · rw [z]; exact hel
        · rw [z]; exact hil
      rw [upd_ne (Nat.ne_of_lt hb')]
      exact (hf b hb).1
  done := by
    intro X hP hw hK hc i pins s σ H E I hf st hg
    subst hP hw hK
    obtain ⟨⟨old, he⟩, hit, hne, hai, hae⟩ := st
    obtain ⟨xs, hq, hx⟩ := hg
    obtain ⟨its, rv, p, hz⟩ := I.tuple hq
    obtain ⟨f0, f1, f2, f3, f4, f5⟩ := hf it (by simp)
    have hl := rv.length
    have hT : s.TypeIs (.ref e) "enumerate" := ⟨_, he, rfl⟩
    unfold pyNext
    refine wpAny_bind (wpAny_attempt (wpAny_callSpecial?_slot (name := Str.ofString "__next__") hT F.slot_enumerate_next
      (wpAny_call_entry F.slot_enumerate_next hT F.entry_enumerate_next ?_ (F.args_enumerate_next_1 _))))
    show wpAny _ _ (field (.ref e) 2 >>= _) _ _ _
    refine wpAny_bind (wpAny_field he rfl (x := .ref it) rfl ?_)
    refine wpAny_bind (wpAny_nextOf_tuple_end (items := its.toArray) (I.ok.hd hc) hit p (by simp; omega) fun h' x he' hx' => ?_)
    obtain ⟨o, ho, hcl⟩ := hx'
    refine wpAny_bind (wpAny_isInstance (T := "StopIteration") (b := true) ⟨o, ho, hcl⟩ isSubtype_stop ?_)
    exact wpAny_pure ⟨rfl, I.turned (t' := s.toks) (fun b o hb q => he' b o hb q) f0 f1 f3 f4 f5⟩
  self := fun A i s Q E st h => let ⟨⟨_, he⟩, _⟩ := st; wpAny_pyIter_enum he h
def iEnumT (K : PySem.W.Frag) (ta : TA) : TI := fun σ H R => ta σ H fun vs H1 => ∃ a xs, vs = [.ref a] ∧ SqT K H1 a xs ∧ R (IteT K a) H1
theorem pi_enumT {X : Cx} {e : Expr} {ta : TA} {p pos tpos : Pos} {elts : List Expr} {kk : Nat} (hg : Gl X "enumerate") (hm : X.mg "enumerate" = none) (ha : PA X [e] ta) (hs : starEach [e] X.env = [(false, eval e X.env)] := by rfl) :
    PI X (.Tuple elts kk tpos) (.Call (.Name "enumerate" p) [e] [] pos) (iEnumT X.K ta) := by
  refine ⟨fun pins s σ H R I h => ?_⟩
  refine Call_ (ld_blt I hg hm boot_enumerate (PyProof.Rows.callWith_type1 (thn (ha.run pos pins s σ H _ I h) fun us s1 ⟨vs, H1, I1, r1, q1⟩ => ?_) hs rfl))
  obtain ⟨a, xs, ex, hq, q⟩ := q1
  subst ex
  cases r1 with
  | cons r rr =>
    cases rr
    cases r
    obtain ⟨its, rv, p', hz⟩ := I1.tuple hq
    have hal : a < s1.heap.objs.size := by obtain ⟨_, z, _⟩ := id p'; exact Heap.lt_size z
    refine PySem.TE.call_enumT (items := its.toArray) p' fun h' he hit hsz hk => wpAny_pyIter_enum he ?_
    have I2 : Inv X pins σ H1 { s1 with heap := h' } := I1.kept (t' := s1.toks) hk
    refine ⟨s1.heap.objs.size + 1, [s1.heap.objs.size + 1, s1.heap.objs.size], _, _, H1, rfl, I2, turn_enumT a (s1.heap.objs.size + 1) s1.heap.objs.size, ⟨⟨.none, he⟩, hit, Nat.succ_ne_self _, Nat.ne_of_lt hal, Nat.ne_of_lt (Nat.lt_succ_of_lt hal)⟩, fun b hb => ?_, q⟩
    have e' : b = s1.heap.objs.size + 1 ∨ b = s1.heap.objs.size := by simpa using hb
    have hle : s1.heap.objs.size ≤ b := by
      rcases e' with z | z
      · rw [z]; exact Nat.le_add_right _ _
      · rw [z]; exact Nat.le_refl _
    exact I1.fpOk hle (I1.hok.fresh hle)
theorem for_enumT {K : PySem.W.Frag} {a : Addr} {xs : List V} {g : TG} {tb : TS} {D : Ends} {σ : St} {H : Hp} (Pv : Nat → St → Hp → Prop) (h0 : Pv 0 σ H) (hl : ∀ i σ H, Pv i σ H → SqT K H a xs)
    (hs : ∀ (i : Nat) (x : V) (T : Addr) (σ : St) (H : Hp), xs[i]? = some x → Pv i σ H → H T = none → g (.ref T) σ (upd H T (.tup [.int (i : Nat), x])) fun σ2 H2 => tb { D with nx := Pv (i + 1), ct := Pv (i + 1), bk := D.nx } σ2 H2) (hd : ∀ σ H, Pv xs.length σ H → D.nx σ H) :
    ∃ W : Nat → Nat → St → Hp → Prop, (∃ m, W 0 m σ H) ∧ ∀ i m σ H, W i m σ H →
      ((IteT K a).stop i H ∧ D.nx σ H) ∨ ((IteT K a).go i H ∧ ∃ N : St → Hp → Prop, (∀ σ' H', N σ' H' → ∃ m', m' < m ∧ W (i + 1) m' σ' H') ∧ ∀ x H', (IteT K a).yld i H x H' → g x σ H' fun σ2 H2 => tb { D with nx := N, ct := N, bk := D.nx } σ2 H2) := by
  refine ⟨fun i m σ H => m = xs.length - i ∧ i ≤ xs.length ∧ Pv i σ H, ⟨xs.length, by simp, Nat.zero_le _, h0⟩, ?_⟩
  rintro i m σ H ⟨rfl, hi, p⟩
  have q := hl i σ H p
  by_cases hlt : i < xs.length
  · refine .inr ⟨⟨xs, xs[i], q, by simp [hlt]⟩, Pv (i + 1), fun σ' H' p' => ⟨xs.length - (i + 1), by omega, rfl, hlt, p'⟩, fun v H' y => ?_⟩
    obtain ⟨T, x, rfl, nT, rfl, fx⟩ := y
    exact hs i x T σ _ (fx xs q) p nT
  · have e : i = xs.length := by omega
    subst e
    exact .inl ⟨⟨xs, q, Nat.le_refl _⟩, hd σ H p⟩
end L2
set_option Elab.async false
set_option linter.all false
set_option maxRecDepth 100000
set_option maxHeartbeats 4000000
/-! data that repr can show: depth and length -/
namespace L2
open PySem PySem.Spec PyProof.Rows
structure Fit (d : PyData) (k n : Nat) : Prop where
  sh : d.showable = true
  dp : d.depth ≤ k
  ln : d.shown.length ≤ n
theorem Fit.mono {d : PyData} {k n k' n' : Nat} (h : Fit d k n) (a : k ≤ k') (b : n ≤ n') : Fit d k' n' := ⟨h.sh, Nat.le_trans h.dp a, Nat.le_trans h.ln b⟩
theorem Fit.none : Fit .none 0 4 := ⟨rfl, Nat.le_refl _, by decide +kernel⟩
theorem Fit.bool (b : Bool) : Fit (.bool b) 0 5 := ⟨rfl, Nat.le_refl _, by cases b <;> decide +kernel⟩
theorem Fit.int {i : Int} (h0 : -2 ≤ i) (h1 : i < 200) : Fit (.int i) 0 4 := by
  have k : ∀ j : _root_.Fin 202, (PyData.showable (.int ((j.1 : Int) - 2)) && decide ((PyData.shown (.int ((j.1 : Int) - 2))).length ≤ 4)) = true := by decide +kernel
  have z := k ⟨(i + 2).toNat, by omega⟩
  have e : (((i + 2).toNat : Nat) : Int) - 2 = i := by omega
  dsimp only at z
  rw [e] at z
  obtain ⟨z1, z2⟩ := He.ba z
  exact ⟨z1, Nat.le_refl _, of_decide_eq_true z2⟩
theorem join_le {n : Nat} : ∀ ts : List Str, (∀ t ∈ ts, t.length ≤ n) → (Str.join ", " ts).length ≤ (n + 2) * ts.length
  | [], _ => Nat.zero_le _
  | [x], h => by
    have a : x.length ≤ n := h x List.mem_cons_self
    show x.length ≤ (n + 2) * 1
    omega
  | x :: y :: r, h => by
    have ih := join_le (y :: r) fun t ht => h t (List.mem_cons_of_mem _ ht)
    have a : x.length ≤ n := h x List.mem_cons_self
    show (x ++ ", " ++ Str.join ", " (y :: r)).length ≤ _
    have e2 : ((", " : String) : Str).length = 2 := rfl
    rw [strLen_append, strLen_append, e2, List.length_cons (a := x), Nat.mul_add]
    omega
theorem showAll {ds : List PyData} (h : ∀ d ∈ ds, d.showable = true) : PyData.showableAll ds = true := by
  induction ds with
  | nil => rfl
  | cons d ds ih =>
    unfold PyData.showableAll
    rw [h d List.mem_cons_self, ih fun e he => h e (List.mem_cons_of_mem _ he)]
    rfl
theorem depAll {k : Nat} {ds : List PyData} (h : ∀ d ∈ ds, d.depth ≤ k) : PyData.depthAll ds ≤ k := by
  induction ds with
  | nil => exact Nat.zero_le _
  | cons d ds ih =>
    unfold PyData.depthAll
    exact Nat.max_le.mpr ⟨h d List.mem_cons_self, ih fun e he => h e (List.mem_cons_of_mem _ he)⟩
theorem shownAll_map (ds : List PyData) : PyData.shownAll ds = ds.map PyData.shown := by
  induction ds with
  | nil => rfl
  | cons d ds ih =>
    unfold PyData.shownAll
    rw [ih]
    rfl
theorem Fit.tup {ds : List PyData} {k n m : Nat} (h : ∀ d ∈ ds, Fit d k n) (hm : ds.length ≤ m) : Fit (.tuple ds) (k + 1) ((n + 2) * m + 3) := by
  refine ⟨?_, ?_, ?_⟩
  · unfold PyData.showable
    exact showAll fun d hd => (h d hd).sh
  · unfold PyData.depth
    exact Nat.succ_le_succ (depAll fun d hd => (h d hd).dp)
  · unfold PyData.shown
    unfold tupleText
    rw [strLen_append, strLen_append, shownAll_map]
    have j := join_le (n := n) (ds.map PyData.shown) fun t ht => by
      obtain ⟨d, hd, e⟩ := List.mem_map.mp ht
      rw [← e]
      exact (h d hd).ln
    have e1 : ((if (ds.map PyData.shown).length == 1 then ",)" else ")" : String) : Str).length ≤ 2 := by
      split
      · decide +kernel
      · decide +kernel
    have e0 : ((("(" : Str))).length = 1 := rfl
    rw [List.length_map] at j
    have mm : (n + 2) * ds.length ≤ (n + 2) * m := Nat.mul_le_mul_left _ hm
    rw [List.length_map] at e1 ⊢
    omega
theorem Fit.ints {l : List Int} {m : Nat} (h : ∀ i ∈ l, -2 ≤ i ∧ i < 200) (hm : l.length ≤ m) : Fit (.tuple (l.map PyData.int)) 1 (6 * m + 3) :=
  Fit.tup (k := 0) (n := 4) (fun d hd => by
    obtain ⟨i, hi, e⟩ := List.mem_map.mp hd
    rw [← e]
    exact Fit.int (h i hi).1 (h i hi).2) (by rw [List.length_map]; exact hm)
theorem Fit.d60 {d : PyData} {k n : Nat} (f : Fit d k n) (hk : k ≤ 60 := by decide) : d.depth ≤ 60 := Nat.le_trans f.dp hk
theorem Fit.sz {d : PyData} {k n : Nat} (f : Fit d k n) (hn : n ≤ 16777216 := by decide) : d.shown.length ≤ sizeLine := by
  rw [sizeLine_eq]
  exact Nat.le_trans f.ln hn
/-- what rRepr asks -/
theorem rep_of {K : PySem.W.Frag} {v : V} {d : PyData} {H : Hp} {Q : VK} {k n : Nat} (hd : Dt K H d v) (f : Fit d k n) (q : Q (.str d.shown) H) (hk : k ≤ 60 := by decide) (hn : n ≤ 16777216 := by decide) : rRepr K [v] H Q :=
  ⟨v, d, rfl, hd, f.sh, Nat.le_trans f.dp hk, by rw [sizeLine_eq]; exact Nat.le_trans f.ln hn, q⟩
theorem rangeL_mem {lo hi x : Int} (h : x ∈ rangeL lo hi) : lo ≤ x ∧ x < hi := by
  unfold rangeL at h
  obtain ⟨j, hj, e⟩ := List.mem_map.mp h
  have := List.mem_range.mp hj
  omega
theorem rangeL_len (lo hi : Int) : (rangeL lo hi).length = (hi - lo).toNat := by
  unfold rangeL
  rw [List.length_map, List.length_range]
end L2
set_option Elab.async false
set_option linter.all false
set_option maxRecDepth 100000
set_option maxHeartbeats 4000000
/-! d.update(e); what a merged table tells; isinstance of data -/
namespace L2
open PySem PySem.Spec PyProof.Rows
def tDUpd (td ty : TE) : TE := fun σ H Q => td σ H fun x H1 => ∃ a, x = .ref a ∧ IsD H1 a ∧ ty σ H1 fun y H2 => ∃ (b : Addr) (kvs more : List (Key × V)), y = .ref b ∧ a ≠ b ∧ H2 a = some (.dK kvs) ∧ H2 b = some (.dK more) ∧
  kvs.length + more.length ≤ sizeLine ∧ Q .non (upd H2 a (.dK (mergeK kvs more)))
theorem pe_dupd {X : Cx} {o e : Expr} {td ty : TE} {apos cpos : Pos} (ho : PE X o td) (he : PE X e ty) (m : M1 X o "update" apos e cpos) : PE X (.Call (.Attribute o "update" apos) [e] [] cpos) (tDUpd td ty) := by
  refine ⟨fun pins s σ H Q I h => ?_⟩
  refine wpAny_Call_method m.base m.few m.line PySem.F.plainAttrs_dict PySem.F.slot_dict_update PySem.F.type_dict_update (thn (ho.run pins s σ H _ I h) fun u s1 ⟨x, H1, I1, rx, a, ex, d, q1⟩ => ?_)
  subst ex
  obtain rfl : u = Value.ref a := rx
  obtain ⟨t1, t2, _⟩ := isD_at I1 d
  refine ⟨t1, t2, ?_⟩
  rw [m.trees]
  refine Calls.callWith_builtin rfl (Calls.evalArgs_plain (Calls.spliced_cons (thn (he.run pins s1 σ H1 _ I1 q1) fun iv s2 ⟨y, H2, I2, ry, b, kvs, more, ey, hne, ea, eb, hl, q2⟩ => Calls.spliced_nil ?_)))
  subst ey
  obtain rfl : iv = Value.ref b := ry
  obtain ⟨z1, hd1, vs1, rel1, dd1⟩ := dk_of I2.hok ea
  obtain ⟨z2, hd2, vs2, rel2, dd2⟩ := dk_of I2.hok eb
  refine call_meetsIn PySem.F.slot_dict_update dd1.typeIs PySem.F.entry_dict_update (PySem.F.args_dict_update_2 _ _) (meets_dict_update (mixKind X.prog X.w) a b hne hd2)
    ⟨vs1, vs2, dd1, dd2, by rw [← rel1.length, ← rel2.length]; exact hl, fun h' dd' _ hs => ?_⟩
  have hl2 : (mergeK kvs more).length ≤ sizeLine := Nat.le_trans (length_mergeK more kvs) hl
  have hq : ∃ q, h'.get? a = some q := let ⟨q, _, _, hq, _⟩ := dd'; ⟨q, hq⟩
  exact ⟨.non, _, d_write (t' := s2.toks) I2 (by rw [ea]; exact True.intro) hs hq (dk_new hl2 hd1 (KV.merge rel2 rel1) dd'), rfl, q2⟩
theorem valV_none {kvs : List (Key × V)} {k : Key} (h : k ∉ kvs.map (·.1)) : valV kvs k = none := by
  cases q : valV kvs k with
  | none => rfl
  | some v =>
    unfold valV at q
    obtain ⟨p, hp, _⟩ := Option.map_eq_some_iff.mp q
    have a := List.find?_some hp
    have b := List.mem_of_find?_eq_some hp
    exact absurd (List.mem_map.mpr ⟨p, b, of_decide_eq_true a⟩) h
theorem putK_nodup {kvs : List (Key × V)} {k : Key} {v : V} (h : (kvs.map (·.1)).Nodup) : ((putK kvs k v).map (·.1)).Nodup := by
  unfold putK
  by_cases c : (kvs.any fun kv => decide (kv.1 = k)) = true
  · rw [if_pos c, List.map_map]
    have e : kvs.map ((·.1) ∘ fun kv : Key × V => if kv.1 = k then (kv.1, v) else kv) = kvs.map (·.1) := by
      refine List.map_congr_left fun p _ => ?_
      show (if p.1 = k then (p.1, v) else p).1 = p.1
      split <;> rfl
    rw [e]
    exact h
  · rw [if_neg c, List.map_append]
    refine List.nodup_append.mpr ⟨h, by simp, fun x hx y hy e => c ?_⟩
    obtain ⟨p, hp, ep⟩ := List.mem_map.mp hx
    have hy : y = k := List.mem_singleton.mp hy
    exact List.any_eq_true.mpr ⟨p, hp, decide_eq_true (by rw [ep, e, hy])⟩
theorem mergeK_nodup : ∀ {more kvs : List (Key × V)}, (kvs.map (·.1)).Nodup → ((mergeK kvs more).map (·.1)).Nodup
  | [], _, h => h
  | p :: r, kvs, h => mergeK_nodup (more := r) (putK_nodup (k := p.1) (v := p.2) h)
theorem mergeK_val : ∀ {more kvs : List (Key × V)} {j : Key}, (more.map (·.1)).Nodup → valV (mergeK kvs more) j = (valV more j).or (valV kvs j)
  | [], _, _, _ => rfl
  | p :: r, kvs, j, h => by
    rw [List.map_cons, List.nodup_cons] at h
    have ih := mergeK_val (more := r) (kvs := putK kvs p.1 p.2) (j := j) h.2
    show valV (mergeK (putK kvs p.1 p.2) r) j = _
    rw [ih, valV_put]
    by_cases c : j = p.1
    · subst c
      rw [valV_none h.1, valV_pos rfl, if_pos rfl]
      rfl
    · rw [if_neg c, valV_neg (fun z => c z.symm)]
/-! ### the type of data -/
def tyD : PyData → String
  | .none => "NoneType"
  | .bool _ => "bool"
  | .int _ => "int"
  | .str _ => "str"
  | .list _ => "list"
  | .tuple _ => "tuple"
  | .dict _ => "dict"
theorem Dt.ty {K : PySem.W.Frag} {H : Hp} : ∀ {d : PyData} {v : V}, Dt K H d v → TyX K H v (.type (tyD d))
  | .none, v, h => by
    unfold Dt at h
    subst h
    exact .base .non
  | .bool b, v, h => by
    unfold Dt at h
    subst h
    exact .base (.bl b)
  | .int i, v, h => by
    unfold Dt at h
    subst h
    exact .base (.int i)
  | .str x, v, h => by
    unfold Dt at h
    subst h
    exact .base (.str x)
  | .list ds, v, h => by
    unfold Dt at h
    obtain ⟨a, xs, e, q, _⟩ := h
    subst e
    rcases q with q | ⟨o, its, n, q, c, _⟩
    · rcases q with q | ⟨o, q⟩
      · exact .base (.lst q)
      · exact .base (.frz q)
    · exact .kList q c
  | .tuple ds, v, h => by
    unfold Dt at h
    obtain ⟨a, xs, e, q, _⟩ := h
    subst e
    rcases q with q | ⟨o, its, n, q, c, _⟩
    · rcases q with q | ⟨o, q⟩
      · exact .base (.tup q)
      · exact .fTuple q
    · exact .kTuple q c
  | .dict ds, v, h => by
    unfold Dt at h
    obtain ⟨a, xs, e, q, _⟩ := h
    subst e
    exact .base (.dK q)
/-- isinstance(v, T) of data -/
def isT (d : PyData) (T : String) : Bool := decide (tyD d = T) || (decide (tyD d = "bool") && decide (T = "int"))
theorem isT_kit {K : PySem.W.Frag} {d : PyData} {T : String} (h : T ∈ ["int", "bool", "str", "list", "tuple", "dict"]) : PySem.W.kitOne K (.type (tyD d)) (.type T) = some (isT d T) := by
  have k : ∀ a ∈ ["NoneType", "bool", "int", "str", "list", "tuple", "dict"], ∀ T ∈ ["int", "bool", "str", "list", "tuple", "dict"], kitB a T = some (decide (a = T) || (decide (a = "bool") && decide (T = "int"))) := by decide +kernel
  exact kit_ty (k (tyD d) (by cases d <;> simp [tyD]) T h)
def rIsD (K : PySem.W.Frag) (T : String) : List V → Hp → VK → Prop := fun xs H Q => ∃ (v : V) (d : PyData), xs = [v, .ty T] ∧ Dt K H d v ∧ Q (.bl (isT d T)) H
theorem call_isD {X : Cx} {T : String} (h : T ∈ ["int", "bool", "str", "list", "tuple", "dict"]) : CallR X (.builtin "isinstance") (rIsD X.K T) := by
  intro pins s σ H xs us Q I r hq
  obtain ⟨v, d, e, hd, q⟩ := hq
  exact call_isi pins s σ H xs us Q I r ⟨v, .ty T, _, _, _, e, .ty T, hd.ty, isT_kit h, q⟩
end L2
set_option Elab.async false
set_option linter.all false
set_option maxRecDepth 100000
set_option maxHeartbeats 4000000
/-! readings that lay data of a known kind, over what stood at H0 -/
namespace L2
open PySem PySem.Spec PyProof.Rows
theorem sameNew {H : Hp} {p : Addr} {o : HO} (h : H p = none) : Same H (upd H p o) := fun b x e => by
  rw [upd_ne (ne_of_none e h)]
  exact e
/-- t lays the data d: N' is what it stands on, and nothing of N' but N was there before -/
def Ly (K : PySem.W.Frag) (σ : L2.St) (H0 : Hp) (d : PyData) (t : TE) : Prop := ∀ (N H : Hp) (Q : VK), Same H0 N → Same N H →
  (∀ v N' H', Same N N' → Same N' H' → Same H H' → (∀ b, N' b ≠ none → N b ≠ none ∨ H b = none) → Dt K N' d v → Q v H') → t σ H Q
def LyA (K : PySem.W.Frag) (σ : L2.St) (H0 : Hp) (ds : List PyData) (t : TA) : Prop := ∀ (N H : Hp) (Q : List V → Hp → Prop), Same H0 N → Same N H →
  (∀ vs N' H', Same N N' → Same N' H' → Same H H' → (∀ b, N' b ≠ none → N b ≠ none ∨ H b = none) → Dts K N' ds vs → Q vs H') → t σ H Q
def off (p : Addr) (H : Hp) : Hp := fun b => if b = p then none else H b
theorem off_same {p : Addr} {H : Hp} : Same (off p H) H := fun b o e => by
  unfold off at e
  split at e
  · cases e
  · exact e
theorem off_at {p : Addr} {H : Hp} : off p H p = none := if_pos rfl
theorem off_ne {p b : Addr} {H : Hp} (h : b ≠ p) : off p H b = H b := if_neg h
theorem Same.updBoth {N H : Hp} {p : Addr} {o : HO} (s : Same N H) : Same (upd N p o) (upd H p o) := fun b x e => by
  by_cases c : b = p
  · subst c
    rw [upd_same] at e ⊢
    exact e
  · rw [upd_ne c] at e ⊢
    exact s _ _ e
theorem fresh_trans {N N1 H H1 N2 : Hp} (s : Same H H1) (f1 : ∀ b, N1 b ≠ none → N b ≠ none ∨ H b = none) (f2 : ∀ b, N2 b ≠ none → N1 b ≠ none ∨ H1 b = none) : ∀ b, N2 b ≠ none → N b ≠ none ∨ H b = none := fun b z => by
  rcases f2 b z with z | z
  · exact f1 b z
  · exact .inr (s.free z)
theorem fresh_upd {N H : Hp} {p : Addr} {o : HO} (h : H p = none) : ∀ b, upd N p o b ≠ none → N b ≠ none ∨ H b = none := fun b z => by
  by_cases c : b = p
  · subst c
    exact .inr h
  · rw [upd_ne c] at z
    exact .inl z
theorem dtsLen {K : PySem.W.Frag} {H : Hp} : ∀ {ds : List PyData} {vs : List V}, Dts K H ds vs → vs.length = ds.length
  | [], vs, h => by
    unfold Dts at h
    rw [h]
    rfl
  | d :: ds, vs, h => by
    unfold Dts at h
    obtain ⟨x, r, e, _, h2⟩ := h
    rw [e, List.length_cons, dtsLen h2]
    rfl
theorem dtsMem {K : PySem.W.Frag} {H : Hp} : ∀ {ds : List PyData} {vs : List V} {x : V}, Dts K H ds vs → x ∈ vs → ∃ d ∈ ds, Dt K H d x
  | [], vs, x, h, m => by
    unfold Dts at h
    rw [h] at m
    cases m
  | d :: ds, vs, x, h, m => by
    unfold Dts at h
    obtain ⟨y, r, e, h1, h2⟩ := h
    subst e
    rcases List.mem_cons.mp m with z | z
    · subst z
      exact ⟨d, List.mem_cons_self, h1⟩
    · obtain ⟨d', m', q⟩ := dtsMem h2 z
      exact ⟨d', List.mem_cons_of_mem _ m', q⟩
section
variable {K : PySem.W.Frag} {σ : L2.St} {H0 : Hp}
theorem l_nil : LyA K σ H0 [] tNil := fun N H Q _ sN k => k [] N H (Same.refl N) sN (Same.refl H) (fun _ z => .inl z) (by unfold Dts; rfl)
theorem l_cons {d : PyData} {ds : List PyData} {t : TE} {u : TA} (h : Ly K σ H0 d t) (r : LyA K σ H0 ds u) : LyA K σ H0 (d :: ds) (tCons t u) := fun N H Q s0 sN k =>
  h N H _ s0 sN fun v N1 H1 a1 b1 c1 f1 d1 => r N1 H1 _ (s0.trans a1) b1 fun vs N2 H2 a2 b2 c2 f2 d2 =>
    k (v :: vs) N2 H2 (a1.trans a2) b2 (c1.trans c2) (fresh_trans c1 f1 f2) (by unfold Dts; exact ⟨v, vs, rfl, Dt.same a2 d v d1, d2⟩)
theorem l_non : Ly K σ H0 .none (tC .non) := fun N H Q _ sN k => k _ N H (Same.refl N) sN (Same.refl H) (fun _ z => .inl z) (by unfold Dt; rfl)
theorem l_bl {b : Bool} : Ly K σ H0 (.bool b) (tC (.bl b)) := fun N H Q _ sN k => k _ N H (Same.refl N) sN (Same.refl H) (fun _ z => .inl z) (by unfold Dt; rfl)
theorem l_int {i : Int} : Ly K σ H0 (.int i) (tC (.int i)) := fun N H Q _ sN k => k _ N H (Same.refl N) sN (Same.refl H) (fun _ z => .inl z) (by unfold Dt; rfl)
theorem l_str {x : Str} : Ly K σ H0 (.str x) (tC (.str x)) := fun N H Q _ sN k => k _ N H (Same.refl N) sN (Same.refl H) (fun _ z => .inl z) (by unfold Dt; rfl)
theorem l_neg {i : Int} : Ly K σ H0 (.int (-i)) (tUn (rU fun i => .int (-i)) (tC (.int i))) := fun N H Q _ sN k => ⟨i, rfl, k _ N H (Same.refl N) sN (Same.refl H) (fun _ z => .inl z) (by unfold Dt; rfl)⟩
theorem l_var {i : Nat} {v : V} {d : PyData} (e : σ[i]? = some (some v)) (h : Dt K H0 d v) : Ly K σ H0 d (tVar i) := fun N H Q s0 sN k => ⟨v, e, k v N H (Same.refl N) sN (Same.refl H) (fun _ z => .inl z) (Dt.same s0 d v h)⟩
theorem l_tup {ds : List PyData} {t : TA} (h : LyA K σ H0 ds t) (l : ds.length ≤ 1000 := by decide) : Ly K σ H0 (.tuple ds) (tTup t) := fun N H Q s0 sN k =>
  h N H _ s0 sN fun vs N1 H1 a1 b1 c1 f1 d1 => ⟨by rw [dtsLen d1]; exact Nat.le_of_lt (small1000 l), fun p np => k _ (upd N1 p (.tup vs)) _ (a1.trans (sameNew (b1.free np))) b1.updBoth (c1.trans (sameNew np)) (fresh_trans c1 f1 (fresh_upd np)) (by
    unfold Dt
    exact ⟨p, vs, rfl, .of upd_same, Dts.same (sameNew (b1.free np)) ds vs d1⟩)⟩
theorem l_lst {ds : List PyData} {t : TA} (h : LyA K σ H0 ds t) (l : ds.length ≤ 1000 := by decide) : Ly K σ H0 (.list ds) (tLst t) := fun N H Q s0 sN k =>
  h N H _ s0 sN fun vs N1 H1 a1 b1 c1 f1 d1 => ⟨by rw [dtsLen d1]; exact Nat.le_of_lt (small1000 l), fun p np => k _ (upd N1 p (.lst vs)) _ (a1.trans (sameNew (b1.free np))) b1.updBoth (c1.trans (sameNew np)) (fresh_trans c1 f1 (fresh_upd np)) (by
    unfold Dt
    exact ⟨p, vs, rfl, .of upd_same, Dts.same (sameNew (b1.free np)) ds vs d1⟩)⟩
theorem l_dict : Ly K σ H0 (.dict []) tDNewK := fun N H Q _ sN k p np => k _ (upd N p (.dK [])) _ (sameNew (sN.free np)) sN.updBoth (sameNew np) (fresh_upd np) (by
  unfold Dt Dtk
  exact ⟨p, [], rfl, upd_same, rfl⟩)
theorem llst_top {ds : List PyData} {t : TA} {N H : Hp} {Q : VK} (h : LyA K σ N ds t) (sN : Same N H) (l : ds.length ≤ 1000)
    (k : ∀ (p : Addr) (xs : List V) (N' H' : Hp), Same N N' → Same N' H' → Same H H' → (∀ b, N' b ≠ none → N b ≠ none ∨ H b = none) → H p = none → N' p = some (.lst xs) → Dts K N' ds xs → Q (.ref p) H') : tLst t σ H Q :=
  h N H _ (Same.refl N) sN fun vs N1 H1 a1 b1 c1 f1 d1 => ⟨by rw [dtsLen d1]; exact Nat.le_of_lt (small1000 l), fun p np => k p vs (upd N1 p (.lst vs)) _ (a1.trans (sameNew (b1.free np))) b1.updBoth (c1.trans (sameNew np)) (fresh_trans c1 f1 (fresh_upd np)) (c1.free np) upd_same (Dts.same (sameNew (b1.free np)) ds vs d1)⟩
theorem set_llst {ds : List PyData} {t : TA} {g : TG} {u : TS} {D : Ends} {N H : Hp} (h : LyA K σ N ds t) (sN : Same N H) (l : ds.length ≤ 1000)
    (k : ∀ (p : Addr) (xs : List V) (N' H' : Hp), Same N N' → Same N' H' → Same H H' → (∀ b, N' b ≠ none → N b ≠ none ∨ H b = none) → H p = none → N' p = some (.lst xs) → Dts K N' ds xs → g (.ref p) σ H' (u D)) : tSeq (tAsg (tLst t) g) u D σ H :=
  show tLst t σ H (fun x H1 => g x σ H1 (u D)) from llst_top h sN l k
end
theorem for_enumL {K : PySem.W.Frag} {a : Addr} {xs : List V} {g : TG} {tb : TS} {D : Ends} {σ : St} {H : Hp} (Pv : Nat → St → Hp → Prop) (h0 : Pv 0 σ H) (hl : ∀ i σ H, Pv i σ H → SqL K H a xs)
    (hs : ∀ (i : Nat) (x : V) (T : Addr) (σ : St) (H : Hp), xs[i]? = some x → Pv i σ H → H T = none → g (.ref T) σ (upd H T (.tup [.int (i : Nat), x])) fun σ2 H2 => tb { D with nx := Pv (i + 1), ct := Pv (i + 1), bk := D.nx } σ2 H2) (hd : ∀ σ H, Pv xs.length σ H → D.nx σ H) :
    ∃ W : Nat → Nat → St → Hp → Prop, (∃ m, W 0 m σ H) ∧ ∀ i m σ H, W i m σ H →
      ((Ite K a).stop i H ∧ D.nx σ H) ∨ ((Ite K a).go i H ∧ ∃ N : St → Hp → Prop, (∀ σ' H', N σ' H' → ∃ m', m' < m ∧ W (i + 1) m' σ' H') ∧ ∀ x H', (Ite K a).yld i H x H' → g x σ H' fun σ2 H2 => tb { D with nx := N, ct := N, bk := D.nx } σ2 H2) := by
  refine ⟨fun i m σ H => m = xs.length - i ∧ i ≤ xs.length ∧ Pv i σ H, ⟨xs.length, by simp, Nat.zero_le _, h0⟩, ?_⟩
  rintro i m σ H ⟨rfl, hi, p⟩
  have q := hl i σ H p
  by_cases hlt : i < xs.length
  · refine .inr ⟨⟨xs, xs[i], q, by simp [hlt]⟩, Pv (i + 1), fun σ' H' p' => ⟨xs.length - (i + 1), by omega, rfl, hlt, p'⟩, fun v H' y => ?_⟩
    obtain ⟨T, x, rfl, nT, rfl, fx⟩ := y
    exact hs i x T σ _ (fx xs q) p nT
  · have e : i = xs.length := by omega
    subst e
    exact .inl ⟨⟨xs, q, Nat.le_refl _⟩, hd σ H p⟩
theorem strs_dts {K : PySem.W.Frag} {H : Hp} : ∀ {nm : List Str} {xs : List V}, Dts K H (nm.map PyData.str) xs → xs = nm.map V.str
  | [], xs, h => by
    rw [List.map_nil] at h
    unfold Dts at h
    exact h
  | x :: nm, xs, h => by
    rw [List.map_cons] at h
    unfold Dts Dt at h
    obtain ⟨v, r, e, e1, h2⟩ := h
    rw [e, e1, strs_dts h2, List.map_cons]
theorem dts_strs {K : PySem.W.Frag} {H : Hp} : ∀ (nm : List Str), Dts K H (nm.map PyData.str) (nm.map V.str)
  | [] => by
    rw [List.map_nil, List.map_nil]
    unfold Dts
    rfl
  | x :: nm => by
    rw [List.map_cons, List.map_cons]
    unfold Dts Dt
    exact ⟨_, _, rfl, rfl, dts_strs nm⟩
theorem strsAt {K : PySem.W.Frag} {H : Hp} {nm : List Str} {v : V} (h : Dt K H (.tuple (nm.map PyData.str)) v) : ∃ a, v = .ref a ∧ SqT K H a (nm.map V.str) := by
  unfold Dt at h
  obtain ⟨a, xs, e, q, d⟩ := h
  rw [strs_dts d] at q
  exact ⟨a, e, q⟩
theorem peI {X : Cx} {e : Expr} {t u : TE} (h : PE X e t) (k : ∀ σ H Q, u σ H Q → t σ H Q) : PE X e u :=
  ⟨fun pins s σ H Q I hw => h.run pins s σ H Q I (k σ H Q hw)⟩
theorem iteS {c A B : Prop} [Decidable c] (hc : c) (h : A) : if decide c = true then A else B := by
  rw [decide_eq_true hc]
  exact iteT h
theorem dt_int {K : PySem.W.Frag} {H : Hp} (i : Int) : Dt K H (.int i) (.int i) := by
  unfold Dt
  rfl
theorem dt_str {K : PySem.W.Frag} {H : Hp} (x : Str) : Dt K H (.str x) (.str x) := by
  unfold Dt
  rfl
theorem dt_non {K : PySem.W.Frag} {H : Hp} : Dt K H .none .non := by
  unfold Dt
  rfl
theorem dt_bl {K : PySem.W.Frag} {H : Hp} (b : Bool) : Dt K H (.bool b) (.bl b) := by
  unfold Dt
  rfl
end L2
set_option Elab.async false
set_option linter.all false
set_option maxRecDepth 100000
set_option maxHeartbeats 4000000
/-! texts many times over; bools as numbers; a tuple against () -/
namespace L2
open PySem PySem.Spec PyProof.Rows
def repS (a : Str) (n : Nat) : Str := ⟨(List.replicate n a.cps.toList).flatten.toArray⟩
theorem fold_rep (l : List Nat) : ∀ n : Nat, ∀ acc : Array Nat, (List.replicate n l.toArray).foldl (· ++ ·) acc = acc ++ (List.replicate n l).flatten.toArray
  | 0, acc => by simp
  | n + 1, acc => by
    rw [List.replicate_succ, List.foldl_cons, fold_rep l n, List.replicate_succ, List.flatten_cons]
    apply Array.ext'
    simp
theorem repS_fold (a : Str) (n : Nat) : (⟨(List.replicate n a.cps).foldl (· ++ ·) #[]⟩ : Str) = repS a n := by
  unfold repS
  have z := fold_rep a.cps.toList n #[]
  simp only [Array.toArray_toList] at z
  rw [z]
  simp
section
variable {X : Cx}
theorem op_mulS : OpR X (binaryOp .Mult) (fun x y H Q => ∃ (a : Str) (n : Int), x = .str a ∧ y = .int n ∧ 0 ≤ n ∧ n ≤ 1000 ∧ a.length ≤ 1000 ∧ Q (.str (repS a n.toNat)) H) := by
  intro pins s σ H x y v u Q I rx ry h
  obtain ⟨a, n, rfl, rfl, h0, h1, hl, q⟩ := h
  obtain ⟨t, rfl⟩ := rx
  obtain ⟨t2, rfl⟩ := ry
  have big : a.length * n.toNat ≤ 1000 * 1000 := Nat.mul_le_mul hl (by omega)
  refine P.mul_str ?_ (fun _ _ => ?_) (fun _ _ => ?_) ?_
  · rw [decide_eq_false (by omega), decide_eq_false (by omega)]
    rfl
  · have z : (1000 : Int) ≤ (2 ^ 63 - 1) / n ∨ n = 0 := by
      by_cases c : n = 0
      · exact .inr c
      · refine .inl ((Int.le_ediv_iff_mul_le (by omega)).mpr ?_)
        omega
    rcases z with z | z
    · omega
    · omega
  · show decide (a.length * n.toNat > sizeLine) = false
    refine decide_eq_false ?_
    rw [sizeLine_eq]
    omega
  · by_cases c : n < 1
    · rw [if_pos c]
      have e : repS a n.toNat = Str.empty := by
        rw [show n.toNat = 0 by omega]
        rfl
      rw [e] at q
      exact ⟨by decide, .str Str.empty, H, I.tok _, ⟨_, rfl⟩, q⟩
    · rw [if_neg c]
      by_cases c2 : (n == 1 || a.length == 0) = true
      · rw [if_pos c2]
        have e : repS a n.toNat = a := by
          rcases Bool.or_eq_true _ _ ▸ c2 with z | z
          · have z : n = 1 := eq_of_beq z
            subst z
            show (⟨([a.cps.toList]).flatten.toArray⟩ : Str) = a
            simp
          · have z : a.cps.size = 0 := eq_of_beq z
            have z2 : a.cps.toList = [] := by
              rw [← List.length_eq_zero_iff, Array.length_toList]
              exact z
            unfold repS
            rw [z2]
            have : a = ⟨#[]⟩ := by
              cases a
              simp only at z
              rw [Array.eq_empty_of_size_eq_zero z]
            rw [this]
            simp
        rw [e] at q
        exact ⟨.str a, H, I, ⟨_, rfl⟩, q⟩
      · rw [if_neg c2, repS_fold]
        refine ⟨?_, .str (repS a n.toNat), H, I.tok _, ⟨_, rfl⟩, q⟩
        show (List.replicate n.toNat a.cps.toList).flatten.toArray.size ≤ sizeLine
        rw [List.size_toArray, List.length_flatten, List.map_replicate, List.sum_replicate_nat, Array.length_toList, sizeLine_eq]
        have : n.toNat * a.cps.size = a.length * n.toNat := Nat.mul_comm _ _
        omega
theorem op_add_bi : OpR X (binaryOp .Add) (fun x y H Q => ∃ (b : Bool) (n : Int), x = .bl b ∧ y = .int n ∧ Q (.int ((if b = true then 1 else 0) + n)) H) := by
  intro pins s σ H x y v u Q I rx ry h
  obtain ⟨b, n, rfl, rfl, q⟩ := h
  cases rx
  obtain ⟨t2, rfl⟩ := ry
  exact PySem.IntBool.add_bool_int ⟨.int _, H, I.tok _, ⟨_, rfl⟩, q⟩
theorem op_sub_bi : OpR X (binaryOp .Sub) (fun x y H Q => ∃ (b : Bool) (n : Int), x = .bl b ∧ y = .int n ∧ Q (.int ((if b = true then 1 else 0) - n)) H) := by
  intro pins s σ H x y v u Q I rx ry h
  obtain ⟨b, n, rfl, rfl, q⟩ := h
  cases rx
  obtain ⟨t2, rfl⟩ := ry
  exact PySem.IntBool.sub_bool_int ⟨.int _, H, I.tok _, ⟨_, rfl⟩, q⟩
theorem call_strB : CallR X (.type "str") (fun xs H Q => ∃ b : Bool, xs = [.bl b] ∧ Q (.str (if b then "True" else "False")) H) := by
  intro pins s σ H xs us Q I r h
  obtain ⟨b, rfl, q⟩ := h
  obtain ⟨u, rfl, rx⟩ := vals1 r
  cases rx
  exact PySem.P.str_of_bool ⟨.str _, H, I.tok _, ⟨_, rfl⟩, q⟩
theorem op_eq_bi : OpR X (compareOp .Eq) (fun x y H Q => ∃ (b : Bool) (n : Int), x = .bl b ∧ y = .int n ∧ Q (.bl ((if b then 1 else 0) == n)) H) := by
  intro pins s σ H x y v u Q I rx ry h
  obtain ⟨b, n, rfl, rfl, q⟩ := h
  cases rx
  obtain ⟨t2, rfl⟩ := ry
  exact PySem.EqBoolInt.eq_bool_int ⟨.bl _, H, I, rfl, q⟩
theorem op_ne0 (hu : X.A.units < cLine) : OpR X (compareOp .NotEq) (fun x y H Q => ∃ (a b : Addr) (xs : List V), x = .ref a ∧ y = .ref b ∧ SqT X.K H a xs ∧ SqT X.K H b [] ∧ Q (.bl (!decide (xs.length = 0))) H) := by
  intro pins s σ H x y v u Q I rx ry h
  obtain ⟨a, b, xs, rfl, rfl, ha, hb, q⟩ := h
  cases rx
  cases ry
  obtain ⟨its, r1, p1, _⟩ := I.tuple ha
  obtain ⟨its2, r2, p2, _⟩ := I.tuple hb
  cases r2
  have z := SeqAt.RcNeAt.tuples (A := X.A) (s := s) (e := fun _ => true) (items := its.toArray) (items2 := ([] : List Value).toArray) p1 p2 hu (fun j h1 h2 => absurd h2 (by simp))
  have e : (!((List.range (min its.toArray.size ([] : List Value).toArray.size)).all (fun _ => true) && its.toArray.size == ([] : List Value).toArray.size)) = (!decide (xs.length = 0)) := by
    have hl := r1.length
    rw [List.size_toArray, List.size_toArray, List.length_nil, Nat.min_zero, List.range_zero, List.all_nil, Bool.true_and, ← hl]
    rfl
  rw [e] at z
  exact PySem.EqBoolInt.of_rcne z ⟨.bl _, H, I, rfl, q⟩
end
end L2
set_option Elab.async false
set_option linter.all false
set_option maxRecDepth 100000
set_option maxHeartbeats 4000000
/-! t[::-1]; len(set(t)) of texts -/
namespace PySem
namespace RvT
open HT PyProof.Rows
theorem rev_pick {α : Type} : ∀ l : List α, ((List.range l.length).filterMap fun m => l[l.length - 1 - m]?) = l.reverse := by
  intro l
  refine List.ext_getElem? fun i => ?_
  have key : ∀ n ≤ l.length, ((List.range n).filterMap fun m => l[l.length - 1 - m]?) = (l.reverse).take n := by
    intro n
    induction n with
    | zero => intro _; rfl
    | succ n ih =>
      intro h
      have hn : n < l.reverse.length := by rw [List.length_reverse]; omega
      rw [List.range_succ, List.filterMap_append, ih (by omega), List.take_add_one]
      congr 1
      have e : l[l.length - 1 - n]? = l.reverse[n]? := (List.getElem?_reverse (by omega)).symm
      show (match l[l.length - 1 - n]? with | none => [] | some b => [b]) = _
      rw [e, List.getElem?_eq_getElem hn]
      rfl
  rw [key l.length (Nat.le_refl _), ← List.length_reverse (as := l), List.take_length]
section
variable {prog : Program} {w : World} {A : Around} {E : Value → Shared → Prop} {s : Shared}
theorem applied_rev {sl : Addr} {t : Tok} {n : Nat} {Q : Int × Int × Nat → Shared → Prop} (hs : s.heap.IsSliceOf sl .none .none (.int (-1) t))
    (h : Q ((n : Int) - 1, -1, n) s) : wpAny (model prog w) A (Builtin.Slice.sliceApplied (.ref sl) (pure (n : Int))) Q E s := by
  obtain ⟨os, hos, hcs, hds⟩ := id hs
  unfold Builtin.Slice.sliceApplied Builtin.Slice.sliceFields
  refine wpAny_bind (wpAny_bind (wpAny_field hos hds (x := .none) rfl (wpAny_bind (wpAny_field hos hds (x := .none) rfl (wpAny_bind (wpAny_field hos hds (x := .int (-1) t) rfl (wpAny_pure ?_)))))))
  refine wpAny_bind (slicePart_ (.int (-1) t) ?_)
  show wpAny _ _ (if ((-1 : Int) == 0) = true then _ else _) _ _ s
  rw [if_neg (by decide)]
  refine wpAny_bind (slicePart_ .none (wpAny_bind (slicePart_ .none (wpAny_bind (wpAny_pure ?_)))))
  have e : Builtin.Slice.slicePlaces ((n : Int) - 1) (-1) (-1) = n := by
    unfold Builtin.Slice.slicePlaces
    rw [if_neg (by decide)]
    by_cases c : n = 0
    · subst c
      decide
    · rw [if_pos (by omega), Int.neg_neg, Int.ediv_one]
      omega
  show wpAny _ _ (pure ((n : Int) - 1, (-1 : Int), Builtin.Slice.slicePlaces ((n : Int) - 1) (-1) (-1))) _ _ s
  rw [e]
  exact wpAny_pure h
theorem getItem_rev {t sl : Addr} {items : Array Value} {u : Tok} {Q : Value → Shared → Prop} (ht : IsTup s.heap t items) (hs : s.heap.IsSliceOf sl .none .none (.int (-1) u))
    (h : Q (.ref s.heap.objs.size) { s with heap := s.heap.push { cls := .type "tuple", data := .seq items.toList.reverse.toArray } })
    (hsz : items.size ≤ sizeLine) : wpAny (model prog w) A (getItem (.ref t) (.ref sl)) Q E s := by
  have hok : sizeOk (.seq items.toList.reverse.toArray) := by
    show items.toList.reverse.toArray.size ≤ sizeLine
    rw [List.size_toArray, List.length_reverse, Array.length_toList]
    exact hsz
  obtain ⟨os, hos, hcs, hds⟩ := id hs
  have hTs : s.TypeIs (.ref sl) "slice" := ⟨os, hos, hcs⟩
  unfold getItem
  try with_reducible refine wpAny_holding ?_
  first | refine wpAny_bind (wpAny_pure ?_) | skip
  refine wpAny_bind (wpAny_sequenceKey ht.typeIs (by decide) ?_)
  refine wpAny_bind (wpAny_callSpecial?_slot (name := Str.ofString "__getitem__") ht.typeIs PyProof.Rows.slot_tuple_getitem
    (wpAny_call_entry PyProof.Rows.slot_tuple_getitem ht.typeIs entry_tuple_getitem ?_ (args_tuple_getitem _ _)))
  show wpAny _ _ (Builtin.Tuple.tupleItemsOf (.ref t) >>= _) _ _ s
  refine wpAny_bind (tupleItemsOf_ ht (wpAny_bind (wpAny_typeOf hTs ?_)))
  rw [if_pos (by decide)]
  refine wpAny_bind (applied_rev hs ?_)
  have hno : ¬ (((items.size : Int) - 1 == 0 && (-1 : Int) == 1 && items.size == items.size) = true) := by
    intro q
    rw [Bool.and_eq_true, Bool.and_eq_true] at q
    exact absurd q.1.2 (by decide)
  have pk : ((List.range items.size).filterMap fun (m : Nat) => items[((items.size : Int) - 1 + (m : Int) * (-1)).toNat]?) = items.toList.reverse := by
    rw [← rev_pick items.toList, Array.length_toList]
    congr 1
    funext m
    rw [Array.getElem?_toList]
    congr 1
    omega
  show wpAny _ _ (if ((items.size : Int) - 1 == 0 && (-1 : Int) == 1 && items.size == items.size) = true then _ else _) _ _ s
  rw [if_neg hno, pk]
  first
    | exact wpAny_bind (m := Builtin.Tuple.tupleExact _) (wpAny_newObj_type (wpAny_pure ⟨_, rfl, wpAny_pure h⟩) hok)
    | exact wpAny_bind (m := Builtin.Tuple.tupleExact _) (wpAny_newObj_type (wpAny_bind (wpAny_pure (wpAny_pure ⟨_, rfl, wpAny_pure h⟩))) hok)
    | exact wpAny_bind (wpAny_bind (m := Builtin.Tuple.tupleExact _) (wpAny_newObj_type (wpAny_pure (wpAny_pure ⟨_, rfl, wpAny_pure h⟩)) hok))
    | exact wpAny_bind (wpAny_bind (m := Builtin.Tuple.tupleExact _) (wpAny_newObj_type (wpAny_pure ⟨_, rfl, wpAny_pure h⟩) hok))
end
end RvT
end PySem
namespace L2
open PySem PySem.Spec PyProof.Rows
def tRevT (K : PySem.W.Frag) (te tst : TE) : TE := fun σ H Q => te σ H fun x H1 => tst σ H1 fun y H2 => ∃ (a : Addr) (xs : List V), x = .ref a ∧ y = .int (-1) ∧ SqT K H2 a xs ∧ ∀ p, H2 p = none → Q (.ref p) (upd H2 p (.tup xs.reverse))
theorem vals_rev {xs : List V} {us : List Value} (r : Vals xs us) : Vals xs.reverse us.reverse := by
  induction r with
  | nil => exact .nil
  | cons h t ih =>
    rw [List.reverse_cons, List.reverse_cons]
    exact Paired.snoc ih h
theorem pe_revT {X : Cx} {e st : Expr} {te tst : TE} {pos p2 : Pos} (he : PE X e te) (hst : PE X st tst) : PE X (.Subscript e (.Slice none none (some st) p2) pos) (tRevT X.K te tst) := by
  refine ⟨fun pins s σ H Q I h => ?_⟩
  refine Subscript_ (thn (he.run pins s σ H _ I h) fun v s1 ⟨x, H1, I1, r1, q1⟩ => ?_)
  refine wpAny_Slice ?_
  rw [evalPart_none]
  refine wpAny_pure (wpAny_pure ?_)
  rw [evalPart_some]
  refine thn (hst.run pins s1 σ H1 _ I1 q1) fun u s2 ⟨y, H2, I2, ry, a, xs, ex, ey, hq, q2⟩ => ?_
  subst ex ey
  cases r1
  obtain ⟨tk, rfl⟩ := ry
  have I3 : Inv X pins σ H2 { s2 with heap := s2.heap.push { cls := .type "slice", data := .fields #[.none, .none, .int (-1) tk] } } := I2.kept (t' := s2.toks) fun b ob q => Heap.get?_push_of_some _ q
  obtain ⟨its, rv, ht, hz⟩ := I3.tuple hq
  have hl := rv.length
  have hg : wpAny (model X.prog X.w) X.A (getItem (.ref a) (.ref s2.heap.objs.size)) (EP X pins σ Q) X.xe { s2 with heap := s2.heap.push { cls := .type "slice", data := .fields #[.none, .none, .int (-1) tk] } } := by
    refine PySem.RvT.getItem_rev (items := its.toArray) ht (Heap.IsSliceOf.new ..) ?_ (by rw [List.size_toArray, ← hl]; exact hz)
    refine ⟨.ref _, _, I3.laid (t' := s2.toks) (o := .tup xs.reverse) (fun b ob q => Heap.get?_push_of_some _ q) (Nat.le_refl _) ?_, rfl, q2 _ (I3.hok.fresh (Nat.le_refl _))⟩
    exact ⟨by rw [List.length_reverse]; exact hz, _, vals_rev rv, IsTup.new _ _⟩
  show wpAny (model X.prog X.w) X.A (subscriptTail e (.Slice none none (some st) p2) (.ref a) (.ref s2.heap.objs.size)) (EP X pins σ Q) X.xe _
  first
    | exact tail_any (ops := [.ref s2.heap.objs.size, .ref a]) ht.typeIs PyProof.Rows.slot_tuple_getitem.lookup hg (by with_unfolding_all rfl)
    | exact tail_any (ops := [.ref a, .ref s2.heap.objs.size]) ht.typeIs PyProof.Rows.slot_tuple_getitem.lookup hg (by with_unfolding_all rfl)
end L2
set_option Elab.async false
set_option linter.all false
set_option maxRecDepth 100000
set_option maxHeartbeats 4000000
/-! len(set(t)) of a tuple of texts -/
namespace SSn
open PySem PySem.Spec PyProof.Rows SS
/-- how many different ones, the last first -/
def cardR : List Str → Nat
  | [] => 0
  | x :: r => if r.any (· == x) then cardR r else cardR r + 1
def card (l : List Str) : Nat := cardR l.reverse
theorem card_snoc (l : List Str) (x : Str) : card (l ++ [x]) = if l.any (· == x) then card l else card l + 1 := by
  unfold card
  rw [List.reverse_append, List.reverse_singleton, List.singleton_append]
  show (if l.reverse.any (· == x) then _ else _) = _
  rw [List.any_reverse]
theorem cardR_le : ∀ l : List Str, cardR l ≤ l.length
  | [] => Nat.le_refl _
  | x :: r => by
    have := cardR_le r
    unfold cardR
    rw [List.length_cons]
    split <;> omega
theorem card_le (l : List Str) : card l ≤ l.length := by
  have := cardR_le l.reverse
  rw [List.length_reverse] at this
  exact this
theorem cardR_eq : ∀ l : List Str, cardR l = l.length ↔ l.Nodup
  | [] => ⟨fun _ => List.nodup_nil, fun _ => rfl⟩
  | x :: r => by
    have ih := cardR_eq r
    have le := cardR_le r
    unfold cardR
    rw [List.length_cons, List.nodup_cons]
    by_cases c : r.any (· == x) = true
    · rw [if_pos c]
      have m : x ∈ r := by
        obtain ⟨y, hy, e⟩ := List.any_eq_true.mp c
        rw [← beq_iff_eq.mp e]
        exact hy
      exact ⟨fun z => by omega, fun z => absurd m z.1⟩
    · rw [if_neg c]
      have m : x ∉ r := fun z => c (List.any_eq_true.mpr ⟨x, z, beq_self_eq_true x⟩)
      exact ⟨fun z => ⟨m, ih.mp (by omega)⟩, fun z => by rw [ih.mpr z.2]⟩
theorem card_eq (l : List Str) : card l = l.length ↔ l.Nodup := by
  have k := cardR_eq l.reverse
  rw [List.length_reverse] at k
  unfold card
  rw [k]
  exact List.pairwise_reverse.trans ⟨fun h => h.imp fun z e => z e.symm, fun h => h.imp fun z e => z e.symm⟩
section
variable {prog : Program} {w : World} {A : Around} {R : Result → Shared → Prop} {I : Addr} {fp wr : List Addr} {G : Array GenState → Array GenState → Prop} {n : Nat} {P : Nat → Value → Prop} {St : Nat → Shared → Prop}
theorem loopStrs (W : WalksS prog w A.in1 I fp wr G n P St) (S : Addr) (hSf : S ∉ fp) (xs : List Str) (hsz : xs.length = n) (hb : n + 1 < scanBound)
    (hval : ∀ i v, P i v → ∃ t, v = .str (xs.getD i Str.empty) t) :
    ∀ (k i : Nat) (s : Shared), n - i = k → i ≤ n → St i s → s.heap.SetOf (PySem.strKind prog w) S (fun k' => (xs.take i).any (· == k')) (card (xs.take i)) →
      (∀ s', Moved (S :: wr) G s s' → s'.heap.SetOf (PySem.strKind prog w) S (fun k' => (xs.take n).any (· == k')) (card (xs.take n)) → R (.ok (.ret .none)) s') →
      codeAny (model prog w) A (.builtin "set.update.loop" ⟨[.ref S, .ref I], []⟩) R s := by
  have hSw : S ∉ wr := fun h => hSf (W.sub _ h)
  have hin : ∀ b ∈ wr, b ∈ S :: wr := fun b hb => List.mem_cons_of_mem _ hb
  intro k
  induction k with
  | zero =>
    intro i s hk hi hst hS hR
    obtain rfl : i = n := by omega
    refine codeAny_builtin PyProof.Rows.F.entry_set_update_loop ?_
    rw [Around.under_plainId PyProof.Rows.F.plain_set_update_loop _]
    show wpAny _ A.in1 (pyNext (.ref I) >>= _) _ _ s
    refine wpAny_bind (W.done s _ _ hst fun s' hm => ?_)
    show wpAny _ A.in1 (ret Value.none) _ _ s'
    obtain ⟨o, es, ep, t, ho, rest⟩ := hS
    exact wpAny_pure (hR s' (hm.mono hin) ⟨o, es, ep, t, hm.heap S _ hSw ho, rest⟩)
  | succ k ih =>
    intro i s hk hi hst hS hR
    have hlt : i < n := by omega
    refine codeAny_builtin PyProof.Rows.F.entry_set_update_loop ?_
    rw [Around.under_plainId PyProof.Rows.F.plain_set_update_loop _]
    show wpAny _ A.in1 (pyNext (.ref I) >>= _) _ _ s
    refine wpAny_bind (W.item i s _ _ hlt hst fun v s' hP hst' hm => ?_)
    obtain ⟨t, rfl⟩ := hval i v hP
    have hS' : s'.heap.SetOf (PySem.strKind prog w) S (fun k' => (xs.take i).any (· == k')) (card (xs.take i)) := by
      obtain ⟨o, es, ep, tb, ho, rest⟩ := hS
      exact ⟨o, es, ep, tb, hm.heap S _ hSw ho, rest⟩
    show wpAny _ A.in1 (holding [Value.str (xs.getD i Str.empty) t] (setAdd S (.str (xs.getD i Str.empty) t)) >>= _) _ _ s'
    refine wpAny_bind (wpAny_holding ?_)
    unfold setAdd
    refine wpAny_holding (wpAny_bind ((PySem.strKind prog w).pyHash (k := xs.getD i Str.empty) (strKind_is _ _ _ _) ?_))
    have room : card (xs.take i) + 1 < scanBound := by
      have := card_le (xs.take i)
      rw [List.length_take] at this
      omega
    refine wpAny_setAddHashed_of (knd := PySem.strKind prog w) (s := { s' with toks := s'.toks + 1 }) (strKind_is _ _ _ _) rfl hS' room fun h' hsb hS2 => ?_
    have il : i < xs.length := by omega
    have ex : xs.getD i Str.empty = xs[i] := by
      rw [List.getD_eq_getElem?_getD, List.getElem?_eq_getElem il]
      rfl
    have et : xs.take (i + 1) = xs.take i ++ [xs[i]] := by
      rw [List.take_add_one, List.getElem?_eq_getElem il]
      rfl
    have hSi : h'.SetOf (PySem.strKind prog w) S (fun k' => (xs.take (i + 1)).any (· == k')) (card (xs.take (i + 1))) := by
      refine SetOf_congr hS2 (fun k' => ?_) ?_
      · rw [et, List.any_append, ex]
        congr 1
        rw [List.any_cons, List.any_nil, Bool.or_false]
        by_cases c : k' = xs[i]
        · rw [decide_eq_true c, c, beq_self_eq_true]
        · rw [decide_eq_false c, beq_eq_false_iff_ne.mpr fun z => c z.symm]
      · rw [et, card_snoc, ex]
    refine wpAny_pure ⟨plainId_quiet PyProof.Rows.F.plain_set_update_loop _, ih (i + 1) _ (by omega) hlt (W.frame _ s' _ _ hst' (Nat.le_succ _) fun b hb o e => ?_) hSi fun s'' hm'' hS'' => ?_⟩
    · rw [hsb.2 b (fun h : b = S => hSf (by rw [← h]; exact hb))]; exact e
    · refine hR s'' (Moved.trans W.gtrans ((hm.mono hin).then_heap (Nat.le_succ _) fun b o hb e => ?_) hm'') hS''
      rw [hsb.2 b (fun h : b = S => hb (by rw [h]; exact List.mem_cons_self))]; exact e
end
section
variable {prog : Program} {w : World} {A : Around} {E : Value → Shared → Prop} {s : Shared}
set_option maxHeartbeats 3200000 in
theorem call_set_strs {l : Addr} {items : Array Value} {xs : List Str} {Q : Value → Shared → Prop} (hh : A.handled = none) (hl : s.heap.IsTuple l items) (hi : PyProof.Rows.StrsAre items.toList xs) (hb : xs.length + 1 < scanBound)
    (h : ∀ (h' : Heap) (tk : Nat), h'.SetOf (PySem.strKind prog w) s.heap.objs.size (fun k' => xs.any (· == k')) (card xs) →
      (∀ b o, b < s.heap.objs.size → s.heap.get? b = some o → h'.get? b = some o) → Q (.ref s.heap.objs.size) { s with heap := h', toks := tk }) :
    wpAny (model prog w) A (call (.type "set") [.ref l]) Q E s := by
  have hsz : xs.length = items.size := by rw [← StrsAre.len_eq hi, Array.length_toList]
  obtain ⟨c, tl, hmro⟩ := PySem.F.called_set.mro
  have hmade := PySem.F.called_set.made
  have hsub := PySem.F.called_set.sub
  refine wpAny_call (codeAny_of_tree ?_)
  show wpAny _ _ (callAny (.type "set") _) _ _ _
  refine wpAny_pure ⟨Code.quiet_builtin _ (by decide +kernel), codeAny_builtin PySem.F.entry_type_call ?_⟩
  rw [Around.under_plain (weight_type_call_type "set" [.ref l] []) rfl]
  have h1 := PySem.F.called_set.notType
  have h2 := PySem.F.called_set.canCreate
  have hct := PySem.F.typeCall_set_1 (.ref l)
  repeat (any_goals (first | assumption | wp_step))
  refine codeAny_mono (code_set_new_1 (.ref l) (E := E) (Q₁ := fun obj s₁ => ∃ led : Bool, obj = .ref s.heap.objs.size ∧ s₁ = { s with heap := s.heap.push { cls := .type "set", dict := none, data := .set #[] 0 (.fresh 0 0 led) } }) fun led => ⟨led, rfl, rfl⟩) fun r s₁ hr => ?_
  cases r with
  | error e => exact hr
  | ok fl =>
    cases fl with
    | ret obj =>
      obtain ⟨led, rfl, rfl⟩ := hr
      let h0 := s.heap.push { cls := .type "set", dict := none, data := .set #[] 0 (.fresh 0 0 led) }
      have hS : h0.get? s.heap.objs.size = some { cls := .type "set", dict := none, data := .set #[] 0 (.fresh 0 0 led) } := Heap.get?_push_size _ rfl
      have hT : Shared.TypeIs { s with heap := h0 } (.ref s.heap.objs.size) "set" := ⟨_, hS, rfl⟩
      have hli := PySem.F.called_set.init.lookup
      have hbi := PySem.F.called_set.init.bind (.ref s.heap.objs.size)
      repeat (any_goals (first | assumption | wp_step))
      refine codeAny_mono (codeAny_call_builtin (R := wants (fun r s₂ => r = .none ∧ ∃ h' tk, s₂ = { s with heap := h', toks := tk } ∧ h'.SetOf (PySem.strKind prog w) s.heap.objs.size (fun k' => xs.any (· == k')) (card xs) ∧
          (∀ b o, b < s.heap.objs.size → s.heap.get? b = some o → h'.get? b = some o)) E) PySem.F.called_set.init.plain PySem.F.entry_set_init (check_set_init_1 hT ?_)) fun r₂ s₂ hr₂ => ?_
      · obtain ⟨ol, hol, hcl, nl, hdl⟩ := hl
        obtain ⟨ocls, odict, odata, oslots⟩ := ol
        simp only at hcl hdl
        subst hcl; subst hdl
        have hol' : h0.get? l = some { cls := .type "tuple", dict := odict, data := .seq items nl, slots := oslots } := Heap.get?_push_of_some _ hol
        have hsls := PySem.F.sub_tuple_set
        have hslf := PySem.F.sub_tuple_frozenset
        have hne : (Value.type "tuple" == Value.type "dict") = false := by decide
        have hl1 : h0.IsTuple l items := ⟨_, hol', rfl, nl, rfl⟩
        unfold Builtin.«set.__init__» noKeywords Builtin.Frozenset.updateFrom
        generalize hPI : pyIter = PI
        wp_walk
        subst hPI
        refine wpAny_pyIter_tuple hl1 (wpAny_bind (wpAny_runValue ?_))
        have hlS : l < s.heap.objs.size := Heap.lt_size hol
        have hh3 : A.in1.in1.in1.handled = none := by simp [hh]
        have z0 : h0.objs.size = s.heap.objs.size + 1 := Heap.size_push ..
        have hneI : l ≠ h0.objs.size := by
          rw [z0]; exact Nat.ne_of_lt (Nat.lt_succ_of_lt hlS)
        have hSf : s.heap.objs.size ∉ [h0.objs.size, l] := by
          rw [z0]; simp only [List.mem_cons, List.mem_singleton, List.not_mem_nil, or_false, not_or]
          exact ⟨Nat.ne_of_lt (Nat.lt_succ_self _), Nat.ne_of_gt hlS⟩
        have hval : ∀ (i : Nat) (v : Value), items[i]? = some v → ∃ t, v = .str (xs.getD i Str.empty) t := fun i v hv => SS.strs_at hi i v (by rw [Array.getElem?_toList]; exact hv)
        refine loopStrs ((Walks.tuple hh3 _ l hneI items).toS) s.heap.objs.size hSf xs hsz (by rw [← hsz]; exact hb) hval (items.size - 0) 0 _ (by omega) (Nat.zero_le _)
          ⟨⟨_, Heap.get?_push_size _ rfl, rfl, rfl⟩, (hl1.push _)⟩ ?hS0 ?hR
        case hS0 =>
          have hget : (h0.push { cls := .type "tuple_iterator", data := .fields #[.ref l, .int 0 0] }).get? s.heap.objs.size = some { cls := .type "set", dict := none, data := .set #[] 0 (.fresh 0 0 led) } := Heap.get?_push_of_some _ hS
          exact PyProof.Rows.SetOf_congr ((PyProof.Rows.setObjOf_fresh (knd := PySem.strKind prog w) led).setOf hget (by unfold scanBound; omega)) (fun _ => rfl) rfl
        case hR =>
          intro s' hm hS'
          rw [← hsz, List.take_length] at hS'
          obtain ⟨h', g', d', tk', os'⟩ := s'
          have eg : g' = s.gens := hm.gens
          have ed : d' = s.drawn := hm.drawn
          have eo : os' = s.os := hm.os
          subst eg; subst ed; subst eo
          show wpAny _ _ _ _ _ _
          refine wpAny_pure ?_
          show wpAny _ _ (ret Value.none) _ _ _
          refine wpAny_pure ⟨rfl, h', tk', rfl, hS', fun b o hb e => ?_⟩
          have hb2 : b ≠ h0.objs.size := by
            rw [z0]; exact Nat.ne_of_lt (Nat.lt_succ_of_lt hb)
          exact hm.heap b o (by simp only [List.mem_cons, List.mem_singleton, List.not_mem_nil, or_false, not_or]; exact ⟨Nat.ne_of_lt hb, hb2⟩) (Heap.get?_push_of_some _ (Heap.get?_push_of_some _ e))
      · cases r₂ with
        | error e => exact hr₂
        | ok fl₂ =>
          cases fl₂ with
          | ret r =>
            obtain ⟨rfl, h', tk, rfl, hS', hk'⟩ := hr₂
            repeat (any_goals (first | assumption | wp_step))
            exact h _ _ hS' hk'
          | _ => exact hr₂.elim
    | _ => exact hr.elim
end
end SSn
namespace L2
open PySem PySem.Spec PyProof.Rows
/-- len(set(t)), t a tuple of texts -/
def tLenSetN (K : PySem.W.Frag) (ta : TE) : TE := fun σ H Q => ta σ H fun x H1 => ∃ (l : Addr) (xs : List Str), x = .ref l ∧ SqT K H1 l (xs.map V.str) ∧ xs.length ≤ 1000 ∧ Q (.int (SSn.card xs)) H1
theorem pe_lenSetN {X : Cx} {a : Expr} {ta : TE} {p p2 q pos : Pos} (hc : X.calm = true) (hg : Gl X "len") (hm : X.mg "len" = none) (hg2 : Gl X "set") (hm2 : X.mg "set" = none) (ha : PE X a ta)
    (na : starEach [a] X.env = (false, eval a X.env) :: starEach [] X.env := by rfl) : PE X (.Call (.Name "len" p) [.Call (.Name "set" p2) [a] [] q] [] pos) (tLenSetN X.K ta) := by
  refine ⟨fun pins s σ H Q I h => ?_⟩
  refine Call_ (ld_blt I hg hm boot_len ?_)
  refine PyProof.Rows.callWith_builtin1 (PyProof.Rows.args_cons ?_ rfl) rfl rfl
  refine Call_ (ld_blt I hg2 hm2 boot_set ?_)
  refine PyProof.Rows.callWith_type1 (PyProof.Rows.args_cons (thn (ha.run pins s σ H _ I h) fun v s1 ⟨x, H1, I1, r1, q1⟩ => PyProof.Rows.args_nil ?_) na) na rfl
  obtain ⟨l, xs, rfl, hq, h1, q1⟩ := q1
  cases r1
  obtain ⟨its, r, pl, hz⟩ := I1.tuple hq
  refine SSn.call_set_strs (I1.ok.hd hc) pl (by simpa using strsAre_of r) (by unfold scanBound; omega) fun h' tk hS hk => ?_
  refine PyProof.Rows.args_nil ?_
  obtain ⟨o, es, ep, t, ho, hex, hd, _, _, _, hf, hn⟩ := hS
  have I2 : Inv X pins σ H1 { s1 with heap := h', toks := tk } := I1.kept fun b o e => hk b o (Heap.lt_size e) e
  have cl := SSn.card_le xs
  exact call_len_set ho hex hd hf (by rw [hn] <;> omega) ⟨.int (SSn.card xs), H1, I2.tok _, ⟨_, by rw [hn]⟩, q1⟩
end L2
set_option Elab.async false
set_option linter.all false
set_option maxRecDepth 100000
set_option maxHeartbeats 4000000
/-! data of bounded weight: what repr says of it is short -/
namespace L2
open PySem PySem.Spec PyProof.Rows
mutual
def wt : PyData → Nat
  | .str x => x.length + 1
  | .list ds => wtA ds + 1
  | .tuple ds => wtA ds + 1
  | .dict kvs => wtK kvs + 1
  | .none => 1
  | .bool _ => 1
  | .int _ => 1
def wtA : List PyData → Nat
  | [] => 0
  | d :: ds => wt d + wtA ds
def wtK : List (PyData × PyData) → Nat
  | [] => 0
  | (k, d) :: ds => wt k + wt d + wtK ds
end
def ascii (x : Str) : Prop := ∀ c ∈ x.cps.toList, c < 128
mutual
/-- whole numbers of at most b, texts of plain signs, at most b - 20 items -/
def okD (b : Int) : PyData → Prop
  | .str x => ascii x
  | .list ds => (ds.length : Int) + 20 ≤ b ∧ okA b ds
  | .tuple ds => (ds.length : Int) + 20 ≤ b ∧ okA b ds
  | .dict kvs => okK b kvs
  | .none => True
  | .bool _ => True
  | .int i => -b ≤ i ∧ i ≤ b
def okA (b : Int) : List PyData → Prop
  | [] => True
  | d :: ds => okD b d ∧ okA b ds
def okK (b : Int) : List (PyData × PyData) → Prop
  | [] => True
  | (k, d) :: ds => okD b k ∧ okD b d ∧ okK b ds
end
theorem wt_pos : ∀ d : PyData, 1 ≤ wt d
  | .str x => by unfold wt; omega
  | .list ds => by unfold wt; omega
  | .tuple ds => by unfold wt; omega
  | .dict kvs => by unfold wt; omega
  | .none => by unfold wt; omega
  | .bool _ => by unfold wt; omega
  | .int _ => by unfold wt; omega
theorem wtA_app : ∀ (xs ys : List PyData), wtA (xs ++ ys) = wtA xs + wtA ys
  | [], ys => by simp [wtA]
  | x :: xs, ys => by
    show wt x + wtA (xs ++ ys) = wt x + wtA xs + wtA ys
    rw [wtA_app xs ys]
    omega
theorem okA_iff {b : Int} : ∀ {ds : List PyData}, okA b ds ↔ ∀ d ∈ ds, okD b d
  | [] => by simp [okA]
  | d :: ds => by
    unfold okA
    rw [okA_iff (ds := ds)]
    simp
theorem wtA_sub : ∀ {xs ys : List PyData}, xs.Sublist ys → wtA xs ≤ wtA ys
  | _, _, .slnil => Nat.le_refl _
  | _, _, .cons a h => by
    have := wtA_sub h
    simp only [wtA]
    omega
  | _, _, .cons₂ a h => by
    have := wtA_sub h
    simp only [wtA]
    omega
theorem wtA_perm {xs ys : List PyData} (h : xs.Perm ys) : wtA xs = wtA ys := by
  induction h with
  | nil => rfl
  | cons x _ ih => simp only [wtA, ih]
  | swap x y l => simp only [wtA]; omega
  | trans _ _ h1 h2 => rw [h1, h2]
theorem wtA_len : ∀ ds : List PyData, ds.length ≤ wtA ds
  | [] => Nat.le_refl _
  | d :: ds => by
    have := wtA_len ds
    have := wt_pos d
    unfold wtA
    rw [List.length_cons]
    omega
theorem wt_mem : ∀ {ds : List PyData} {d : PyData}, d ∈ ds → wt d ≤ wtA ds
  | e :: ds, d, h => by
    unfold wtA
    rcases List.mem_cons.mp h with z | z
    · rw [z]
      omega
    · have := wt_mem z
      omega
mutual
theorem okD_mono {b c : Int} (h : b ≤ c) : ∀ d : PyData, okD b d → okD c d
  | .str x, o => o
  | .list ds, o => ⟨Int.le_trans o.1 h, okA_mono h ds o.2⟩
  | .tuple ds, o => ⟨Int.le_trans o.1 h, okA_mono h ds o.2⟩
  | .dict kvs, o => okK_mono h kvs o
  | .none, o => o
  | .bool _, o => o
  | .int i, o => by
    unfold okD at o ⊢
    omega
theorem okA_mono {b c : Int} (h : b ≤ c) : ∀ ds : List PyData, okA b ds → okA c ds
  | [], o => o
  | d :: ds, o => ⟨okD_mono h d o.1, okA_mono h ds o.2⟩
theorem okK_mono {b c : Int} (h : b ≤ c) : ∀ ds : List (PyData × PyData), okK b ds → okK c ds
  | [], o => o
  | (k, d) :: ds, o => ⟨okD_mono h k o.1, okD_mono h d o.2.1, okK_mono h ds o.2.2⟩
end
theorem int_shown {i : Int} (h0 : -300 ≤ i) (h1 : i ≤ 300) : PyData.showable (.int i) = true ∧ (PyData.shown (.int i)).length ≤ 4 := by
  have k : ∀ j : _root_.Fin 601, (PyData.showable (.int ((j.1 : Int) - 300)) && decide ((PyData.shown (.int ((j.1 : Int) - 300))).length ≤ 4)) = true := by decide +kernel
  have z := k ⟨(i + 300).toNat, by omega⟩
  have e : (((i + 300).toNat : Nat) : Int) - 300 = i := by omega
  dsimp only at z
  rw [e] at z
  obtain ⟨z1, z2⟩ := He.ba z
  exact ⟨z1, of_decide_eq_true z2⟩
/-- how long the texts of parts are, each with two more -/
def piles : List Str → Nat
  | [] => 0
  | t :: ts => t.length + 2 + piles ts
theorem join_piles : ∀ ts : List Str, (Str.join ", " ts).length ≤ piles ts
  | [] => Nat.zero_le _
  | [x] => by
    show x.length ≤ x.length + 2 + 0
    omega
  | x :: y :: r => by
    have ih := join_piles (y :: r)
    show (x ++ ", " ++ Str.join ", " (y :: r)).length ≤ x.length + 2 + piles (y :: r)
    have e2 : ((", " : String) : Str).length = 2 := rfl
    rw [strLen_append, strLen_append, e2]
    omega
theorem from_piles : ∀ (ts : List Str) (k : Nat) (acc : Str), (textFrom k acc ts).length ≤ acc.length + piles ts
  | [], k, acc => Nat.le_refl _
  | t :: ts, k, acc => by
    have ih := from_piles ts (k + 1) (acc ++ (if k > 0 then ", " else "" : String) ++ t)
    show (textFrom (k + 1) (acc ++ (if k > 0 then ", " else "" : String) ++ t) ts).length ≤ acc.length + (t.length + 2 + piles ts)
    have e : (acc ++ (if k > 0 then ", " else "" : String) ++ t).length ≤ acc.length + 2 + t.length := by
      rw [strLen_append, strLen_append]
      have : (((if k > 0 then ", " else "" : String)) : Str).length ≤ 2 := by
        split
        · exact Nat.le_refl _
        · exact Nat.zero_le _
      omega
    omega
mutual
theorem short : ∀ d : PyData, okD 300 d → d.showable = true ∧ d.shown.length + 2 ≤ 16 * wt d
  | .none, _ => ⟨rfl, by decide +kernel⟩
  | .bool b, _ => ⟨rfl, by cases b <;> decide +kernel⟩
  | .int i, o => by
    unfold okD at o
    obtain ⟨a, b⟩ := int_shown o.1 o.2
    refine ⟨a, ?_⟩
    unfold wt
    omega
  | .str x, o => by
    unfold okD at o
    refine ⟨rfl, ?_⟩
    have z := PySem.StrLaws.reprText_len x fun c hc => Nat.lt_trans (o c hc) (by decide)
    unfold PyData.shown wt
    omega
  | .list ds, o => by
    obtain ⟨a, b⟩ := shortA ds o.2
    refine ⟨a, ?_⟩
    unfold PyData.shown wt listText
    rw [strLen_append]
    have z := from_piles (PyData.shownAll ds) 0 "["
    have e1 : ((("[" : String)) : Str).length = 1 := rfl
    have e2 : ((("]" : String)) : Str).length = 1 := rfl
    omega
  | .tuple ds, o => by
    obtain ⟨a, b⟩ := shortA ds o.2
    refine ⟨a, ?_⟩
    unfold PyData.shown wt tupleText
    rw [strLen_append, strLen_append]
    have z := join_piles (PyData.shownAll ds)
    have e1 : ((("(" : String)) : Str).length = 1 := rfl
    have e2 : ((if (PyData.shownAll ds).length == 1 then ",)" else ")" : String) : Str).length ≤ 2 := by
      split
      · decide +kernel
      · decide +kernel
    omega
  | .dict kvs, o => by
    obtain ⟨a, b⟩ := shortK kvs o
    refine ⟨a, ?_⟩
    unfold PyData.shown wt dictText
    rw [strLen_append, strLen_append]
    have z := join_piles (PyData.shownKv kvs)
    have e1 : ((("{" : String)) : Str).length = 1 := rfl
    have e2 : ((("}" : String)) : Str).length = 1 := rfl
    omega
theorem shortA : ∀ ds : List PyData, okA 300 ds → PyData.showableAll ds = true ∧ piles (PyData.shownAll ds) ≤ 16 * wtA ds
  | [], _ => ⟨rfl, Nat.le_refl _⟩
  | d :: ds, o => by
    obtain ⟨a, b⟩ := short d o.1
    obtain ⟨a2, b2⟩ := shortA ds o.2
    unfold PyData.showableAll PyData.shownAll wtA
    refine ⟨by rw [a, a2]; rfl, ?_⟩
    show d.shown.length + 2 + piles (PyData.shownAll ds) ≤ _
    omega
theorem shortK : ∀ ds : List (PyData × PyData), okK 300 ds → PyData.showableKv ds = true ∧ piles (PyData.shownKv ds) ≤ 16 * wtK ds
  | [], _ => ⟨rfl, Nat.le_refl _⟩
  | (k, d) :: ds, o => by
    obtain ⟨a, b⟩ := short k o.1
    obtain ⟨a1, b1⟩ := short d o.2.1
    obtain ⟨a2, b2⟩ := shortK ds o.2.2
    unfold PyData.showableKv PyData.shownKv wtK
    refine ⟨by rw [a, a1, a2]; rfl, ?_⟩
    show (k.shown ++ ": " ++ d.shown).length + 2 + piles (PyData.shownKv ds) ≤ _
    have e : (((": " : String)) : Str).length = 2 := rfl
    rw [strLen_append, strLen_append, e]
    omega
end
/-- data that may be asked of: its weight, its depth, its numbers -/
structure Bd (d : PyData) (W k : Nat) (b : Int) : Prop where
  ok : okD b d
  w : wt d ≤ W
  dp : d.depth ≤ k
theorem Bd.fit {d : PyData} {W k : Nat} {b : Int} (h : Bd d W k b) (hb : b ≤ 300) : Fit d k (16 * W) := by
  obtain ⟨a, c⟩ := short d (okD_mono hb d h.ok)
  have := h.w
  exact ⟨a, h.dp, by omega⟩
theorem Bd.mono {d : PyData} {W k W' k' : Nat} {b b' : Int} (h : Bd d W k b) (h1 : W ≤ W') (h2 : k ≤ k') (h3 : b ≤ b') : Bd d W' k' b' := ⟨okD_mono h3 d h.ok, Nat.le_trans h.w h1, Nat.le_trans h.dp h2⟩
end L2
set_option Elab.async false
set_option linter.all false
set_option maxRecDepth 100000
set_option maxHeartbeats 4000000
/-! operations upon data, as readings that lay data -/
namespace L2
open PySem PySem.Spec PyProof.Rows
theorem dtsApp {K : PySem.W.Frag} {H : Hp} : ∀ {ds es : List PyData} {xs ys : List V}, Dts K H ds xs → Dts K H es ys → Dts K H (ds ++ es) (xs ++ ys)
  | [], es, xs, ys, h, k => by
    unfold Dts at h
    subst h
    exact k
  | d :: ds, es, xs, ys, h, k => by
    unfold Dts at h
    obtain ⟨x, r, e, h1, h2⟩ := h
    subst e
    show Dts K H (d :: (ds ++ es)) (x :: (r ++ ys))
    unfold Dts
    exact ⟨x, _, rfl, h1, dtsApp h2 k⟩
theorem dtsDrop {K : PySem.W.Frag} {H : Hp} : ∀ {ds : List PyData} {xs : List V} (n : Nat), Dts K H ds xs → Dts K H (ds.drop n) (xs.drop n)
  | _, _, 0, h => h
  | [], xs, n + 1, h => by
    unfold Dts at h
    subst h
    unfold Dts
    rfl
  | d :: ds, xs, n + 1, h => by
    unfold Dts at h
    obtain ⟨x, r, e, _, h2⟩ := h
    subst e
    exact dtsDrop n h2
theorem dtsTake {K : PySem.W.Frag} {H : Hp} : ∀ {ds : List PyData} {xs : List V} (n : Nat), Dts K H ds xs → Dts K H (ds.take n) (xs.take n)
  | _, _, 0, _ => by
    rw [List.take_zero, List.take_zero]
    unfold Dts
    rfl
  | [], xs, n + 1, h => by
    unfold Dts at h
    subst h
    unfold Dts
    rfl
  | d :: ds, xs, n + 1, h => by
    unfold Dts at h
    obtain ⟨x, r, e, h1, h2⟩ := h
    subst e
    rw [List.take_succ_cons, List.take_succ_cons]
    unfold Dts
    exact ⟨x, _, rfl, h1, dtsTake n h2⟩
theorem dtsRev {K : PySem.W.Frag} {H : Hp} : ∀ {ds : List PyData} {xs : List V}, Dts K H ds xs → Dts K H ds.reverse xs.reverse
  | [], xs, h => by
    unfold Dts at h
    subst h
    unfold Dts
    rfl
  | d :: ds, xs, h => by
    unfold Dts at h
    obtain ⟨x, r, e, h1, h2⟩ := h
    subst e
    rw [List.reverse_cons, List.reverse_cons]
    refine dtsApp (dtsRev h2) ?_
    unfold Dts Dts
    exact ⟨x, [], rfl, h1, rfl⟩
theorem dtsGet {K : PySem.W.Frag} {H : Hp} : ∀ {ds : List PyData} {vs : List V} {i : Nat} {d : PyData}, Dts K H ds vs → ds[i]? = some d → ∃ x, vs[i]? = some x ∧ Dt K H d x
  | [], _, _, _, _, e => by simp at e
  | d :: ds, vs, 0, d', h, e => by
    unfold Dts at h
    obtain ⟨x, r, e1, h1, _⟩ := h
    have e2 : d = d' := Option.some.inj e
    subst e1 e2
    exact ⟨x, rfl, h1⟩
  | d :: ds, vs, i + 1, d', h, e => by
    unfold Dts at h
    obtain ⟨x, r, e1, _, h2⟩ := h
    subst e1
    exact dtsGet (i := i) h2 e
/-- the items of ds[lo:hi] -/
def cutD (ds : List PyData) (lo hi : Option Int) : List PyData := (ds.drop (HT.sIx ds.length 0 lo)).take (HT.sIx ds.length ds.length hi - HT.sIx ds.length 0 lo)
section
variable {K : PySem.W.Frag} {σ : L2.St} {H0 : Hp}
theorem l_cat {ds es : List PyData} {t u : TE} (h : Ly K σ H0 (.tuple ds) t) (r : Ly K σ H0 (.tuple es) u) (l : ds.length + es.length ≤ 100000) : Ly K σ H0 (.tuple (ds ++ es)) (tOp (rCatA K) t u) := fun N H Q s0 sN k =>
  h N H _ s0 sN fun v N1 H1 a1 b1 c1 f1 d1 => r N1 H1 _ (s0.trans a1) b1 fun w N2 H2 a2 b2 c2 f2 d2 => by
    have d1 := Dt.same a2 _ _ d1
    have d1' := d1
    have d2' := d2
    unfold Dt at d1 d2
    obtain ⟨a, xs, rfl, qa, da⟩ := d1
    obtain ⟨b, ys, rfl, qb, db⟩ := d2
    have lx := dtsLen da
    have ly := dtsLen db
    refine ⟨a, b, xs, ys, rfl, rfl, b2.sqT qa, b2.sqT qb, by rw [sizeLine_eq]; omega, fun e => ?_, fun n e => ?_, fun n m p np => ?_⟩
    · have : ds = [] := by
        rw [e] at lx
        exact List.length_eq_zero_iff.mp lx.symm
      subst this
      exact k _ N2 H2 (a1.trans a2) b2 (c1.trans c2) (fresh_trans c1 f1 f2) d2'
    · have : es = [] := by
        rw [e] at ly
        exact List.length_eq_zero_iff.mp ly.symm
      subst this
      rw [List.append_nil] at k
      exact k _ N2 H2 (a1.trans a2) b2 (c1.trans c2) (fresh_trans c1 f1 f2) d1'
    · refine k _ (upd N2 p (.tup (xs ++ ys))) _ ((a1.trans a2).trans (sameNew (b2.free np))) b2.updBoth ((c1.trans c2).trans (sameNew np)) (fresh_trans (c1.trans c2) (fresh_trans c1 f1 f2) (fresh_upd np)) ?_
      unfold Dt
      exact ⟨p, _, rfl, .of upd_same, Dts.same (sameNew (b2.free np)) _ _ (dtsApp da db)⟩
/-- the bounds of a slice that are told: left out, or a number -/
def LyO (σ : L2.St) (o : Option Int) (t : TO) : Prop := ∀ (H : Hp) (Q : Option Int → Hp → Prop), Q o H → t σ H Q
theorem lo_none : LyO σ none tNoPart := fun H Q q => q
theorem lo_int {i : Int} : LyO σ (some i) (tPart (tC (.int i))) := fun H Q q => ⟨i, rfl, q⟩
theorem lo_neg {i : Int} : LyO σ (some (-i)) (tPart (tUn (rU fun i => .int (-i)) (tC (.int i)))) := fun H Q q => ⟨i, rfl, -i, rfl, q⟩
theorem lo_var {j : Nat} {i : Int} (e : σ[j]? = some (some (.int i))) : LyO σ (some i) (tPart (tVar j)) := fun H Q q => ⟨_, e, i, rfl, q⟩
theorem lo_var1 {j : Nat} {i : Int} (e : σ[j]? = some (some (.int i))) : LyO σ (some (i + 1)) (tPart (tOp (rI0 fun i j => .int (i + j)) (tVar j) (tC (.int 1)))) := fun H Q q => ⟨_, e, i, 1, rfl, rfl, i + 1, rfl, q⟩
theorem l_cut {ds : List PyData} {lo hi : Option Int} {t : TE} {tl th : TO} (h : Ly K σ H0 (.tuple ds) t) (hl : LyO σ lo tl) (hh : LyO σ hi th) : Ly K σ H0 (.tuple (cutD ds lo hi)) (tSl (rSlA K) t tl th) := fun N H Q s0 sN k =>
  h N H _ s0 sN fun v N1 H1 a1 b1 c1 f1 d1 => hl H1 _ (hh H1 _ (by
    have d1' := d1
    unfold Dt at d1
    obtain ⟨a, xs, rfl, qa, da⟩ := d1
    have lx := dtsLen da
    refine ⟨a, xs, rfl, b1.sqT qa, fun e => ?_, fun e p np => ?_⟩
    · rw [lx] at e
      have z : cutD ds lo hi = ds := by
        unfold cutD
        rw [e.1, e.2, List.drop_zero, Nat.sub_zero, List.take_length]
      rw [z] at k
      exact k _ N1 H1 a1 b1 c1 f1 d1'
    · refine k _ (upd N1 p (.tup (cutV xs lo hi))) _ (a1.trans (sameNew (b1.free np))) b1.updBoth (c1.trans (sameNew np)) (fresh_trans c1 f1 (fresh_upd np)) ?_
      unfold Dt
      refine ⟨p, _, rfl, .of upd_same, Dts.same (sameNew (b1.free np)) _ _ ?_⟩
      unfold cutD cutV
      rw [← lx]
      exact dtsTake _ (dtsDrop _ da)))
theorem l_rev {ds : List PyData} {t : TE} (h : Ly K σ H0 (.tuple ds) t) : Ly K σ H0 (.tuple ds.reverse) (tRevT K t (tUn (rU fun i => .int (-i)) (tC (.int 1)))) := fun N H Q s0 sN k =>
  h N H _ s0 sN fun v N1 H1 a1 b1 c1 f1 d1 => by
    unfold Dt at d1
    obtain ⟨a, xs, rfl, qa, da⟩ := d1
    refine ⟨1, rfl, a, xs, rfl, rfl, b1.sqT qa, fun p np => ?_⟩
    refine k _ (upd N1 p (.tup xs.reverse)) _ (a1.trans (sameNew (b1.free np))) b1.updBoth (c1.trans (sameNew np)) (fresh_trans c1 f1 (fresh_upd np)) ?_
    unfold Dt
    exact ⟨p, _, rfl, .of upd_same, Dts.same (sameNew (b1.free np)) _ _ (dtsRev da)⟩
theorem l_listT {ds : List PyData} {t : TE} (h : Ly K σ H0 (.tuple ds) t) : Ly K σ H0 (.list ds) (tCB (fun xs H Q => ∃ p ys, xs = [.ref p] ∧ (SqL K H p ys ∨ SqT K H p ys) ∧ ∀ l, H l = none → Q (.ref l) (upd H l (.lst ys))) (tCons t tNil)) := fun N H Q s0 sN k =>
  h N H _ s0 sN fun v N1 H1 a1 b1 c1 f1 d1 => by
    unfold Dt at d1
    obtain ⟨a, xs, rfl, qa, da⟩ := d1
    refine ⟨a, xs, rfl, .inr (b1.sqT qa), fun p np => ?_⟩
    refine k _ (upd N1 p (.lst xs)) _ (a1.trans (sameNew (b1.free np))) b1.updBoth (c1.trans (sameNew np)) (fresh_trans c1 f1 (fresh_upd np)) ?_
    unfold Dt
    exact ⟨p, _, rfl, .of upd_same, Dts.same (sameNew (b1.free np)) _ _ da⟩
theorem l_sadd {x y : Str} {t u : TE} (h : Ly K σ H0 (.str x) t) (r : Ly K σ H0 (.str y) u) (l : x.length + y.length ≤ 100000) : Ly K σ H0 (.str (x ++ y)) (tOp (fun x y H Q => ∃ i j, x = .str i ∧ y = .str j ∧ i.length + j.length ≤ sizeLine ∧ Q (.str (i ++ j)) H) t u) := fun N H Q s0 sN k =>
  h N H _ s0 sN fun v N1 H1 a1 b1 c1 f1 d1 => r N1 H1 _ (s0.trans a1) b1 fun w N2 H2 a2 b2 c2 f2 d2 => by
    unfold Dt at d1 d2
    subst d1 d2
    exact ⟨x, y, rfl, rfl, by rw [sizeLine_eq]; omega, k _ N2 H2 (a1.trans a2) b2 (c1.trans c2) (fresh_trans c1 f1 f2) (dt_str _)⟩
theorem l_scut {x : Str} {lo hi : Option Int} {t : TE} {tl th : TO} (h : Ly K σ H0 (.str x) t) (hl : LyO σ lo tl) (hh : LyO σ hi th) (l : x.length ≤ 100000) : Ly K σ H0 (.str (cutS x lo hi)) (tSl rSlS t tl th) := fun N H Q s0 sN k =>
  h N H _ s0 sN fun v N1 H1 a1 b1 c1 f1 d1 => hl H1 _ (hh H1 _ (by
    unfold Dt at d1
    subst d1
    exact ⟨x, rfl, by rw [sizeLine_eq]; omega, k _ N1 H1 a1 b1 c1 f1 (dt_str _)⟩))
theorem l_upper {x : Str} {t : TE} (h : Ly K σ H0 (.str x) t) (l : x.length ≤ 100000) : Ly K σ H0 (.str (Txt.upper x)) (tM0 (fun x xs H Q => ∃ a, x = .str a ∧ xs = [] ∧ a.length ≤ 5592405 ∧ Q (.str (Txt.upper a)) H) t) := fun N H Q s0 sN k =>
  h N H _ s0 sN fun v N1 H1 a1 b1 c1 f1 d1 => by
    unfold Dt at d1
    subst d1
    exact ⟨⟨x, rfl⟩, x, rfl, rfl, by omega, k _ N1 H1 a1 b1 c1 f1 (dt_str _)⟩
/-- a number or a bool, as a number -/
def numD : PyData → Option Int
  | .int i => some i
  | .bool b => some (if b = true then 1 else 0)
  | _ => none
abbrev rAddN : R2 := fun x y H Q => (rI0 fun i j => V.int (i + j)) x y H Q ∨ ∃ (b : Bool) (n : Int), x = .bl b ∧ y = .int n ∧ Q (.int ((if b = true then 1 else 0) + n)) H
abbrev rSubN : R2 := fun x y H Q => (rI0 fun i j => V.int (i - j)) x y H Q ∨ ∃ (b : Bool) (n : Int), x = .bl b ∧ y = .int n ∧ Q (.int ((if b = true then 1 else 0) - n)) H
abbrev rEqN : R2 := fun x y H Q => rEq x y H Q ∨ ∃ (b : Bool) (n : Int), x = .bl b ∧ y = .int n ∧ Q (.bl ((if b then 1 else 0) == n)) H
theorem l_addN {d : PyData} {i n : Int} {t : TE} (hd : numD d = some i) (h : Ly K σ H0 d t) : Ly K σ H0 (.int (i + n)) (tOp rAddN t (tC (.int n))) := fun N H Q s0 sN k =>
  h N H _ s0 sN fun v N1 H1 a1 b1 c1 f1 d1 => by
    cases d with
    | int j =>
      unfold Dt at d1
      subst d1
      have e : j = i := Option.some.inj hd
      subst e
      exact .inl ⟨j, n, rfl, rfl, k _ N1 H1 a1 b1 c1 f1 (dt_int _)⟩
    | bool b =>
      unfold Dt at d1
      subst d1
      have e : (if b = true then (1 : Int) else 0) = i := Option.some.inj hd
      subst e
      exact .inr ⟨b, n, rfl, rfl, k _ N1 H1 a1 b1 c1 f1 (dt_int _)⟩
    | _ => cases hd
theorem l_subN {d : PyData} {i n : Int} {t : TE} (hd : numD d = some i) (h : Ly K σ H0 d t) : Ly K σ H0 (.int (i - n)) (tOp rSubN t (tC (.int n))) := fun N H Q s0 sN k =>
  h N H _ s0 sN fun v N1 H1 a1 b1 c1 f1 d1 => by
    cases d with
    | int j =>
      unfold Dt at d1
      subst d1
      have e : j = i := Option.some.inj hd
      subst e
      exact .inl ⟨j, n, rfl, rfl, k _ N1 H1 a1 b1 c1 f1 (dt_int _)⟩
    | bool b =>
      unfold Dt at d1
      subst d1
      have e : (if b = true then (1 : Int) else 0) = i := Option.some.inj hd
      subst e
      exact .inr ⟨b, n, rfl, rfl, k _ N1 H1 a1 b1 c1 f1 (dt_int _)⟩
    | _ => cases hd
theorem l_eqN {d : PyData} {i n : Int} {t : TE} (hd : numD d = some i) (h : Ly K σ H0 d t) : Ly K σ H0 (.bool (decide (i = n))) (tOp rEqN t (tC (.int n))) := fun N H Q s0 sN k =>
  h N H _ s0 sN fun v N1 H1 a1 b1 c1 f1 d1 => by
    cases d with
    | int j =>
      unfold Dt at d1
      subst d1
      have e : j = i := Option.some.inj hd
      subst e
      have z : decide (V.int j = V.int n) = decide (j = n) := by
        by_cases c : j = n
        · rw [decide_eq_true c, decide_eq_true (by rw [c])]
        · rw [decide_eq_false c, decide_eq_false fun z => c (V.int.inj z)]
      refine .inl ⟨rfl, ?_⟩
      rw [z]
      exact k _ N1 H1 a1 b1 c1 f1 (dt_bl _)
    | bool b =>
      unfold Dt at d1
      subst d1
      have e : (if b = true then (1 : Int) else 0) = i := Option.some.inj hd
      subst e
      refine .inr ⟨b, n, rfl, rfl, ?_⟩
      have z : ((if b = true then (1 : Int) else 0) == n) = decide ((if b = true then (1 : Int) else 0) = n) := rfl
      rw [z]
      exact k _ N1 H1 a1 b1 c1 f1 (dt_bl _)
    | _ => cases hd
/-- str(n) -/
def strN : PyData → Str
  | .int i => toString i
  | .bool b => if b then "True" else "False"
  | _ => ""
abbrev rStrN : List V → Hp → VK → Prop := fun xs H Q => (∃ i, xs = [.int i] ∧ i.natAbs.log2 < 1920 ∧ Q (.str (toString i)) H) ∨ ∃ b : Bool, xs = [.bl b] ∧ Q (.str (if b then "True" else "False")) H
theorem l_strN {d : PyData} {i : Int} {t : TE} (hd : numD d = some i) (hb : -300 ≤ i ∧ i ≤ 300) (h : Ly K σ H0 d t) : Ly K σ H0 (.str (strN d)) (tCB rStrN (tCons t tNil)) := fun N H Q s0 sN k =>
  h N H _ s0 sN fun v N1 H1 a1 b1 c1 f1 d1 => by
    cases d with
    | int j =>
      unfold Dt at d1
      subst d1
      have e : j = i := Option.some.inj hd
      subst e
      exact .inl ⟨j, rfl, of_decide_eq_true (int_shown hb.1 hb.2).1, k _ N1 H1 a1 b1 c1 f1 (dt_str _)⟩
    | bool b =>
      unfold Dt at d1
      subst d1
      exact .inr ⟨b, rfl, k _ N1 H1 a1 b1 c1 f1 (dt_str _)⟩
    | _ => cases hd
end
end L2
namespace L2
open PySem PySem.Spec PyProof.Rows
mutual
def okB (b : Int) : PyData → Bool
  | .str x => x.cps.toList.all fun c => decide (c < 128)
  | .list ds => decide ((ds.length : Int) + 20 ≤ b) && okBA b ds
  | .tuple ds => decide ((ds.length : Int) + 20 ≤ b) && okBA b ds
  | .dict kvs => okBK b kvs
  | .none => true
  | .bool _ => true
  | .int i => decide (-b ≤ i) && decide (i ≤ b)
def okBA (b : Int) : List PyData → Bool
  | [] => true
  | d :: ds => okB b d && okBA b ds
def okBK (b : Int) : List (PyData × PyData) → Bool
  | [] => true
  | (k, d) :: ds => okB b k && (okB b d && okBK b ds)
end
mutual
theorem okB_ok {b : Int} : ∀ d : PyData, okB b d = true → okD b d
  | .str x, h => fun c hc => of_decide_eq_true (List.all_eq_true.mp h c hc)
  | .list ds, h => ⟨of_decide_eq_true (He.ba h).1, okBA_ok ds (He.ba h).2⟩
  | .tuple ds, h => ⟨of_decide_eq_true (He.ba h).1, okBA_ok ds (He.ba h).2⟩
  | .dict kvs, h => okBK_ok kvs h
  | .none, _ => trivial
  | .bool _, _ => trivial
  | .int i, h => by
    obtain ⟨a, c⟩ := He.ba h
    exact ⟨of_decide_eq_true a, of_decide_eq_true c⟩
theorem okBA_ok {b : Int} : ∀ ds : List PyData, okBA b ds = true → okA b ds
  | [], _ => trivial
  | d :: ds, h => by
    obtain ⟨a, c⟩ := He.ba h
    exact ⟨okB_ok d a, okBA_ok ds c⟩
theorem okBK_ok {b : Int} : ∀ ds : List (PyData × PyData), okBK b ds = true → okK b ds
  | [], _ => trivial
  | (k, d) :: ds, h => by
    obtain ⟨a, c⟩ := He.ba h
    obtain ⟨c, e⟩ := He.ba c
    exact ⟨okB_ok k a, okB_ok d c, okBK_ok ds e⟩
end
theorem upper_ascii {x : Str} (h : ascii x) : ascii (Txt.upper x) := by
  have k : ∀ c : _root_.Fin 128, (Unicode.upperOf c.1).all (fun d => decide (d < 128)) = true := by decide +kernel
  intro d hd
  have hd : d ∈ (x.cps.mapIdx fun i c => (Unicode.upperOf c).toArray).flatten := by
    have : d ∈ (placed x fun _ c => Unicode.upperOf c).toList := hd
    exact Array.mem_toList_iff.mp this
  obtain ⟨a, ha, hda⟩ := Array.mem_flatten.mp hd
  obtain ⟨i, hi, e⟩ := Array.mem_mapIdx.mp ha
  subst e
  have hc := h _ (Array.mem_toList_iff.mpr (Array.getElem_mem hi))
  exact of_decide_eq_true (List.all_eq_true.mp (k ⟨_, hc⟩) d (by simpa using hda))
theorem cutD_mem {ds : List PyData} {lo hi : Option Int} {e : PyData} (h : e ∈ cutD ds lo hi) : e ∈ ds := List.mem_of_mem_drop (List.mem_of_mem_take h)
theorem cutD_len (ds : List PyData) (lo hi : Option Int) : (cutD ds lo hi).length ≤ ds.length := ((List.take_sublist _ _).trans (List.drop_sublist _ _)).length_le
theorem cutD_wt (ds : List PyData) (lo hi : Option Int) : wtA (cutD ds lo hi) ≤ wtA ds := wtA_sub ((List.take_sublist _ _).trans (List.drop_sublist _ _))
theorem cutS_ascii {x : Str} {lo hi : Option Int} (h : ascii x) : ascii (cutS x lo hi) := fun c hc => by
  unfold cutS at hc
  rw [List.toList_toArray] at hc
  exact h c (List.mem_of_mem_drop (List.mem_of_mem_take hc))
theorem app_ascii {x y : Str} (h : ascii x) (k : ascii y) : ascii (x ++ y) := fun c hc => by
  have e : (x ++ y).cps.toList = x.cps.toList ++ y.cps.toList := by
    show (x.cps ++ y.cps).toList = _
    simp
  rw [e] at hc
  rcases List.mem_append.mp hc with z | z
  · exact h c z
  · exact k c z
theorem strN_ok {d : PyData} {i : Int} (hd : numD d = some i) (hb : -300 ≤ i ∧ i ≤ 300) : ascii (strN d) ∧ (strN d).length ≤ 5 := by
  cases d with
  | int j =>
    have e : j = i := Option.some.inj hd
    subst e
    have k : ∀ q : _root_.Fin 601, ((strN (.int ((q.1 : Int) - 300))).cps.toList.all (fun c => decide (c < 128)) && decide ((strN (.int ((q.1 : Int) - 300))).length ≤ 5)) = true := by decide +kernel
    have z := k ⟨(j + 300).toNat, by omega⟩
    have e : (((j + 300).toNat : Nat) : Int) - 300 = j := by omega
    dsimp only at z
    rw [e] at z
    obtain ⟨z1, z2⟩ := He.ba z
    exact ⟨fun c hc => of_decide_eq_true (List.all_eq_true.mp z1 c hc), of_decide_eq_true z2⟩
  | bool b =>
    have k : ∀ b : Bool, ((strN (.bool b)).cps.toList.all (fun c => decide (c < 128)) && decide ((strN (.bool b)).length ≤ 5)) = true := by decide +kernel
    obtain ⟨z1, z2⟩ := He.ba (k b)
    exact ⟨fun c hc => of_decide_eq_true (List.all_eq_true.mp z1 c hc), of_decide_eq_true z2⟩
  | _ => cases hd
theorem depAll_le {k : Nat} {ds : List PyData} (h : ∀ d ∈ ds, d.depth ≤ k) : (PyData.tuple ds).depth ≤ k + 1 := by
  unfold PyData.depth
  exact Nat.succ_le_succ (depAll h)
theorem dep_mem : ∀ {ds : List PyData} {d : PyData}, d ∈ ds → d.depth ≤ PyData.depthAll ds
  | e :: ds, d, h => by
    unfold PyData.depthAll
    rcases List.mem_cons.mp h with z | z
    · rw [z]
      exact Nat.le_max_left _ _
    · exact Nat.le_trans (dep_mem z) (Nat.le_max_right _ _)
section
variable {K : PySem.W.Frag} {σ : L2.St}
/-- a list that may change: what its items stand on leaves it out -/
theorem llst0 {ds : List PyData} {t : TA} {N H : Hp} {Q : VK} (h : LyA K σ N ds t) (sN : Same N H) (l : ds.length ≤ 1000)
    (k : ∀ (p : Addr) (xs : List V) (N' H' : Hp), Same N N' → Same N' H' → Same H H' → (∀ b, N' b ≠ none → N b ≠ none ∨ H b = none) → H p = none → N' p = none → H' p = some (.lst xs) → Dts K N' ds xs → Q (.ref p) H') : tLst t σ H Q :=
  h N H _ (Same.refl N) sN fun vs N1 H1 a1 b1 c1 f1 d1 => ⟨by rw [dtsLen d1]; exact Nat.le_of_lt (small1000 l), fun p np => k p vs N1 _ a1 (b1.trans (sameNew np)) (c1.trans (sameNew np)) f1 (c1.free np) (b1.free np) upd_same d1⟩
theorem set_llst0 {ds : List PyData} {t : TA} {g : TG} {u : TS} {D : Ends} {N H : Hp} (h : LyA K σ N ds t) (sN : Same N H) (l : ds.length ≤ 1000)
    (k : ∀ (p : Addr) (xs : List V) (N' H' : Hp), Same N N' → Same N' H' → Same H H' → (∀ b, N' b ≠ none → N b ≠ none ∨ H b = none) → H p = none → N' p = none → H' p = some (.lst xs) → Dts K N' ds xs → g (.ref p) σ H' (u D)) : tSeq (tAsg (tLst t) g) u D σ H :=
  show tLst t σ H (fun x H1 => g x σ H1 (u D)) from llst0 h sN l k
end
end L2
set_option Elab.async false
set_option linter.all false
set_option maxRecDepth 100000
set_option maxHeartbeats 1000000
namespace K01
open PySem PySem.Spec PyProof.Rows L2
/-! ### values with one thing changed -/
theorem keepN {N H H' : Hp} {p : Addr} (n : N p = none) (s : Same N H) (sx : SameX p H H') : Same N H' := fun b o e => sx b o (ne_of_none e n) (s b o e)
theorem HandAt.lst {H : Hp} {a : Addr} {T : Int} (h : HandAt H a T) : ∃ L, H a = some (.lst L) := let ⟨L, e, _⟩ := h; ⟨L, e⟩
theorem HandAt.off {N H N' : Hp} {p : Addr} {T : Int} (h : HandAt H p T) (n : N p = none) (f : ∀ b, N' b ≠ none → N b ≠ none ∨ H b = none) : N' p = none := by
  cases z : N' p with
  | none => rfl
  | some o =>
    rcases f p (by rw [z]; simp) with y | y
    · exact absurd n y
    · obtain ⟨L, e⟩ := h.lst
      rw [e] at y
      cases y
theorem freshX {N H N1 H1 N2 : Hp} {p : Addr} (X : SameX p H H1) (n2 : N2 p = none) (f1 : ∀ b, N1 b ≠ none → N b ≠ none ∨ H b = none) (f2 : ∀ b, N2 b ≠ none → N1 b ≠ none ∨ H1 b = none) : ∀ b, N2 b ≠ none → N b ≠ none ∨ H b = none := fun b z => by
  rcases f2 b z with y | y
  · exact f1 b y
  · refine .inr ?_
    cases q : H b with
    | none => rfl
    | some o =>
      rw [X b o (fun e => z (by rw [e]; exact n2)) q] at y
      cases y
theorem fresh0 {N H : Hp} : ∀ b, N b ≠ none → N b ≠ none ∨ H b = none := fun _ z => .inl z
def menuB : List PyData := [.none, .bool true, .bool false, .int (-1), .int 0, .int 1, .int 2, .int 61, .str "", .str "a", .str "A", .str "a1", .str "abcdefghi", .tuple [], .tuple [.int 0], .list [.str "a"], .dict [], .tuple [.tuple []]]
def menuX : PyData := .tuple [.int (-1), .int 0, .tuple []]
/-- what a changed value may be -/
def Bent (W k : Nat) (b : Int) (d : PyData) : Prop := Bd d (3 * W + 70) (k + 3) (b + 2)
theorem menuB_ok {W k : Nat} {b : Int} (hb : 61 ≤ b) : ∀ d ∈ menuB ++ [menuX], Bent W k b d := by
  have z : ((menuB ++ [menuX]).all fun d => okB 61 d && (decide (wt d ≤ 70) && decide (d.depth ≤ 3))) = true := by decide +kernel
  intro d hd
  obtain ⟨z1, z2⟩ := He.ba (List.all_eq_true.mp z d hd)
  obtain ⟨z2, z3⟩ := He.ba z2
  have z2 := of_decide_eq_true z2
  have z3 := of_decide_eq_true z3
  exact ⟨okD_mono (by omega) d (okB_ok d z1), by omega, by omega⟩
theorem bent_tup {W k : Nat} {b : Int} {ds : List PyData} (h : Bd (.tuple ds) W k b) (h61 : 61 ≤ b) : ∀ d ∈ ([.list ds, .tuple (ds ++ cutD ds none (some 1)), .tuple (cutD ds (some 1) none), .tuple ds.reverse, .tuple (cutD ds none (some (-1))), .tuple [.tuple ds]] : List PyData), Bent W k b d := by
  have hw : wtA ds + 1 ≤ W := h.w
  have hd : PyData.depthAll ds + 1 ≤ k := h.dp
  have ho : okA b ds := h.ok.2
  have hl : (ds.length : Int) + 20 ≤ b := h.ok.1
  have part : ∀ es : List PyData, (∀ e ∈ es, e ∈ ds) → wtA es ≤ 2 * wtA ds → es.length ≤ ds.length + 1 → Bent W k b (.tuple es) := fun es m w le => by
    refine ⟨⟨by omega, ?_⟩, ?_, ?_⟩
    · exact okA_iff.mpr fun e he => okD_mono (by omega) e (okA_iff.mp ho e (m e he))
    · show wtA es + 1 ≤ _
      omega
    · have := depAll_le (k := PyData.depthAll ds) (ds := es) fun e he => dep_mem (m e he)
      omega
  intro d hm
  simp only [List.mem_cons, List.not_mem_nil, or_false] at hm
  have c1 := cutD_wt ds none (some 1)
  have c2 := cutD_wt ds (some 1) none
  have c3 := cutD_wt ds none (some (-1))
  have k2 := cutD_len ds (some 1) none
  have k3 := cutD_len ds none (some (-1))
  have k1 : (L2.cutD ds none (some 1)).length ≤ 1 := by
    unfold L2.cutD
    rw [List.length_take]
    refine Nat.le_trans (Nat.min_le_left _ _) ?_
    rw [HT.sIx_none, show (some (1 : Int)) = some ((1 : Nat) : Int) from rfl, HT.sIx_nat]
    omega
  rcases hm with z | z | z | z | z | z <;> subst z
  · refine ⟨⟨by omega, okA_mono (by omega) ds ho⟩, ?_, ?_⟩
    · show wtA ds + 1 ≤ _
      omega
    · show PyData.depthAll ds + 1 ≤ _
      omega
  · refine part _ (fun e he => ?_) (by rw [wtA_app]; omega) (by rw [List.length_append]; omega)
    rcases List.mem_append.mp he with z | z
    · exact z
    · exact cutD_mem z
  · exact part _ (fun e he => cutD_mem he) (by omega) (by omega)
  · exact part _ (fun e he => List.mem_reverse.mp he) (by rw [wtA_perm (List.reverse_perm ds)]; omega) (by rw [List.length_reverse]; omega)
  · exact part _ (fun e he => cutD_mem he) (by omega) (by omega)
  · refine ⟨⟨by show ((1 : Nat) : Int) + 20 ≤ _; omega, ⟨by omega, okA_mono (by omega) ds ho⟩, trivial⟩, ?_, ?_⟩
    · show wtA ds + 1 + 0 + 1 ≤ _
      omega
    · show max (PyData.depthAll ds + 1) 0 + 1 ≤ _
      omega
theorem bent_str {W k : Nat} {b : Int} {x : Str} (h : Bd (.str x) W k b) (h61 : 61 ≤ b) : ∀ d ∈ ([.str (x ++ "b"), .str (cutS x (some 1) none), .list [.str x], .tuple [.str x], .str (Txt.upper x)] : List PyData), Bent W k b d := by
  have hw : x.length + 1 ≤ W := h.w
  have ho : ascii x := h.ok
  intro d hm
  simp only [List.mem_cons, List.not_mem_nil, or_false] at hm
  rcases hm with z | z | z | z | z <;> subst z
  · refine ⟨app_ascii ho (by intro c hc; revert c; decide), ?_, Nat.zero_le _⟩
    show (x ++ "b").length + 1 ≤ _
    rw [strLen_append]
    have : (("b" : String) : Str).length = 1 := rfl
    omega
  · refine ⟨cutS_ascii ho, ?_, Nat.zero_le _⟩
    have := cutS_length x (some 1) none
    show (cutS x (some 1) none).length + 1 ≤ _
    omega
  · refine ⟨⟨by show ((1 : Nat) : Int) + 20 ≤ _; omega, ho, trivial⟩, ?_, ?_⟩
    · show x.length + 1 + 0 + 1 ≤ _
      omega
    · show max 0 0 + 1 ≤ _
      omega
  · refine ⟨⟨by show ((1 : Nat) : Int) + 20 ≤ _; omega, ho, trivial⟩, ?_, ?_⟩
    · show x.length + 1 + 0 + 1 ≤ _
      omega
    · show max 0 0 + 1 ≤ _
      omega
  · refine ⟨upper_ascii ho, ?_, Nat.zero_le _⟩
    have := len_upper x
    show (Txt.upper x).length + 1 ≤ _
    omega
theorem num_bd {d : PyData} {i b : Int} (hd : numD d = some i) (ho : okD b d) (hb : 61 ≤ b) : -b ≤ i ∧ i ≤ b := by
  cases d with
  | int j =>
    have e : j = i := Option.some.inj hd
    subst e
    exact ho
  | bool c =>
    have e : (if c = true then (1 : Int) else 0) = i := Option.some.inj hd
    cases c
    · have e : (0 : Int) = i := e
      omega
    · have e : (1 : Int) = i := e
      omega
  | _ => cases hd
theorem bent_num {W k : Nat} {b : Int} {d : PyData} {i : Int} (h : Bd d W k b) (hd : numD d = some i) (h1 : 61 ≤ b) (h2 : b ≤ 290) : ∀ e ∈ ([.int (i + 1), .int (i - 1), .int (i + 2), .str (strN d), .tuple [d], .bool (decide (i = 1))] : List PyData), Bent W k b e := by
  have nb := num_bd hd h.ok h1
  have sn := strN_ok hd (by omega)
  have w1 := wt_pos d
  have hw := h.w
  have hdp := h.dp
  intro e hm
  simp only [List.mem_cons, List.not_mem_nil, or_false] at hm
  rcases hm with z | z | z | z | z | z <;> subst z
  · exact ⟨⟨by omega, by omega⟩, by show 1 ≤ _; omega, Nat.zero_le _⟩
  · exact ⟨⟨by omega, by omega⟩, by show 1 ≤ _; omega, Nat.zero_le _⟩
  · exact ⟨⟨by omega, by omega⟩, by show 1 ≤ _; omega, Nat.zero_le _⟩
  · refine ⟨sn.1, ?_, Nat.zero_le _⟩
    show (strN d).length + 1 ≤ _
    omega
  · refine ⟨⟨by show ((1 : Nat) : Int) + 20 ≤ _; omega, okD_mono (by omega) d h.ok, trivial⟩, ?_, ?_⟩
    · show wt d + 0 + 1 ≤ _
      omega
    · show max d.depth 0 + 1 ≤ _
      omega
  · exact ⟨trivial, by show 1 ≤ _; omega, Nat.zero_le _⟩
theorem cut_to {ds : List PyData} {j : Nat} (h : j ≤ ds.length) : cutD ds none (some (j : Int)) = ds.take j := by
  unfold L2.cutD
  rw [HT.sIx_none, HT.sIx_nat, Nat.min_eq_left h, List.drop_zero, Nat.sub_zero]
theorem cut_from {ds : List PyData} {j : Nat} (h : j ≤ ds.length) : cutD ds (some (j : Int)) none = ds.drop j := by
  unfold L2.cutD
  rw [HT.sIx_none, HT.sIx_nat, Nat.min_eq_left h, ← List.length_drop, List.take_length]
theorem bent_deep {W k : Nat} {b : Int} {ds : List PyData} {j : Nat} {e d : PyData} (h : Bd (.tuple ds) W (k + 1) b) (hj : ds[j]? = some e) (hd : Bent (wt e) k b d) : Bent W (k + 1) b (.tuple ((ds.take j ++ [d]) ++ ds.drop (j + 1))) := by
  have hw : wtA ds + 1 ≤ W := h.w
  have hdp : PyData.depthAll ds + 1 ≤ k + 1 := h.dp
  have ho : okA b ds := h.ok.2
  have hln : (ds.length : Int) + 20 ≤ b := h.ok.1
  obtain ⟨hl, he⟩ := List.getElem?_eq_some_iff.mp hj
  have sp : wtA ds = wtA (ds.take j) + (wt e + wtA (ds.drop (j + 1))) := by
    have z : ds = ds.take j ++ e :: ds.drop (j + 1) := by rw [← he, List.getElem_cons_drop, List.take_append_drop]
    have z2 := congrArg wtA z
    rw [wtA_app] at z2
    exact z2
  have dw := hd.w
  refine ⟨⟨?_, okA_iff.mpr fun x hx => ?_⟩, ?_, ?_⟩
  · rw [List.length_append, List.length_append, List.length_take, List.length_drop, List.length_singleton]
    omega
  · rcases List.mem_append.mp hx with z | z
    · rcases List.mem_append.mp z with z | z
      · exact okD_mono (by omega) x (okA_iff.mp ho x (List.mem_of_mem_take z))
      · rw [List.mem_singleton.mp z]
        exact hd.ok
    · exact okD_mono (by omega) x (okA_iff.mp ho x (List.mem_of_mem_drop z))
  · show wtA ((ds.take j ++ [d]) ++ ds.drop (j + 1)) + 1 ≤ _
    rw [wtA_app, wtA_app]
    have : wtA [d] = wt d := by simp [wtA]
    omega
  · have := depAll_le (k := k + 3) (ds := (ds.take j ++ [d]) ++ ds.drop (j + 1)) fun x hx => by
      rcases List.mem_append.mp hx with z | z
      · rcases List.mem_append.mp z with z | z
        · have := dep_mem (List.mem_of_mem_take z)
          omega
        · rw [List.mem_singleton.mp z]
          exact hd.dp
      · have := dep_mem (List.mem_of_mem_drop z)
        omega
    omega
abbrev bentN : List Str := ["_law_hand_here", "_law_item", "_law_at", "_law_some"]
theorem scBent : FnScope bentN ["_law_hand_here", "_law_item"] (defScope s_law_bent) := ⟨rfl, rfl, rfl, by decide +kernel, rfl, by decide +kernel, by decide +kernel⟩
/-- data of depth below n -/
def spBent (K : PySem.W.Frag) (n : Nat) : Sp := fun vs H Q _ => ∃ (p : Addr) (v : V) (T : Int) (N : Hp) (d : PyData) (W k : Nat) (b : Int), vs = [.ref p, v] ∧ HandAt H p T ∧ T + 2 * n ≤ 98000 ∧ N p = none ∧ Same N H ∧ Dt K N d v ∧ Bd d W k b ∧ d.depth < n ∧ k < n ∧ W ≤ 30000 ∧ 61 ≤ b ∧ b ≤ 290 ∧
  ∀ (H' N' : Hp) (v' : V) (d' : PyData), SameX p H H' → HandAt H' p (T + 2 * n + 1) → Same N N' → Same N' H' → N' p = none → (∀ c, N' c ≠ none → N c ≠ none ∨ H c = none) → Dt K N' d' v' → Bent W k b d' → Q v' H'
theorem pssI {X : Cx} {b : List Stmt} {t u : TS} (h : PSs X b t) (k : ∀ D σ H, u D σ H → t D σ H) : PSs X b u :=
  ⟨fun pins s σ H D I hw => h.run pins s σ H D I (k D σ H hw)⟩
theorem l_val {K : PySem.W.Frag} {σ : L2.St} {N : Hp} {d : PyData} {x : V} (h : Dt K N d x) : Ly K σ N d (fun _ H Q => Q x H) := fun N1 H Q s0 sN k => k x N1 H (Same.refl N1) sN (Same.refl H) (fun _ z => .inl z) (Dt.same s0 d x h)
theorem catD {K : PySem.W.Frag} {N H : Hp} {x y : V} {ds es : List PyData} {Q : VK} (dx : Dt K N (.tuple ds) x) (dy : Dt K N (.tuple es) y) (l : ds.length + es.length ≤ 100000) (sN : Same N H)
    (k : ∀ v N' H', Same N N' → Same N' H' → Same H H' → (∀ b, N' b ≠ none → N b ≠ none ∨ H b = none) → Dt K N' (.tuple (ds ++ es)) v → Q v H') : rCatA K x y H Q :=
  (l_cat (σ := []) (l_val dx) (l_val dy) l) N H Q (Same.refl N) sN k
/-- the choice among the changed values -/
def tRestB (K : PySem.W.Frag) (p : Addr) (v : V) (N : Hp) (W k : Nat) (b : Int) : TS := fun D σ H => ∃ (y2 : Option V) (T : Int), σ = [some (.ref p), some v, y2, none] ∧ HandAt H p T ∧ T ≤ 99000 ∧ Same N H ∧
  ∀ H' N' v' d', SameX p H H' → HandAt H' p (T + 1) → Same N N' → Same N' H' → N' p = none → (∀ c, N' c ≠ none → N c ≠ none ∨ H c = none) → Dt K N' d' v' → Bent W k b d' → D.rt v' H'
theorem off2 {N H N' : Hp} {p : Addr} {o : HO} (h : H p = some o) (n : N p = none) (f : ∀ b, N' b ≠ none → N b ≠ none ∨ H b = none) : N' p = none := by
  cases z : N' p with
  | none => rfl
  | some o' =>
    rcases f p (by rw [z]; simp) with y | y
    · exact absurd n y
    · rw [h] at y
      cases y
theorem isT_of (d : PyData) (T : String) : isT d T = (decide (tyD d = T) || (decide (tyD d = "bool") && decide (T = "int"))) := rfl
section
variable {P : Program} {w : World} {K : PySem.W.Frag} {mg : Str → Option Value} {base : Heap}
theorem ok_bent {f fT fP : Addr} {fd fdT fdP : FuncData} (F : FnP K "_law_bent" s_law_bent f fd) (FT : FnP K "_law_take" s_law_take fT fdT) (FP : FnP K "_law_pick" s_law_pick fP fdP) (gB : mg "_law_bent" = some (.ref f))
    (gT : mg "_law_take" = some (.ref fT)) (gP : mg "_law_pick" = some (.ref fP)) (ml : mg "len" = none) (mli : mg "list" = none) (ms : mg "isinstance" = none) (mtu : mg "tuple" = none) (mst : mg "str" = none) (mi : mg "int" = none) :
    ∀ n : Nat, FnOk P w K mg base CX0 (3 + n) f fd ["_law_hand_here", "_law_item"] (spBent K n)
  | 0 => ⟨fun vs H Q E h => by
      obtain ⟨p, v, T, N, d, W, k, b, rfl, _⟩ := h
      rfl, fun A outer s H args us vs Q E hr e0 hb r h => by
      obtain ⟨p, v, T, N, d, W, k, b, _, _, _, _, _, _, _, z, _⟩ := h
      exact absurd z (Nat.not_lt_zero _)⟩
  | n + 1 => by
    have GB : FnOk P w K mg base CX0 (3 + n) f fd ["_law_hand_here", "_law_item"] (spBent K n) := ok_bent F FT FP gB gT gP ml mli ms mtu mst mi n
    have GT : FnOk P w K mg base CX0 1 fT fdT ["_law_hand_here", "_law_many"] spTake := ok_take FT
    have GP : FnOk P w K mg base CX0 2 fP fdP ["_law_hand_here", "_law_items"] (spPick K) := ok_pick FP FT gT ml
    have bB : Binds K fd ["_law_hand_here", "_law_item"] [] := F.bindsN fun _ _ _ _ _ _ us hl => match us, hl with | [_, _], _ => rfl
    have bT : Binds K fdT ["_law_hand_here", "_law_many"] [] := FT.bindsN fun _ _ _ _ _ _ us hl => match us, hl with | [_, _], _ => rfl
    have bP : Binds K fdP ["_law_hand_here", "_law_items"] [] := FP.bindsN fun _ _ _ _ _ _ us hl => match us, hl with | [_, _], _ => rfl
    refine F.ok (k := 3 + n) scBent (fun vs H Q E h => ?_) (fun cdv A outer s H vs Q E hr h => ?_)
    · obtain ⟨p, v, T, N, d, W, k, b, rfl, _⟩ := h
      rfl
    · obtain ⟨p, v, T, N, d, W, k, b, rfl, hA, hT, Np, sN, hd, bd, dn, kn, hW, hb1, hb2, q⟩ := h
      have nd := scBent.nd
      have hr1 : Room 1 _ := hr.mono (by omega)
      have hr2 : Room 2 _ := hr.mono (by omega)
      have wle := bd.w
      refine ⟨_, PSs.nox (pss_cons (ps_if (PW.pt (pw_and (pt_val (pe_callB (call_isD (T := "tuple") (by decide)) (by rfl) ms (by decide +kernel) (pa_cons (pv 1) (pa_cons (pe_bltn (v := .ty "tuple") (by rfl) mtu (by decide +kernel) rfl) pa_nil)))) (pw_and (pt_cmpR (op_ne0 (Nat.lt_of_le_of_lt (Nat.le_add_right _ 64) hr.units)) (pv 1) (pe_tup pa_nil) (nomark _)) (pw_and1 (pt_cmpR op_gt (pe_call GT hr1 (by rfl) gT FT.kp bT .nil pass0 (pa_cons (pv 0) (pa_cons pe_int pa_nil))) pe_int (nomark _)))))) (pss_cons (ps_set (i := 2) nd rfl (.inl rfl) (pe_call GT hr1 (by rfl) gT FT.kp bT .nil pass0 (pa_cons (pv 0) (pa_cons (pe_callB call_len_seq (by rfl) ml PySem.boot_len (pa_cons (pv 1) pa_nil)) pa_nil))))
      (pss_one (ps_ret (pe_op op_catA (pe_op op_catA (pe_slice sl_tupA (pv 1) po_none (po_some (pv 2))) (pe_tup (pa_cons (pe_call GB hr (by rfl) gB F.kp bB .nil pass0 (pa_cons (pv 0) (pa_cons (pe_ix ix_tup (pv 1) (pv 2) (fun _ _ => rfl)) pa_nil))) pa_nil))) (pe_slice sl_tupA (pv 1) (po_some (pe_op op_add (pv 2) pe_int)) po_none))))) pss_nil) (pssI (u := tRestB K p v N W k b) (pss_cons (ps_set (i := 3) nd rfl (.inl rfl) (pe_lst (pa_cons pe_non (pa_cons pe_bl (pa_cons pe_bl (pa_cons (pe_un un_neg pe_int) (pa_cons pe_int (pa_cons pe_int (pa_cons pe_int (pa_cons pe_int (pa_cons pe_str (pa_cons pe_str (pa_cons pe_str (pa_cons pe_str (pa_cons pe_str (pa_cons (pe_tup pa_nil) (pa_cons (pe_tup (pa_cons pe_int pa_nil)) (pa_cons (pe_lst (pa_cons pe_str pa_nil)) (pa_cons pe_dnewK (pa_cons (pe_tup (pa_cons (pe_tup pa_nil) pa_nil)) pa_nil))))))))))))))))))))
      (pss_cons (ps_expr (pe_bm PySem.F.plainAttrs_list PySem.F.slot_list_append PySem.F.type_list_append mt_append (pv 3) (pa_cons (pe_tup (pa_cons (pe_un un_neg pe_int) (pa_cons pe_int (pa_cons (pe_tup pa_nil) pa_nil)))) pa_nil)))
      (pss_cons (ps_if (pt_val (pe_callB (call_isD (T := "tuple") (by decide)) (by rfl) ms (by decide +kernel) (pa_cons (pv 1) (pa_cons (pe_bltn (v := .ty "tuple") (by rfl) mtu (by decide +kernel) rfl) pa_nil)))) (pss_one (ps_set (i := 3) nd rfl (.inl rfl) (pe_op op_cat (pv 3) (pe_lst (pa_cons (pe_callTy call_list_of (by rfl) mli (by decide +kernel) (pa_cons (pv 1) pa_nil)) (pa_cons (pe_op op_catA (pv 1) (pe_slice sl_tupA (pv 1) po_none (po_some pe_int))) (pa_cons (pe_slice sl_tupA (pv 1) (po_some pe_int) po_none) (pa_cons (pe_revT (pv 1) (pe_un un_neg pe_int)) (pa_cons (pe_slice sl_tupA (pv 1) po_none (po_some (pe_un un_neg pe_int))) (pa_cons (pe_tup (pa_cons (pv 1) pa_nil)) pa_nil)))))))))) pss_nil)
      (pss_cons (ps_if (pt_val (pe_callB (call_isD (T := "str") (by decide)) (by rfl) ms (by decide +kernel) (pa_cons (pv 1) (pa_cons (pe_bltn (v := .ty "str") (by rfl) mst (by decide +kernel) rfl) pa_nil)))) (pss_one (ps_set (i := 3) nd rfl (.inl rfl) (pe_op op_cat (pv 3) (pe_lst (pa_cons (pe_op op_add_str (pv 1) pe_str) (pa_cons (pe_slice sl_str (pv 1) (po_some pe_int) po_none) (pa_cons (pe_lst (pa_cons (pv 1) pa_nil)) (pa_cons (pe_tup (pa_cons (pv 1) pa_nil)) (pa_cons (pe_upper (pv 1)) pa_nil))))))))) pss_nil)
      (pss_cons (ps_if (pt_val (pe_callB (call_isD (T := "int") (by decide)) (by rfl) ms (by decide +kernel) (pa_cons (pv 1) (pa_cons (pe_bltn (v := .ty "int") (by rfl) mi (by decide +kernel) rfl) pa_nil)))) (pss_one (ps_set (i := 3) nd rfl (.inl rfl) (pe_op op_cat (pv 3) (pe_lst (pa_cons (pe_op (OpR.or op_add op_add_bi) (pv 1) pe_int) (pa_cons (pe_op (OpR.or op_sub op_sub_bi) (pv 1) pe_int) (pa_cons (pe_op (OpR.or op_add op_add_bi) (pv 1) pe_int) (pa_cons (pe_callTy (CallR.or call_str_int call_strB) (by rfl) mst (by decide +kernel) (pa_cons (pv 1) pa_nil)) (pa_cons (pe_tup (pa_cons (pv 1) pa_nil)) (pa_cons (pe_cmpR (OpR.or op_eq op_eq_bi) (pv 1) pe_int (nomark _)) pa_nil)))))))))) pss_nil)
      (pss_one (ps_ret (pe_call GP hr2 (by rfl) gP FP.kp bP .nil pass0 (pa_cons (pv 0) (pa_cons (pv 3) pa_nil)))))))))) ?rest)), ?_⟩
      case rest =>
        rintro D σ H1 ⟨y2, T1, rfl, hA1, hT1, sN1, q1⟩
        have fin : ∀ {H5 N5 : Hp} {so5 : Addr} {xs5 : List V} {ds5 : List PyData}, SameX p H1 H5 → HandAt H5 p T1 → Same N N5 → Same N5 H5 → N5 p = none → (∀ c, N5 c ≠ none → N c ≠ none ∨ H1 c = none) → H5 so5 = some (.lst xs5) → so5 ≠ p → Dts K N5 ds5 xs5 → ds5 ≠ [] → ds5.length ≤ 1000 → (∀ e ∈ ds5, Bent W k b e) →
            spPick K [V.ref p, V.ref so5] H5 (fun v' H' => D.rt v' H') (fun _ _ _ => False) := by
          intro H5 N5 so5 xs5 ds5 X5 hA5 a5 b5 Np5 f5 e5 sp dd ne5 le5 ok5
          have l5 := dtsLen dd
          refine ⟨p, so5, T1, xs5, rfl, hA5, by omega, .of e5, fun z => ?_, by omega, sp, fun H' x sx hA' hx => ?_⟩
          · rw [z] at l5
            exact ne5 (List.length_eq_zero_iff.mp l5.symm)
          · obtain ⟨e, he, hde⟩ := dtsMem dd hx
            exact q1 H' N5 x e (X5.trans sx) hA' a5 (keepN Np5 b5 sx) Np5 f5 hde (ok5 e he)
        refine set_llst0 (K := K) (N := N) (ds := menuB) (l_cons l_non (l_cons l_bl (l_cons l_bl (l_cons l_neg (l_cons l_int (l_cons l_int (l_cons l_int (l_cons l_int (l_cons l_str (l_cons l_str (l_cons l_str (l_cons l_str (l_cons l_str (l_cons (l_tup l_nil) (l_cons (l_tup (l_cons l_int l_nil)) (l_cons (l_lst (l_cons l_str l_nil)) (l_cons l_dict (l_cons (l_tup (l_cons (l_tup l_nil) l_nil)) l_nil)))))))))))))))))) sN1 (by decide) fun so xs N2 H2 a2 b2 S2 f2 nso Nso eso dxs => ?_
        have Np2 := hA1.off Np f2
        have hA2 := hA1.same S2
        have sop : so ≠ p := hA1.ne nso
        refine ⟨.ref so, rfl, .inl ⟨rfl, _, .of eso⟩, ?_⟩
        refine (l_tup (K := K) (l_cons l_neg (l_cons l_int (l_cons (l_tup l_nil) l_nil)))) N2 H2 _ (Same.refl N2) b2 fun w N3 H3 a3 b3 c3 f3 d3 => ?_
        have Np3 := hA2.off Np2 f3
        have Nso3 := off2 eso Nso f3
        have e3 := c3 _ _ eso
        have lx : xs.length = 18 := dtsLen dxs
        refine ⟨so, xs, w, rfl, rfl, e3, small1000 (by omega), ?_⟩
        have dd : Dts K N3 (menuB ++ [menuX]) (xs ++ [w]) := dtsApp (Dts.same a3 _ _ dxs) (by unfold Dts Dts; exact ⟨w, [], rfl, d3, rfl⟩)
        have e4 := upd_same (H := H3) (a := so) (o := .lst (xs ++ [w]))
        have b4 : Same N3 (L2.upd H3 so (.lst (xs ++ [w]))) := fun c o z => by
          rw [upd_ne (ne_of_none z Nso3)]
          exact b3 _ _ z
        have X4 : SameX p H1 (L2.upd H3 so (.lst (xs ++ [w]))) := fun c o nc z => by
          rw [upd_ne (ne_of_none z nso)]
          exact c3 _ _ (S2 _ _ z)
        have hA4 : HandAt (L2.upd H3 so (.lst (xs ++ [w]))) p T1 := (hA2.same c3).upd (Ne.symm sop)
        have a4 : Same N N3 := a2.trans a3
        have f4 := fresh_trans S2 f2 f3
        generalize L2.upd H3 so (.lst (xs ++ [w])) = H4 at e4 b4 X4 hA4 ⊢
        have lw : (xs ++ [w]).length = 19 := by rw [List.length_append, lx]; rfl
        have hd4 := Dt.same (a4.trans b4) _ _ hd
        have hdN := Dt.same a4 _ _ hd
        clear dxs d3 e3 eso
        generalize xs ++ [w] = ws at e4 dd lw ⊢
        have mb := menuB_ok (W := W) (k := k) (b := b) hb1
        -- a longer list
        have more : ∀ {σ' : L2.St} {es : List PyData} {tA : TA} {Q' : VK}, LyA K σ' N3 es tA → es.length ≤ 100 → (∀ e ∈ es, Bent W k b e) →
            (∀ (l3 : Addr) (H5 N5 : Hp) (zs : List V), SameX p H1 H5 → HandAt H5 p T1 → Same N N5 → Same N5 H5 → N5 p = none → (∀ c, N5 c ≠ none → N c ≠ none ∨ H1 c = none) → H5 l3 = some (.lst zs) → l3 ≠ p → Dts K N5 ((menuB ++ [menuX]) ++ es) zs → Dt K H5 d v → Q' (.ref l3) H5) →
            tLst tA σ' H4 (fun y H' => rCat (.ref so) y H' Q') := by
          intro σ' es tA Q' hL le5 ok5 k5
          refine llst0 (N := N3) hL b4 (by omega) fun l2 ys N5 H5 a5 b5 c5 f5 nl2 Nl2 el2 dys => ?_
          have ly := dtsLen dys
          refine ⟨so, l2, ws, ys, rfl, rfl, c5 _ _ e4, el2, Nat.le_of_lt (small1000 (by omega)), fun l3 nl3 => ?_⟩
          have S6 := same_new (o := .lst (ws ++ ys)) nl3
          have hA5 := hA4.same c5
          exact k5 l3 _ N5 (ws ++ ys) (X4.trans (.of (c5.trans S6))) (hA5.same S6) (a4.trans a5) (b5.trans S6) (hA4.off Np3 f5) (freshX X4 (hA4.off Np3 f5) f4 f5) upd_same (hA5.ne nl3) (dtsApp (Dts.same a5 _ _ dd) dys) (Dt.same (c5.trans S6) _ _ hd4)
        have okM : ∀ es : List PyData, (∀ e ∈ es, Bent W k b e) → ∀ e ∈ (menuB ++ [menuX]) ++ es, Bent W k b e := fun es h e he => by
          rcases List.mem_append.mp he with z | z
          · exact mb e z
          · exact h e z
        cases d with
        | none =>
          refine ⟨v, rfl, v, _, rfl, hd4, _, rfl, ?_⟩
          rw [show isT .none "tuple" = false by simp [isT, tyD]]
          refine iteF ⟨v, rfl, v, _, rfl, hd4, _, rfl, ?_⟩
          rw [show isT .none "str" = false by simp [isT, tyD]]
          refine iteF ⟨v, rfl, v, _, rfl, hd4, _, rfl, ?_⟩
          rw [show isT .none "int" = false by simp [isT, tyD]]
          refine iteF ?_
          exact ⟨.ref p, rfl, .ref so, rfl, fin X4 hA4 a4 b4 Np3 f4 e4 sop dd (by decide) (by decide) mb⟩
        | list ds =>
          refine ⟨v, rfl, v, _, rfl, hd4, _, rfl, ?_⟩
          rw [show isT (.list ds) "tuple" = false by simp [isT, tyD]]
          refine iteF ⟨v, rfl, v, _, rfl, hd4, _, rfl, ?_⟩
          rw [show isT (.list ds) "str" = false by simp [isT, tyD]]
          refine iteF ⟨v, rfl, v, _, rfl, hd4, _, rfl, ?_⟩
          rw [show isT (.list ds) "int" = false by simp [isT, tyD]]
          refine iteF ?_
          exact ⟨.ref p, rfl, .ref so, rfl, fin X4 hA4 a4 b4 Np3 f4 e4 sop dd (by decide) (by decide) mb⟩
        | dict kvs =>
          refine ⟨v, rfl, v, _, rfl, hd4, _, rfl, ?_⟩
          rw [show isT (.dict kvs) "tuple" = false by simp [isT, tyD]]
          refine iteF ⟨v, rfl, v, _, rfl, hd4, _, rfl, ?_⟩
          rw [show isT (.dict kvs) "str" = false by simp [isT, tyD]]
          refine iteF ⟨v, rfl, v, _, rfl, hd4, _, rfl, ?_⟩
          rw [show isT (.dict kvs) "int" = false by simp [isT, tyD]]
          refine iteF ?_
          exact ⟨.ref p, rfl, .ref so, rfl, fin X4 hA4 a4 b4 Np3 f4 e4 sop dd (by decide) (by decide) mb⟩
        | tuple ds =>
          refine ⟨v, rfl, v, _, rfl, hd4, _, rfl, ?_⟩
          rw [show isT (.tuple ds) "tuple" = true by simp [isT, tyD]]
          have wl : wtA ds + 1 ≤ W := wle
          have ll := wtA_len ds
          refine iteT ⟨.ref so, rfl, more (l_cons (l_listT (l_var rfl hdN)) (l_cons (l_cat (l_var rfl hdN) (l_cut (l_var rfl hdN) lo_none lo_int) (by have := wtA_len (L2.cutD ds none (some 1)); have := cutD_wt ds none (some 1); omega)) (l_cons (l_cut (l_var rfl hdN) lo_int lo_none) (l_cons (l_rev (l_var rfl hdN)) (l_cons (l_cut (l_var rfl hdN) lo_none lo_neg) (l_cons (l_tup (l_cons (l_var rfl hdN) l_nil) (by show 1 ≤ 1000; decide)) l_nil)))))) (by show 6 ≤ 100; decide) (bent_tup bd hb1) fun l3 H5 N5 zs X5 hA5 a5 b5 Np5 f5 e5 l3p d5 hd5 => ?_⟩
          refine ⟨v, rfl, v, _, rfl, hd5, _, rfl, ?_⟩
          rw [show isT (.tuple ds) "str" = false by simp [isT, tyD]]
          refine iteF ⟨v, rfl, v, _, rfl, hd5, _, rfl, ?_⟩
          rw [show isT (.tuple ds) "int" = false by simp [isT, tyD]]
          refine iteF ?_
          exact ⟨.ref p, rfl, .ref l3, rfl, fin X5 hA5 a5 b5 Np5 f5 e5 l3p d5 (by simp [menuB]) (by simp [menuB]) (okM _ (bent_tup bd hb1))⟩
        | str x =>
          refine ⟨v, rfl, v, _, rfl, hd4, _, rfl, ?_⟩
          rw [show isT (.str x) "tuple" = false by simp [isT, tyD]]
          refine iteF ⟨v, rfl, v, _, rfl, hd4, _, rfl, ?_⟩
          rw [show isT (.str x) "str" = true by simp [isT, tyD]]
          have wl : x.length + 1 ≤ W := wle
          refine iteT ⟨.ref so, rfl, more (l_cons (l_sadd (l_var rfl hdN) l_str (by show x.length + 1 ≤ _; omega)) (l_cons (l_scut (l_var rfl hdN) lo_int lo_none (by omega)) (l_cons (l_lst (l_cons (l_var rfl hdN) l_nil) (by show 1 ≤ 1000; decide)) (l_cons (l_tup (l_cons (l_var rfl hdN) l_nil) (by show 1 ≤ 1000; decide)) (l_cons (l_upper (l_var rfl hdN) (by omega)) l_nil))))) (by show 5 ≤ 100; decide) (bent_str bd hb1) fun l3 H5 N5 zs X5 hA5 a5 b5 Np5 f5 e5 l3p d5 hd5 => ?_⟩
          refine ⟨v, rfl, v, _, rfl, hd5, _, rfl, ?_⟩
          rw [show isT (.str x) "int" = false by simp [isT, tyD]]
          refine iteF ?_
          exact ⟨.ref p, rfl, .ref l3, rfl, fin X5 hA5 a5 b5 Np5 f5 e5 l3p d5 (by simp [menuB]) (by simp [menuB]) (okM _ (bent_str bd hb1))⟩
        | int i =>
          refine ⟨v, rfl, v, _, rfl, hd4, _, rfl, ?_⟩
          rw [show isT (.int i) "tuple" = false by simp [isT, tyD]]
          refine iteF ⟨v, rfl, v, _, rfl, hd4, _, rfl, ?_⟩
          rw [show isT (.int i) "str" = false by simp [isT, tyD]]
          refine iteF ⟨v, rfl, v, _, rfl, hd4, _, rfl, ?_⟩
          rw [show isT (.int i) "int" = true by simp [isT, tyD]]
          have nn : numD (.int i) = some i := rfl
          have nb := num_bd nn bd.ok hb1
          refine iteT ⟨.ref so, rfl, more (l_cons (l_addN nn (l_var rfl hdN)) (l_cons (l_subN nn (l_var rfl hdN)) (l_cons (l_addN nn (l_var rfl hdN)) (l_cons (l_strN nn (by omega) (l_var rfl hdN)) (l_cons (l_tup (l_cons (l_var rfl hdN) l_nil) (by show 1 ≤ 1000; decide)) (l_cons (l_eqN nn (l_var rfl hdN)) l_nil)))))) (by show 6 ≤ 100; decide) (bent_num bd nn hb1 hb2) fun l3 H5 N5 zs X5 hA5 a5 b5 Np5 f5 e5 l3p d5 hd5 => ?_⟩
          exact ⟨.ref p, rfl, .ref l3, rfl, fin X5 hA5 a5 b5 Np5 f5 e5 l3p d5 (by simp [menuB]) (by simp [menuB]) (okM _ (bent_num bd nn hb1 hb2))⟩
        | bool c =>
          refine ⟨v, rfl, v, _, rfl, hd4, _, rfl, ?_⟩
          rw [show isT (.bool c) "tuple" = false by simp [isT, tyD]]
          refine iteF ⟨v, rfl, v, _, rfl, hd4, _, rfl, ?_⟩
          rw [show isT (.bool c) "str" = false by simp [isT, tyD]]
          refine iteF ⟨v, rfl, v, _, rfl, hd4, _, rfl, ?_⟩
          rw [show isT (.bool c) "int" = true by simp [isT, tyD]]
          have nn : numD (.bool c) = some (if c = true then 1 else 0) := rfl
          have nb := num_bd nn bd.ok hb1
          refine iteT ⟨.ref so, rfl, more (l_cons (l_addN nn (l_var rfl hdN)) (l_cons (l_subN nn (l_var rfl hdN)) (l_cons (l_addN nn (l_var rfl hdN)) (l_cons (l_strN nn (by omega) (l_var rfl hdN)) (l_cons (l_tup (l_cons (l_var rfl hdN) l_nil) (by show 1 ≤ 1000; decide)) (l_cons (l_eqN nn (l_var rfl hdN)) l_nil)))))) (by show 6 ≤ 100; decide) (bent_num bd nn hb1 hb2) fun l3 H5 N5 zs X5 hA5 a5 b5 Np5 f5 e5 l3p d5 hd5 => ?_⟩
          exact ⟨.ref p, rfl, .ref l3, rfl, fin X5 hA5 a5 b5 Np5 f5 e5 l3p d5 (by simp [menuB]) (by simp [menuB]) (okM _ (bent_num bd nn hb1 hb2))⟩
      -- the test
      have toRest : ∀ (D : Ends) (y2 : Option V) (H1 : Hp) (T1 : Int), D.rt = Q → SameX p H H1 → HandAt H1 p T1 → T1 ≤ T + 1 → tRestB K p v N W k b D [some (.ref p), some v, y2, none] H1 := by
        intro D y2 H1 T1 eD X1 hA1 hT1
        refine ⟨y2, T1, rfl, hA1, by omega, keepN Np sN X1, fun H' N' v' d' sx hA' a' b' Np' f' dt bt => ?_⟩
        rw [eD]
        exact q H' N' v' d' (X1.trans sx) (hA'.mono (by omega)) a' b' Np' (freshX X1 Np' fresh0 f') dt bt
      refine ⟨v, rfl, v, d, rfl, Dt.same sN _ _ hd, _, rfl, ?_⟩
      cases htu : isT d "tuple" with
      | false => exact iteF (iteF (toRest _ none H T rfl (.of (Same.refl H)) hA (by omega)))
      | true =>
        obtain ⟨ds, rfl⟩ : ∃ ds, d = .tuple ds := by
          cases d with
          | tuple ds => exact ⟨ds, rfl⟩
          | _ => simp [isT, tyD] at htu
        have hd' := hd
        unfold Dt at hd'
        obtain ⟨g, xs, rfl, qg, dg⟩ := hd'
        have lx := dtsLen dg
        refine iteT ⟨.ref g, rfl, Nat.zero_le _, fun p0 n0 => ?_⟩
        have S0 := same_new (o := .tup []) n0
        have hA0 := hA.same S0
        refine ⟨g, p0, xs, rfl, rfl, (sN.trans S0).sqT qg, .of upd_same, _, rfl, ?_⟩
        by_cases c0 : xs.length = 0
        · rw [decide_eq_true c0]
          exact iteF (iteF (toRest _ none _ T rfl (.of S0) hA0 (by omega)))
        rw [decide_eq_false c0]
        refine iteT ⟨.ref p, rfl, p, 4, T, rfl, hA0, by omega, by decide, by decide, fun H1 d1 sx1 hA1 d10 d11 => ⟨d1, 0, rfl, rfl, _, rfl, ite2 (fun c => ?_) (fun c => toRest _ none H1 (T + 1) rfl ((SameX.of S0).trans sx1) hA1 (by omega))⟩⟩
        have X1 : SameX p H H1 := (SameX.of S0).trans sx1
        have sN1 := keepN Np sN X1
        have wl : wtA ds + 1 ≤ W := wle
        have ll := wtA_len ds
        refine ⟨.ref p, rfl, .ref g, rfl, g, xs, rfl, .inr (sN1.sqT qg), p, (xs.length : Int), T + 1, rfl, hA1, by omega, by omega, by omega, fun H2 a sx2 hA2 a0 a1 => ?_⟩
        obtain ⟨j, rfl⟩ : ∃ j : Nat, a = (j : Int) := ⟨a.toNat, by omega⟩
        have X2 := X1.trans sx2
        have sN2 := keepN Np sN X2
        have jl : j < ds.length := by omega
        obtain ⟨x, hx, hdx⟩ := dtsGet dg (List.getElem?_eq_getElem jl)
        -- the part ahead
        refine (l_cut (l_var rfl hd) lo_none (lo_var rfl)) N H2 _ (Same.refl N) sN2 fun v1 N1 H3 a1' b1 c1 f1 dt1 => ?_
        rw [cut_to (by omega)] at dt1
        have Np1 := hA2.off Np f1
        have hA3 := hA2.same c1
        have hdp : PyData.depthAll ds + 1 ≤ k := bd.dp
        have dm := dep_mem (List.getElem_mem jl)
        have wm := wt_mem (List.getElem_mem jl)
        have ebd : Bd ds[j] (wt ds[j]) (k - 1) b := ⟨okA_iff.mp bd.ok.2 _ (List.getElem_mem jl), Nat.le_refl _, by omega⟩
        refine ⟨.ref p, rfl, .ref g, rfl, .int (j : Int), rfl, g, xs, (j : Int), x, rfl, rfl, (sN2.trans c1).sqT qg, atI_nat hx, ?_⟩
        refine ⟨p, x, T + 2, N1, ds[j], wt ds[j], k - 1, b, rfl, hA3.mono (by omega), by omega, Np1, b1, Dt.same a1' _ _ hdx, ebd, by omega, by omega, by omega, hb1, hb2, fun H4 N4 v4 d4 sx4 hA4 a4 b4 Np4 f4 dt4 bt4 => ?_⟩
        refine ⟨by show 1 ≤ sizeLine; decide, fun p5 n5 => ?_⟩
        have nN5 := b4.free n5
        have a5 := same_new (o := .tup [v4]) nN5
        have b5 : Same (L2.upd N4 p5 (.tup [v4])) (L2.upd H4 p5 (.tup [v4])) := b4.updBoth
        have c5 := same_new (o := .tup [v4]) n5
        have dt5 : Dt K (L2.upd N4 p5 (.tup [v4])) (.tuple [d4]) (.ref p5) := by
          unfold Dt Dts Dts
          exact ⟨p5, _, rfl, .of upd_same, v4, [], rfl, Dt.same a5 _ _ dt4, rfl⟩
        have Np5 : L2.upd N4 p5 (.tup [v4]) p = none := by
          rw [upd_ne (Ne.symm (hA4.ne n5))]
          exact Np4
        have hA5 := hA4.same c5
        have dt1' := Dt.same (a4.trans a5) _ _ dt1
        have lt := List.length_take_le j ds
        refine catD dt1' dt5 (by show _ + 1 ≤ _; omega) b5 fun v6 N6 H6 a6 b6 c6 f6 dt6 => ?_
        have hd6 : Dt K N6 (.tuple ds) (.ref g) := Dt.same (((a1'.trans a4).trans a5).trans a6) _ _ hd
        have hA6 := hA5.same c6
        refine (l_cut (l_var rfl hd6) (lo_var1 rfl) lo_none) N6 H6 _ (Same.refl N6) b6 fun v7 N7 H7 a7 b7 c7 f7 dt7 => ?_
        rw [show ((j : Int) + 1) = ((j + 1 : Nat) : Int) by omega, cut_from (by omega)] at dt7
        have l8 : (ds.take j ++ [d4]).length + (ds.drop (j + 1)).length ≤ 100000 := by
          rw [List.length_append, List.length_take, List.length_drop]
          show min j ds.length + 1 + _ ≤ _
          omega
        refine catD (Dt.same a7 _ _ dt6) dt7 l8 b7 fun v8 N8 H8 a8 b8 c8 f8 dt8 => ?_
        have Np6 := hA5.off Np5 f6
        have Np7 := hA6.off Np6 f7
        have hA7 := hA6.same c7
        have Np8 := hA7.off Np7 f8
        obtain ⟨k', rfl⟩ : ∃ k', k = k' + 1 := ⟨k - 1, by omega⟩
        have F1 : ∀ c, N1 c ≠ none → N c ≠ none ∨ H c = none := freshX X2 Np1 fresh0 f1
        have X3 : SameX p H H3 := X2.trans (.of c1)
        have F4 := freshX X3 Np4 F1 f4
        have X4 : SameX p H H4 := X3.trans sx4
        have F5 := freshX X4 Np5 F4 (fresh_upd (o := .tup [v4]) n5)
        have X5 : SameX p H (L2.upd H4 p5 (.tup [v4])) := X4.trans (.of c5)
        have F6 := freshX X5 Np6 F5 f6
        have F7 := freshX (X5.trans (.of c6)) Np7 F6 f7
        have F8 := freshX ((X5.trans (.of c6)).trans (.of c7)) Np8 F7 f8
        refine q H8 N8 v8 _ (X2.trans ((SameX.of c1).trans (sx4.trans (.of (((c5.trans c6).trans c7).trans c8))))) ((hA7.same c8).mono (by omega)) (((((a1'.trans a4).trans a5).trans a6).trans a7).trans a8) b8 Np8 F8 dt8 ?_
        exact bent_deep bd (List.getElem?_eq_getElem jl) bt4
end
end K01
set_option Elab.async false
set_option linter.all false
set_option maxRecDepth 100000
set_option maxHeartbeats 4000000
/-! texts stripped of letters; tables of keys; letters compared -/
namespace L2
open PySem PySem.Spec PyProof.Rows
theorem strip_len (x y : Str) : (Txt.stripChars x y).length = 0 ↔ x.cps.toList.all y.cps.contains = true := by
  unfold Txt.stripChars
  rw [stripBy_eq]
  obtain ⟨a1, a2, a3⟩ := lo_facts y.cps.contains x
  obtain ⟨b1, b2, b3, b4⟩ := hi_facts y.cps.contains x _ a1
  rw [size_strSub _ _ _ b2]
  have hn : x.cps.toList.length = x.length := Array.length_toList
  constructor
  · intro h
    refine List.all_eq_true.mpr fun c hc => ?_
    obtain ⟨k, hk, e⟩ := List.mem_iff_getElem.mp hc
    have ek : x.cps.getD k 0 = c := by
      rw [← getD_list, List.getD_eq_getElem?_getD, List.getElem?_eq_getElem hk, e]
      rfl
    rw [← ek]
    by_cases q : k < stripLo y.cps.contains true x
    · exact a2 k q
    · exact b3 k (by omega) (by omega)
  · intro h
    rcases a3 with z | z
    · omega
    · by_cases q : stripLo y.cps.contains true x < x.length
      · have hk : stripLo y.cps.contains true x < x.cps.toList.length := by omega
        have m := List.all_eq_true.mp h _ (List.getElem_mem hk)
        rw [← getD_list, List.getD_eq_getElem?_getD, List.getElem?_eq_getElem hk] at z
        have z : y.cps.contains (x.cps.toList[stripLo y.cps.contains true x]) = false := z
        rw [m] at z
        cases z
      · omega
theorem len0 {x : Str} (h : x.length = 0) : x = "" := by
  have : x.cps = #[] := Array.eq_empty_of_size_eq_zero h
  cases x
  simp only at this
  subst this
  rfl
theorem strip_eq (x y : Str) : decide (V.str (Txt.stripChars x y) = V.str "") = x.cps.toList.all y.cps.contains := by
  have k := strip_len x y
  by_cases c : x.cps.toList.all y.cps.contains = true
  · rw [c]
    refine decide_eq_true ?_
    rw [len0 (k.mpr c)]
  · rw [Bool.eq_false_iff.mpr c]
    refine decide_eq_false fun z => c (k.mp ?_)
    have z := V.str.inj z
    rw [z]
    rfl
theorem mergeK_len : ∀ {more kvs : List (Key × V)}, (mergeK kvs more).length = kvs.length + more.length ↔ (more.map (·.1)).Nodup ∧ ∀ k ∈ more.map (·.1), k ∉ kvs.map (·.1)
  | [], kvs => by
    show kvs.length = kvs.length + 0 ↔ _
    simp
  | p :: r, kvs => by
    have ih := mergeK_len (more := r) (kvs := putK kvs p.1 p.2)
    have le := length_mergeK r (putK kvs p.1 p.2)
    show (mergeK (putK kvs p.1 p.2) r).length = kvs.length + (r.length + 1) ↔ _
    rw [List.map_cons, List.nodup_cons]
    by_cases c : (kvs.any fun kv => decide (kv.1 = p.1)) = true
    · have lp : (putK kvs p.1 p.2).length = kvs.length := by
        unfold putK
        rw [if_pos c, List.length_map]
      have hm : p.1 ∈ kvs.map (·.1) := by
        obtain ⟨q, hq, e⟩ := List.any_eq_true.mp c
        exact List.mem_map.mpr ⟨q, hq, of_decide_eq_true e⟩
      exact ⟨fun z => by omega, fun z => absurd hm (z.2 _ List.mem_cons_self)⟩
    · have ep : putK kvs p.1 p.2 = kvs ++ [(p.1, p.2)] := by
        unfold putK
        rw [if_neg c]
      have hm : p.1 ∉ kvs.map (·.1) := fun z => c (by
        obtain ⟨q, hq, e⟩ := List.mem_map.mp z
        exact List.any_eq_true.mpr ⟨q, hq, decide_eq_true e⟩)
      have el : (putK kvs p.1 p.2).length = kvs.length + 1 := by rw [ep, List.length_append]; rfl
      have e2 : (mergeK (putK kvs p.1 p.2) r).length = kvs.length + (r.length + 1) ↔ (mergeK (putK kvs p.1 p.2) r).length = (putK kvs p.1 p.2).length + r.length := by rw [el]; omega
      rw [e2, ih, ep, List.map_append]
      constructor
      · rintro ⟨h1, h2⟩
        refine ⟨⟨fun z => h2 _ z (List.mem_append.mpr (.inr List.mem_cons_self)), h1⟩, fun k hk => ?_⟩
        rcases List.mem_cons.mp hk with z | z
        · rw [z]
          exact hm
        · exact fun y => h2 _ z (List.mem_append.mpr (.inl y))
      · rintro ⟨⟨h1, h2⟩, h3⟩
        refine ⟨h2, fun k hk y => ?_⟩
        rcases List.mem_append.mp y with y | y
        · exact h3 k (List.mem_cons_of_mem _ hk) y
        · have y : k = p.1 := List.mem_singleton.mp y
          rw [y] at hk
          exact h1 hk
theorem wipe_set (σ : L2.St) (j : Nat) (x : V) : wipe ((wipe σ [j]).set j (some x)) [j] = wipe σ [j] := by
  show ((σ.set j none).set j (some x)).set j none = σ.set j none
  rw [List.set_set, List.set_set]
theorem get_set {σ : L2.St} {j : Nat} {x : V} (h : j < σ.length) : (σ.set j (some x))[j]? = some (some x) := by
  rw [List.getElem?_set, if_pos rfl, if_pos h]
theorem chr_ge (c d : Nat) : (!decide ((⟨#[c]⟩ : Str).cps.toList < (⟨#[d]⟩ : Str).cps.toList)) = decide (d ≤ c) := by
  have e : ((⟨#[c]⟩ : Str).cps.toList < (⟨#[d]⟩ : Str).cps.toList) ↔ c < d := by
    show [c] < [d] ↔ _
    refine ⟨fun h => ?_, fun h => .rel h⟩
    cases h with
    | rel h => exact h
    | cons h => cases h
  by_cases q : c < d
  · rw [decide_eq_true (e.mpr q), decide_eq_false (by omega)]
    rfl
  · rw [decide_eq_false (fun z => q (e.mp z)), decide_eq_true (by omega)]
    rfl
end L2
set_option Elab.async false
set_option linter.all false
set_option maxRecDepth 100000
set_option maxHeartbeats 4000000
/-! more readings that lay data; bounds of parts; texts joined -/
namespace L2
open PySem PySem.Spec PyProof.Rows
theorem dtsRep {K : PySem.W.Frag} {H : Hp} {ds : List PyData} {xs : List V} (h : Dts K H ds xs) : ∀ n : Nat, Dts K H (List.replicate n ds).flatten (List.replicate n xs).flatten
  | 0 => by
    show Dts K H [] []
    unfold Dts
    rfl
  | n + 1 => by
    rw [List.replicate_succ, List.replicate_succ, List.flatten_cons, List.flatten_cons]
    exact dtsApp h (dtsRep h n)
section
variable {K : PySem.W.Frag} {σ : L2.St} {H0 : Hp}
theorem l_rep {ds : List PyData} {n : Int} {t : TE} (h : Ly K σ H0 (.tuple ds) t) (h0 : ds ≠ []) (h1 : 2 ≤ n) (h2 : n ≤ 1000) (l : ds.length ≤ 1000) : Ly K σ H0 (.tuple (List.replicate n.toNat ds).flatten) (tOp (rRepT K) t (tC (.int n))) := fun N H Q s0 sN k =>
  h N H _ s0 sN fun v N1 H1 a1 b1 c1 f1 d1 => by
    unfold Dt at d1
    obtain ⟨a, xs, rfl, qa, da⟩ := d1
    have lx := dtsLen da
    refine ⟨a, n, xs, rfl, rfl, b1.sqT qa, fun e => ?_, h1, h2, by omega, fun p np => ?_⟩
    · rw [e] at lx
      exact h0 (List.length_eq_zero_iff.mp lx.symm)
    · refine k _ (upd N1 p (.tup (List.replicate n.toNat xs).flatten)) _ (a1.trans (sameNew (b1.free np))) b1.updBoth (c1.trans (sameNew np)) (fresh_trans c1 f1 (fresh_upd np)) ?_
      unfold Dt
      exact ⟨p, _, rfl, .of upd_same, Dts.same (sameNew (b1.free np)) _ _ (dtsRep da n.toNat)⟩
theorem l_disp1 {x y : Str} : Ly K σ H0 (.dict [(.str x, .str y)]) (tDisp [(tC (.str x), tC (.str y))]) := fun N H Q s0 sN k => fun p np => by
  refine ⟨upd_same, [(.inr x, .str y)], rfl, by show 1 ≤ 15; decide, ?_⟩
  have e : (mergeK [] [((.inr x : Key), V.str y)]) = [(.inr x, .str y)] := rfl
  rw [e]
  refine k _ (upd N p (.dK [(.inr x, .str y)])) _ (sameNew (sN.free np)) (fun b o z => ?_) (fun b o z => ?_) (fresh_upd np) ?_
  · by_cases c : b = p
    · subst c
      rw [upd_same] at z ⊢
      exact z
    · rw [upd_ne c] at z ⊢
      rw [upd_ne c]
      exact sN _ _ z
  · have c : b ≠ p := ne_of_none z np
    rw [upd_ne c, upd_ne c]
    exact z
  · unfold Dt Dtk Dtk
    exact ⟨p, _, rfl, upd_same, .inr x, .str y, [], rfl, rfl, dt_str y, rfl⟩
end
theorem Bd.cat {ds es : List PyData} {W W' k : Nat} {b : Int} (h : Bd (.tuple ds) W k b) (g : Bd (.tuple es) W' k b) (l : ((ds.length + es.length : Nat) : Int) + 20 ≤ b) : Bd (.tuple (ds ++ es)) (W + W') k b := by
  have hw : wtA ds + 1 ≤ W := h.w
  have gw : wtA es + 1 ≤ W' := g.w
  have ho : okA b ds := h.ok.2
  have go : okA b es := g.ok.2
  have hd : PyData.depthAll ds + 1 ≤ k := h.dp
  have gd : PyData.depthAll es + 1 ≤ k := g.dp
  refine ⟨?_, ?_, ?_⟩
  · refine ⟨by rw [List.length_append]; exact l, ?_⟩
    refine okA_iff.mpr fun e he => ?_
    rcases List.mem_append.mp he with z | z
    · exact okA_iff.mp ho e z
    · exact okA_iff.mp go e z
  · show wtA (ds ++ es) + 1 ≤ _
    rw [wtA_app]
    omega
  · obtain ⟨j, rfl⟩ : ∃ j, k = j + 1 := ⟨k - 1, by omega⟩
    refine depAll_le fun e he => ?_
    rcases List.mem_append.mp he with z | z
    · have := dep_mem z
      omega
    · have := dep_mem z
      omega
theorem Bd.cut {ds : List PyData} {W k : Nat} {b : Int} (lo hi : Option Int) (h : Bd (.tuple ds) W k b) : Bd (.tuple (cutD ds lo hi)) W k b := by
  have hw : wtA ds + 1 ≤ W := h.w
  have ho : okA b ds := h.ok.2
  have hl : (ds.length : Int) + 20 ≤ b := h.ok.1
  have hd : PyData.depthAll ds + 1 ≤ k := h.dp
  have c := cutD_wt ds lo hi
  have cl := cutD_len ds lo hi
  refine ⟨?_, ?_, ?_⟩
  · refine ⟨by omega, ?_⟩
    exact okA_iff.mpr fun e he => okA_iff.mp ho e (cutD_mem he)
  · show wtA (cutD ds lo hi) + 1 ≤ _
    omega
  · obtain ⟨j, rfl⟩ : ∃ j, k = j + 1 := ⟨k - 1, by omega⟩
    refine depAll_le fun e he => ?_
    have := dep_mem (cutD_mem he)
    omega
theorem Bd.one {d : PyData} {W k : Nat} {b : Int} (h : Bd d W k b) (hb : 21 ≤ b) : Bd (.tuple [d]) (W + 1) (k + 1) b := by
  have hw := h.w
  refine ⟨⟨by show ((1 : Nat) : Int) + 20 ≤ b; omega, h.ok, trivial⟩, ?_, ?_⟩
  · show wt d + 0 + 1 ≤ _
    omega
  · exact depAll_le fun e he => by
      rw [List.mem_singleton.mp he]
      exact h.dp
theorem bd_names {nm : List Str} {m : Nat} {b : Int} (h : ∀ x ∈ nm, x.length ≤ 8 ∧ ascii x) (l : nm.length ≤ m) (hb : (m : Int) + 20 ≤ b) : Bd (.tuple (nm.map PyData.str)) (9 * m + 1) 1 b := by
  have w : ∀ nm : List Str, (∀ x ∈ nm, x.length ≤ 8 ∧ ascii x) → wtA (nm.map PyData.str) ≤ 9 * nm.length := by
    intro nm
    induction nm with
    | nil => exact fun _ => Nat.le_refl _
    | cons x r ih =>
      intro h
      have a := ih fun y hy => h y (List.mem_cons_of_mem _ hy)
      have b := (h x List.mem_cons_self).1
      show x.length + 1 + wtA (r.map PyData.str) ≤ 9 * (r.length + 1)
      omega
  have z := w nm h
  refine ⟨?_, ?_, ?_⟩
  · refine ⟨by rw [List.length_map]; omega, ?_⟩
    refine okA_iff.mpr fun d hd => ?_
    obtain ⟨x, hx, rfl⟩ := List.mem_map.mp hd
    exact (h x hx).2
  · show wtA (nm.map PyData.str) + 1 ≤ _
    omega
  · exact depAll_le fun d hd => by
      obtain ⟨x, hx, rfl⟩ := List.mem_map.mp hd
      exact Nat.le_refl _
/-- data of a list that Lean looks through -/
theorem bd_all {l : List PyData} {W k : Nat} {b : Int} (h : (l.all fun d => okB b d && (decide (wt d ≤ W) && decide (d.depth ≤ k))) = true) : ∀ d ∈ l, Bd d W k b := fun d hd => by
  obtain ⟨z1, z2⟩ := He.ba (List.all_eq_true.mp h d hd)
  obtain ⟨z2, z3⟩ := He.ba z2
  exact ⟨okB_ok d z1, of_decide_eq_true z2, of_decide_eq_true z3⟩
theorem join0 : ∀ cs : List Nat, (Str.join "" (cs.map fun c => (⟨#[c]⟩ : Str))).cps.toList = cs
  | [] => rfl
  | [c] => rfl
  | c :: d :: r => by
    have ih := join0 (d :: r)
    show ((⟨#[c]⟩ : Str) ++ "" ++ Str.join "" ((d :: r).map fun c => (⟨#[c]⟩ : Str))).cps.toList = _
    have ca : ∀ x y : Str, (x ++ y).cps.toList = x.cps.toList ++ y.cps.toList := fun x y => by
      show (x.cps ++ y.cps).toList = _
      simp
    rw [ca, ca, ih]
    rfl
theorem len_ones (cs : List Nat) : ((cs.map fun c => (⟨#[c]⟩ : Str)).map (·.length)).sum = cs.length := by
  induction cs with
  | nil => rfl
  | cons c r ih =>
    rw [List.map_cons, List.map_cons, List.sum_cons, ih, List.length_cons]
    show 1 + r.length = _
    omega
/-- the heap but for two places -/
theorem jump {N H : Hp} {p : Addr} (s : Same N H) (n : N p = none) : Same N (off p H) := fun b o e => by
  rw [off_ne (ne_of_none e n)]
  exact s _ _ e
end L2
set_option Elab.async false
set_option linter.all false
set_option maxRecDepth 100000
set_option maxHeartbeats 1000000
namespace K01
open PySem PySem.Spec PyProof.Rows L2
/-! ### what is a program: the program's own defs -/
def wholeD : PyData → Bool
  | .int _ => true
  | _ => false
def numI : PyData → Int
  | .int i => i
  | _ => 0
def nnD : PyData → Bool
  | .int i => decide (0 ≤ i)
  | _ => false
noncomputable def ascD : PyData → Bool
  | .tuple ds => ds.all wholeD && PM.bo ((ds.map numI).Pairwise (· < ·))
  | _ => false
noncomputable def formD : PyData → Bool
  | .tuple [a, b, c] => wholeD a && (wholeD b && (nnD b && ascD c))
  | _ => false
theorem whole_is (d : PyData) : wholeD d = (isT d "int" && !isT d "bool") := by
  cases d <;> simp [wholeD, isT, tyD]
theorem ints_back : ∀ {ds : List PyData}, ds.all wholeD = true → ds = (ds.map numI).map PyData.int
  | [], _ => rfl
  | d :: ds, h => by
    rw [List.all_cons] at h
    obtain ⟨h1, h2⟩ := He.ba h
    rw [List.map_cons, List.map_cons, ← ints_back h2]
    cases d with
    | int x => rfl
    | _ => cases h1
theorem is_tup {d : PyData} (h : isT d "tuple" = true) : ∃ ds, d = .tuple ds := by
  cases d with
  | tuple x => exact ⟨x, rfl⟩
  | _ => simp [isT, tyD] at h
theorem asc_false {d : PyData} (h : isT d "tuple" = false) : ascD d = false := by
  cases d with
  | tuple x => simp [isT, tyD] at h
  | _ => rfl
theorem form_false {d : PyData} (h : isT d "tuple" = false) : formD d = false := by
  cases d with
  | tuple x => simp [isT, tyD] at h
  | _ => rfl
theorem dts_intsV {K : PySem.W.Frag} {H : Hp} : ∀ {ns : List Int} {xs : List V}, Dts K H (ns.map PyData.int) xs → xs = ns.map V.int
  | [], xs, h => by
    rw [List.map_nil] at h
    unfold Dts at h
    exact h
  | n :: ns, xs, h => by
    rw [List.map_cons] at h
    unfold Dts Dt at h
    obtain ⟨v, r, e, e1, h2⟩ := h
    rw [e, e1, dts_intsV h2, List.map_cons]
def spDat (K : PySem.W.Frag) (g : PyData → Bool) : Sp := fun vs H Q _ => ∃ (v : V) (d : PyData), vs = [v] ∧ Dt K H d v ∧ wt d ≤ 200000 ∧ ∀ H', Same H H' → Q (.bl (g d)) H'
theorem ge_dec (i : Int) : decide (i ≥ 0) = decide (0 ≤ i) := rfl
section
variable {P : Program} {w : World} {K : PySem.W.Frag} {mg : Str → Option Value} {base : Heap}
theorem ok_wholeD {f : Addr} {fd : FuncData} (F : FnP K "is_whole" s_is_whole f fd) (ms : mg "isinstance" = none) (mi : mg "int" = none) (mb : mg "bool" = none) :
    FnOk P w K mg base CX0 1 f fd ["value"] (spDat K wholeD) := by
  refine F.ok scWhole (fun vs H Q E h => ?_) (fun cdv A outer s H vs Q E hr h => ?_)
  · obtain ⟨v, d, rfl, _⟩ := h
    rfl
  · obtain ⟨v, d, rfl, hd, hw, q⟩ := h
    refine ⟨_, PSs.nox (pss_one (ps_ret (pe_and (pe_callB (call_isD (T := "int") (by decide)) (by rfl) ms (by decide +kernel) (pa_cons (pv 0) (pa_cons (pe_bltn (v := .ty "int") (by rfl) mi (by decide +kernel) rfl) pa_nil))) (pe_one (pe_not (pe_callB (call_isD (T := "bool") (by decide)) (by rfl) ms (by decide +kernel) (pa_cons (pv 0) (pa_cons (pe_bltn (v := .ty "bool") (by rfl) mb (by decide +kernel) rfl) pa_nil)))))))), ?_⟩
    have z := q H (Same.refl H)
    rw [whole_is] at z
    refine ⟨v, rfl, v, d, rfl, hd, _, rfl, ?_⟩
    cases hi : isT d "int" with
    | false =>
      rw [hi, Bool.false_and] at z
      exact iteF z
    | true =>
      rw [hi, Bool.true_and] at z
      exact iteT ⟨v, rfl, v, d, rfl, hd, _, rfl, z⟩
def spNbI : Sp := fun vs H Q _ => ∃ i n : Int, vs = [.int i, .int n] ∧ ∀ H', Same H H' → Q (.bl (decide (0 ≤ i) && decide (i < n))) H'
theorem ok_nbI {fW fN : Addr} {fdW fdN : FuncData} (T : TxtN K mg fW fN fdW fdN) : FnOk P w K mg base CX0 2 fN fdN ["value", "limit"] spNbI := by
  have GW : FnOk P w K mg base CX0 1 fW fdW ["value"] (spDat K wholeD) := ok_wholeD T.FW T.ms T.mi T.mb
  have bW : Binds K fdW ["value"] [] := T.FW.bindsN fun _ _ _ _ _ _ us hl => match us, hl with | [_], _ => rfl
  refine T.FN.ok scNb (fun vs H Q E h => ?_) (fun cdv A outer s H vs Q E hr h => ?_)
  · obtain ⟨i, n, rfl, _⟩ := h
    rfl
  · obtain ⟨i, n, rfl, q⟩ := h
    refine ⟨_, PSs.nox (pss_one (ps_ret (pe_and (pe_call GW hr (by rfl) T.gW T.FW.kp bW .nil pass0 (pa_cons (pv 0) pa_nil)) (pe_one (pe_chain op_le op_lt pe_int (pv 0) (pv 1)))))), ?_⟩
    refine ⟨.int i, rfl, .int i, .int i, rfl, dt_int i, by show 1 ≤ _; decide, fun H1 S1 => ⟨true, rfl, iteT ?_⟩⟩
    refine ⟨.int i, rfl, 0, i, rfl, rfl, _, rfl, ?_⟩
    have z := q H1 S1
    by_cases c : 0 ≤ i
    · rw [decide_eq_true c] at z ⊢
      exact iteT ⟨.int n, rfl, i, n, rfl, rfl, z⟩
    · rw [decide_eq_false c] at z ⊢
      exact iteF z
/-- all of a tuple, by a def that tells of each -/
theorem all_tup {a : Addr} {ds : List PyData} {xs : List V} {g : PyData → Bool} {H : Hp} {D : Addr} {σ : L2.St} {j : Nat} {Qd : Hp → Prop} {E : XK} (qa : SqT K H a xs) (dx : Dts K H ds xs) (hl : wtA ds + 1 ≤ 200000) (nD : H D = none) (hj : j < σ.length)
    (hd : ∀ H', Same H H' → H' D = some (.lst ((ds.map g).map V.bl)) → Qd H') :
    ∃ W : Nat → Nat → Hp → Prop, (∃ m, W 0 m (L2.upd H D (.lst []))) ∧ ∀ i m H, W i m H →
      ((Itt K a).stop i H ∧ Qd H) ∨ ((Itt K a).go i H ∧ ∃ Nx : Hp → Prop, (∀ H', Nx H' → ∃ m', m' < m ∧ W (i + 1) m' H') ∧ ∀ x H', (Itt K a).yld i H x H' → gName j x (wipe σ [j]) H' fun σ2 H2 => wipe σ2 [j] = wipe σ [j] ∧ tYes σ2 H2 fun b H3 =>
        if b = true then tCall (spDat K g) [] E (tCons (tVar j) tNil) σ2 H3 fun y H4 => ∃ acc, H4 D = some (.lst acc) ∧ acc.length < sizeLine ∧ Nx (L2.upd H4 D (.lst (acc ++ [y]))) else Nx H3) := by
  have lx := dtsLen dx
  have ll := wtA_len ds
  refine lc_tup (K := K) (a := a) (xs := xs) (fun i H' => Same H H' ∧ H' D = some (.lst (((ds.take i).map g).map V.bl))) ⟨same_new nD, upd_same⟩ (fun i H' _ ⟨s', _⟩ => s'.sqT qa) ?_ ?_
  · rintro i x H' hx ⟨S, e⟩
    have hi : i < ds.length := by
      rw [← lx]
      exact (List.getElem?_eq_some_iff.mp hx).1
    obtain ⟨y, hy, hdy⟩ := dtsGet dx (List.getElem?_eq_getElem hi)
    rw [hx] at hy
    cases hy
    have wm := wt_mem (List.getElem_mem hi)
    have sl : (wipe σ [j]).length = σ.length := wipe_length σ [j]
    refine ⟨wipe_set σ j x, ?_⟩
    refine ⟨x, ?_, x, ds[i], rfl, Dt.same S _ _ hdy, by omega, fun H2 S2 => ?_⟩
    · exact get_set (by omega)
    · refine ⟨_, S2 _ _ e, ?_, fun b o z => ?_, ?_⟩
      · rw [List.length_map, List.length_map, List.length_take]
        refine Nat.lt_of_le_of_lt (Nat.min_le_left _ _) ?_
        rw [sizeLine_eq]
        omega
      · rw [upd_ne (ne_of_none z nD)]
        exact S2 _ _ (S _ _ z)
      · rw [upd_same, List.take_add_one, List.getElem?_eq_getElem hi, List.map_append, List.map_append]
        rfl
  · rintro H' ⟨S, e⟩
    rw [lx, List.take_length] at e
    exact hd H' S e
theorem all_map (ds : List PyData) (g : PyData → Bool) : (ds.map g).all id = ds.all g := by
  rw [List.all_map]
  rfl
theorem scAsc : FnScope ["value", "item", "at"] ["value"] (defScope s_is_ascending) := ⟨rfl, rfl, rfl, by decide +kernel, rfl, by decide +kernel, by decide +kernel⟩
theorem asc_all (ns : List Int) : ((List.range (ns.length - 1)).map fun i => decide (ns.getD i 0 < ns.getD (i + 1) 0)).all id = PM.bo (ns.Pairwise (· < ·)) := by
  have k : ((List.range (ns.length - 1)).map fun i => decide (ns.getD i 0 < ns.getD (i + 1) 0)).all id = true ↔ ns.Pairwise (· < ·) := by
    rw [PM.asc_iff, List.all_eq_true]
    constructor
    · intro h i a b ha hb
      have hi := (List.getElem?_eq_some_iff.mp hb).1
      have z := h _ (List.mem_map.mpr ⟨i, List.mem_range.mpr (by omega), rfl⟩)
      have z := of_decide_eq_true z
      rw [List.getD_eq_getElem?_getD, List.getD_eq_getElem?_getD, ha, hb] at z
      exact z
    · intro h x hx
      obtain ⟨i, hi, rfl⟩ := List.mem_map.mp hx
      have hi := List.mem_range.mp hi
      refine decide_eq_true ?_
      have h1 : i < ns.length := by omega
      have h2 : i + 1 < ns.length := by omega
      rw [List.getD_eq_getElem?_getD, List.getD_eq_getElem?_getD, List.getElem?_eq_getElem h1, List.getElem?_eq_getElem h2]
      exact h i _ _ (List.getElem?_eq_getElem h1) (List.getElem?_eq_getElem h2)
  by_cases c : ns.Pairwise (· < ·)
  · rw [PM.bo_true c, k.mpr c]
  · rw [PM.bo_false c]
    exact Bool.eq_false_iff.mpr fun z => c (k.mp z)
theorem ok_asc {f fW fN : Addr} {fd fdW fdN : FuncData} (T : TxtN K mg fW fN fdW fdN) (F : FnP K "is_ascending" s_is_ascending f fd) (mal : mg "all" = none) : FnOk P w K mg base CX0 2 f fd ["value"] (spDat K ascD) := by
  have GW : FnOk P w K mg base CX0 1 fW fdW ["value"] (spDat K wholeD) := ok_wholeD T.FW T.ms T.mi T.mb
  have bW : Binds K fdW ["value"] [] := T.FW.bindsN fun _ _ _ _ _ _ us hl => match us, hl with | [_], _ => rfl
  refine F.ok scAsc (fun vs H Q E h => ?_) (fun cdv A outer s H vs Q E hr h => ?_)
  · obtain ⟨v, d, rfl, _⟩ := h
    rfl
  · obtain ⟨v, d, rfl, hd, hw, q⟩ := h
    have nd := scAsc.nd
    refine ⟨_, PSs.nox (pss_cons (ps_if (PW.pt (pw_or (pt_not (pt_val (pe_callB (call_isD (T := "tuple") (by decide)) (by rfl) T.ms (by decide +kernel) (pa_cons (pv 0) (pa_cons (pe_bltn (v := .ty "tuple") (by rfl) T.mt (by decide +kernel) rfl) pa_nil))))) (pw_or1 (pt_not (pt_val (pe_callB (cr_all rfl) (by rfl) mal (by decide +kernel) (pa_cons (pe_lc (own := [("item", 1)]) (g := gName 1) (tt := tYes) (te := tCall (spDat K wholeD) [] E0 (tCons (tVar 1) tNil)) rfl nd (pi_tup (pv 0)) (blkOk_by (N := ["value", "item", "at"]) (sc := defScope s_is_ascending) (by decide +kernel)) (fun _ _ _ _ _ => pg_name (i := 1) nd rfl (Or.inl rfl)) (fun _ _ _ _ _ => pts_nil) (fun _ _ _ _ _ => (pe_call GW hr (by rfl) T.gW T.FW.kp bW .nil pass0 (pa_cons (pv 1) pa_nil)))) pa_nil))))))) (pss_one (ps_ret pe_bl)) pss_nil)
      (pss_one (ps_ret (pe_callB (cr_all rfl) (by rfl) mal (by decide +kernel) (pa_cons (pe_lc (own := [("at", 2)]) (g := gName 2) (tt := tYes) (te := tOp (rI0 fun i j => .bl (decide (i < j))) (tOp (rIxT K) (tVar 0) (tVar 2)) (tOp (rIxT K) (tVar 0) (tOp (rI0 fun i j => .int (i + j)) (tVar 2) (tC (.int 1))))) rfl nd (pi_range1 (by rfl) T.mr (pa_cons (pe_op op_sub (pe_callB call_len_seq (by rfl) T.ml PySem.boot_len (pa_cons (pv 0) pa_nil)) pe_int) pa_nil)) (blkOk_by (N := ["value", "item", "at"]) (sc := defScope s_is_ascending) (by decide +kernel)) (fun _ _ _ _ _ => pg_name (i := 2) nd rfl (Or.inl rfl)) (fun _ _ _ _ _ => pts_nil) (fun _ _ _ _ _ => (pe_cmpR op_lt (pe_ix ix_tup (pv 0) (pv 2) (fun _ _ => rfl)) (pe_ix ix_tup (pv 0) (pe_op op_add (pv 2) pe_int) (fun _ _ => rfl)) (nomark _)))) pa_nil))))), ?_⟩
    refine ⟨v, rfl, v, d, rfl, hd, _, rfl, ?_⟩
    cases hs : isT d "tuple" with
    | false =>
      have z := q H (Same.refl H)
      rw [asc_false hs] at z
      exact iteT (iteT z)
    | true =>
      obtain ⟨ds, rfl⟩ := is_tup hs
      have hd' := hd
      unfold Dt at hd'
      obtain ⟨a, xs, rfl, qa, dx⟩ := hd'
      refine iteF ⟨.ref a, rfl, a, rfl, ⟨xs, qa⟩, fun D nD => ?_⟩
      refine all_tup (ds := ds) (g := wholeD) qa dx hw nD (by show 1 < 3; decide) fun H1 S e => ?_
      refine ⟨D, _, rfl, .of e, _, rfl, ?_⟩
      rw [all_map]
      cases hall : ds.all wholeD with
      | false =>
        have z := q H1 S
        rw [show ascD (.tuple ds) = false by show (ds.all wholeD && _) = false; rw [hall]; rfl] at z
        exact iteT z
      | true =>
        refine iteF ?_
        have eb := ints_back hall
        have el : (ds.map numI).length = ds.length := List.length_map ..
        have ea : ascD (.tuple ds) = PM.bo ((ds.map numI).Pairwise (· < ·)) := by
          show (ds.all wholeD && _) = _
          rw [hall]
          rfl
        rw [ea] at q
        have qs : SqT K H a ((ds.map numI).map V.int) := by
          rw [eb] at dx
          rw [dts_intsV dx] at qa
          exact qa
        have wl : wtA ds + 1 ≤ 200000 := hw
        have ll := wtA_len ds
        generalize ds.map numI = ns at q qs el
        refine ⟨.ref a, rfl, a, _, rfl, .inr (S.sqT qs), _, 1, rfl, rfl, _, rfl, by rw [List.length_map]; omega, by rw [List.length_map]; omega, fun D2 nD2 => ?_⟩
        rw [List.length_map]
        have q1 := S.sqT qs
        refine lc_range (lo := 0) (n := ((ns.length : Int) - 1).toNat) (fun j H' => Same H1 H' ∧ H' D2 = some (.lst (((List.range j).map fun i => decide (ns.getD i 0 < ns.getD (i + 1) 0)).map V.bl))) ⟨same_new nD2, upd_same⟩ ?_ ?_
        · rintro j H2 hj ⟨S2, e2⟩
          have h1 : j < ns.length := by omega
          have h2 : j + 1 < ns.length := by omega
          have g1 : (ns.map V.int)[j]? = some (.int (ns.getD j 0)) := by
            rw [List.getElem?_map, List.getElem?_eq_getElem h1, List.getD_eq_getElem?_getD, List.getElem?_eq_getElem h1]
            rfl
          have g2 : (ns.map V.int)[j + 1]? = some (.int (ns.getD (j + 1) 0)) := by
            rw [List.getElem?_map, List.getElem?_eq_getElem h2, List.getD_eq_getElem?_getD, List.getElem?_eq_getElem h2]
            rfl
          refine ⟨rfl, .ref a, rfl, .int (0 + (j : Int)), rfl, a, _, (j : Int), _, rfl, by rw [Int.zero_add], S2.sqT q1, atI_nat g1, .ref a, rfl, .int (0 + (j : Int)), rfl, 0 + (j : Int), 1, rfl, rfl, a, _, ((j + 1 : Nat) : Int), _, rfl, ?_, S2.sqT q1, atI_nat g2, _, _, rfl, rfl, _, e2, ?_, fun b o z => ?_, ?_⟩
          · rw [Int.zero_add]
            rfl
          · rw [List.length_map, List.length_map, List.length_range, sizeLine_eq]
            omega
          · rw [upd_ne (ne_of_none z nD2)]
            exact S2 _ _ z
          · rw [upd_same, List.range_succ, List.map_append, List.map_append]
            rfl
        · rintro H2 ⟨S2, e2⟩
          refine ⟨D2, _, rfl, .of e2, ?_⟩
          rw [show ((ns.length : Int) - 1).toNat = ns.length - 1 by omega, asc_all]
          exact q H2 (S.trans S2)
theorem scForm : FnScope ["value", "parent", "count", "uses"] ["value"] (defScope s_has_scope_form) := ⟨rfl, rfl, rfl, by decide +kernel, rfl, by decide +kernel, by decide +kernel⟩
theorem form_len {ds : List PyData} (h : ds.length ≠ 3) : formD (.tuple ds) = false := by
  match ds, h with
  | [], _ => rfl
  | [_], _ => rfl
  | [_, _], _ => rfl
  | [_, _, _], h => exact absurd rfl h
  | _ :: _ :: _ :: _ :: _, _ => rfl
theorem ok_form {f fW fN fA : Addr} {fd fdW fdN fdA : FuncData} (T : TxtN K mg fW fN fdW fdN) (F : FnP K "has_scope_form" s_has_scope_form f fd) (FA : FnP K "is_ascending" s_is_ascending fA fdA) (gA : mg "is_ascending" = some (.ref fA)) (mal : mg "all" = none) :
    FnOk P w K mg base CX0 3 f fd ["value"] (spDat K formD) := by
  have GW : FnOk P w K mg base CX0 1 fW fdW ["value"] (spDat K wholeD) := ok_wholeD T.FW T.ms T.mi T.mb
  have GA : FnOk P w K mg base CX0 2 fA fdA ["value"] (spDat K ascD) := ok_asc T FA mal
  have bW : Binds K fdW ["value"] [] := T.FW.bindsN fun _ _ _ _ _ _ us hl => match us, hl with | [_], _ => rfl
  have bA : Binds K fdA ["value"] [] := FA.bindsN fun _ _ _ _ _ _ us hl => match us, hl with | [_], _ => rfl
  refine F.ok scForm (fun vs H Q E h => ?_) (fun cdv A outer s H vs Q E hr h => ?_)
  · obtain ⟨v, d, rfl, _⟩ := h
    rfl
  · obtain ⟨v, d, rfl, hd, hw, q⟩ := h
    have nd := scForm.nd
    have hr1 : Room 1 _ := hr.mono (by decide)
    refine ⟨_, PSs.nox (pss_cons (ps_if (PW.pt (pw_or (pt_not (pt_val (pe_callB (call_isD (T := "tuple") (by decide)) (by rfl) T.ms (by decide +kernel) (pa_cons (pv 0) (pa_cons (pe_bltn (v := .ty "tuple") (by rfl) T.mt (by decide +kernel) rfl) pa_nil))))) (pw_or1 (pt_cmpR op_ne (pe_callB call_len_seq (by rfl) T.ml PySem.boot_len (pa_cons (pv 0) pa_nil)) pe_int (nomark _))))) (pss_one (ps_ret pe_bl)) pss_nil)
      (pss_cons (ps_asg (pv 0) (pg_tup rfl (pgs_cons (pg_name (i := 1) nd rfl (.inl rfl)) (pgs_cons (pg_name (i := 2) nd rfl (.inl rfl)) (pgs_cons (pg_name (i := 3) nd rfl (.inl rfl)) pgs_nil)))))
      (pss_one (ps_ret (pe_and (pe_call GW hr1 (by rfl) T.gW T.FW.kp bW .nil pass0 (pa_cons (pv 1) pa_nil)) (pe_and (pe_call GW hr1 (by rfl) T.gW T.FW.kp bW .nil pass0 (pa_cons (pv 2) pa_nil)) (pe_and (pe_cmpR op_ge (pv 2) pe_int (nomark _)) (pe_one (pe_call GA hr (by rfl) gA FA.kp bA .nil pass0 (pa_cons (pv 3) pa_nil)))))))))), ?_⟩
    refine ⟨v, rfl, v, d, rfl, hd, _, rfl, ?_⟩
    cases hs : isT d "tuple" with
    | false =>
      have z := q H (Same.refl H)
      rw [form_false hs] at z
      exact iteT (iteT z)
    | true =>
      obtain ⟨ds, rfl⟩ := is_tup hs
      have hd' := hd
      unfold Dt at hd'
      obtain ⟨a, xs, rfl, qa, dx⟩ := hd'
      have lx := dtsLen dx
      refine iteF ⟨.ref a, rfl, a, xs, rfl, .inr qa, rfl, _, rfl, ?_⟩
      by_cases c3 : ds.length = 3
      · rw [show (!decide (V.int xs.length = V.int 3)) = false by rw [lx, c3]; rfl]
        refine iteF ?_
        match ds, c3 with
        | [d1, d2, d3], _ =>
          unfold Dts Dts Dts Dts at dx
          obtain ⟨x1, r1, rfl, h1, x2, r2, rfl, h2, x3, r3, rfl, h3, rfl⟩ := dx
          have w1 : wt d1 + (wt d2 + (wt d3 + 0)) + 1 ≤ 200000 := hw
          refine ⟨.ref a, rfl, a, _, rfl, qa, rfl, x1, _, rfl, x2, _, rfl, x3, [], rfl, rfl, ?_⟩
          refine ⟨x1, rfl, x1, d1, rfl, h1, by omega, fun H1 S1 => ⟨_, rfl, ?_⟩⟩
          have qf : ∀ H', Same H H' → Q (.bl (wholeD d1 && (wholeD d2 && (nnD d2 && ascD d3)))) H' := q
          cases e1 : wholeD d1 with
          | false =>
            have z := qf H1 S1
            rw [e1, Bool.false_and] at z
            exact iteF z
          | true =>
            refine iteT ⟨x2, rfl, x2, d2, rfl, Dt.same S1 _ _ h2, by omega, fun H2 S2 => ⟨_, rfl, ?_⟩⟩
            have S12 := S1.trans S2
            cases e2 : wholeD d2 with
            | false =>
              have z := qf H2 S12
              rw [e1, e2, Bool.true_and, Bool.false_and] at z
              exact iteF z
            | true =>
              obtain ⟨c, rfl⟩ : ∃ c, d2 = .int c := by
                cases d2 with
                | int c => exact ⟨c, rfl⟩
                | _ => cases e2
              unfold Dt at h2
              subst h2
              refine iteT ⟨_, rfl, c, 0, rfl, rfl, _, rfl, ?_⟩
              rw [ge_dec]
              cases e4 : decide (0 ≤ c) with
              | false =>
                have z := qf H2 S12
                rw [e1, e2, show nnD (.int c) = false from e4, Bool.true_and, Bool.true_and, Bool.false_and] at z
                exact iteF z
              | true =>
                refine iteT ⟨x3, rfl, x3, d3, rfl, Dt.same S12 _ _ h3, by omega, fun H3 S3 => ?_⟩
                have z := qf H3 (S12.trans S3)
                rw [e1, e2, show nnD (.int c) = true from e4, Bool.true_and, Bool.true_and, Bool.true_and] at z
                exact z
      · have z := q H (Same.refl H)
        rw [form_len c3] at z
        rw [show (!decide (V.int xs.length = V.int 3)) = true by
          rw [decide_eq_false fun z => c3 (by have := V.int.inj z; omega)]
          rfl]
        exact iteT z
end
end K01
set_option Elab.async false
set_option linter.all false
set_option maxRecDepth 100000
set_option maxHeartbeats 4000000
/-! lists against []; lists of numbers; set(tuple of numbers) -/
namespace L2
open PySem PySem.Spec PyProof.Rows
section
variable {X : Cx}
theorem op_neL0 (hu : X.A.units < cLine) : OpR X (compareOp .NotEq) (fun x y H Q => ∃ (a b : Addr) (xs : List V), x = .ref a ∧ y = .ref b ∧ SqL X.K H a xs ∧ SqL X.K H b [] ∧ Q (.bl (!decide (xs.length = 0))) H) := by
  intro pins s σ H x y v u Q I rx ry h
  obtain ⟨a, b, xs, rfl, rfl, ha, hb, q⟩ := h
  cases rx
  cases ry
  obtain ⟨its, r1, p1, _⟩ := I.list ha
  obtain ⟨its2, r2, p2, _⟩ := I.list hb
  cases r2
  have hl := r1.length
  by_cases c : xs.length = 0
  · have z := SeqAt.RcNeAt.lists (A := X.A) (s := s) (e := fun _ => true) p1.isList p2.isList (by rw [List.size_toArray, List.size_toArray, ← hl, c]; rfl) hu (fun j h1 h2 => absurd h2 (by simp))
    have e : (!(List.range its.toArray.size).all (fun _ => true)) = (!decide (xs.length = 0)) := by
      rw [decide_eq_true c]
      simp
    rw [e] at z
    exact PySem.EqBoolInt.of_rcne z ⟨.bl _, H, I, rfl, q⟩
  · have z := SeqAt.RcNeAt.lists_lengths (A := X.A) (s := s) p1.isList p2.isList (by rw [List.size_toArray, List.size_toArray, ← hl]; simp; intro z; rw [z] at c; exact c rfl) hu
    rw [decide_eq_false c] at q
    exact PySem.EqBoolInt.of_rcne z ⟨.bl _, H, I, rfl, q⟩
theorem op_eqL0 (hu : X.A.units < cLine) : OpR X (compareOp .Eq) (fun x y H Q => ∃ (a b : Addr) (xs : List V), x = .ref a ∧ y = .ref b ∧ SqL X.K H a xs ∧ SqL X.K H b [] ∧ Q (.bl (decide (xs.length = 0))) H) := by
  intro pins s σ H x y v u Q I rx ry h
  obtain ⟨a, b, xs, rfl, rfl, ha, hb, q⟩ := h
  cases rx
  cases ry
  obtain ⟨its, r1, p1, _⟩ := I.list ha
  obtain ⟨its2, r2, p2, _⟩ := I.list hb
  cases r2
  have hl := r1.length
  by_cases c : xs.length = 0
  · have z := SeqAt.RcAt.lists (A := X.A) (s := s) (e := fun _ => true) p1.isList p2.isList (by rw [List.size_toArray, List.size_toArray, ← hl, c]; rfl) hu (fun j h1 h2 => absurd h2 (by simp))
    have e : ((List.range its.toArray.size).all (fun _ => true)) = (decide (xs.length = 0)) := by
      rw [decide_eq_true c]
      simp
    rw [e] at z
    exact PySem.EqBoolInt.of_rc z ⟨.bl _, H, I, rfl, q⟩
  · have z := SeqAt.RcAt.lists_lengths (A := X.A) (s := s) p1.isList p2.isList (by rw [List.size_toArray, List.size_toArray, ← hl]; simp; intro z; rw [z] at c; exact c rfl) hu
    rw [decide_eq_false c] at q
    exact PySem.EqBoolInt.of_rc z ⟨.bl _, H, I, rfl, q⟩
theorem dpInts {K : PySem.W.Frag} {H : Hp} : ∀ ns : List Int, DpAll K H (ns.map V.int) (ns.map PyData.int)
  | [] => .nil
  | n :: r => .cons (.int n) (dpInts r)
theorem eqv_ints : ∀ ns ms : List Int, PyData.eqvAll (ns.map PyData.int) (ms.map PyData.int) = decide (ns = ms)
  | [], [] => rfl
  | [], m :: ms => rfl
  | n :: ns, [] => rfl
  | n :: ns, m :: ms => by
    show (n == m && PyData.eqvAll (ns.map PyData.int) (ms.map PyData.int)) = _
    rw [eqv_ints ns ms]
    by_cases c : n = m
    · subst c
      by_cases d : ns = ms
      · subst d
        simp
      · simp [d]
    · simp [c]
theorem shaped_ints (ns : List Int) : SeqAt.shaped (.list (ns.map PyData.int)) = true := by
  have a : ∀ ns : List Int, PyData.canLayAll0 (ns.map PyData.int) = true := by
    intro ns
    induction ns with
    | nil => rfl
    | cons n r ih => exact ih
  have d : (PyData.list (ns.map PyData.int)).depth ≤ 64 := by
    have z := depAll (k := 0) (ds := ns.map PyData.int) fun d hd => by
      obtain ⟨i, _, rfl⟩ := List.mem_map.mp hd
      exact Nat.le_refl _
    show PyData.depthAll (ns.map PyData.int) + 1 ≤ 64
    omega
  unfold SeqAt.shaped
  rw [decide_eq_true d, Bool.and_true]
  exact a ns
theorem op_eqLI (hu : X.A.units + 64 < cLine) : OpR X (compareOp .Eq) (fun x y H Q => ∃ (a b : Addr) (ns ms : List Int), x = .ref a ∧ y = .ref b ∧ SqL X.K H a (ns.map V.int) ∧ SqL X.K H b (ms.map V.int) ∧ Q (.bl (decide (ns = ms))) H) := by
  intro pins s σ H x y v u Q I rx ry h
  obtain ⟨a, b, ns, ms, rfl, rfl, ha, hb, q⟩ := h
  refine op_eqD hu pins s σ H _ _ v u Q I rx ry ⟨.list (ns.map PyData.int), .list (ms.map PyData.int), .lst ha (dpInts ns), .lst hb (dpInts ms), shaped_ints ns, shaped_ints ms, ?_⟩
  rw [show PyData.eqv (.list (ns.map PyData.int)) (.list (ms.map PyData.int)) = PyData.eqvAll (ns.map PyData.int) (ms.map PyData.int) from rfl, eqv_ints]
  exact q
/-- set(t), t a tuple of numbers -/
def rSetTI (K : PySem.W.Frag) (w : World) : List V → Hp → VK → Prop := fun xs H Q => ∃ (l : Addr) (ns : List Int), xs = [.ref l] ∧ SqT K H l (ns.map V.int) ∧ ns.length ≤ 1000 ∧
  ∀ (p : Addr) (c : Nat), H p = none → c ≤ ns.length → Q (.ref p) (upd H p (SetO w p (fun j => decide (j ∈ ns)) c))
theorem cr_setTI (hc : X.calm = true) : CallR X (.type "set") (rSetTI X.K X.w) := by
  intro pins s σ H xs us Q I r h
  obtain ⟨l, ns, rfl, hq, hl, q⟩ := h
  obtain ⟨u, rfl, rx⟩ := vals1 r
  cases rx
  obtain ⟨its, rv, p, hz⟩ := I.tuple hq
  refine call_set_tupI ns (I.ok.hd hc) p (by simpa using intsAre_of rv) (by unfold scanBound; omega) fun h' tk c R hcn hk => ?_
  exact ⟨.ref _, upd H s.heap.objs.size (SetO X.w s.heap.objs.size (fun j => decide (j ∈ ns)) c), I.laid (t' := tk) hk (Nat.le_refl _) (setO_new R), rfl, q _ c (I.hok.fresh (Nat.le_refl _)) hcn⟩
end
end L2
set_option Elab.async false
set_option linter.all false
set_option maxRecDepth 100000
set_option maxHeartbeats 1000000
namespace K01
open PySem PySem.Spec PyProof.Rows L2
/-! ### preorder, uses, programs -/
def IsProg (d : PyData) : Prop := ∃ rs : List PRow, d = pd rs ∧ PM.Good rs
def Vis (rs : List PRow) : Prop := ∀ (i : Nat) (r : PRow), rs[i]? = some r → ∀ u ∈ r.2.2, PM.Sees (pars rs) (cnts rs) i u
theorem ints_inj : ∀ {l m : List Int}, l.map PyData.int = m.map PyData.int → l = m
  | [], [], _ => rfl
  | [], _ :: _, h => nomatch h
  | _ :: _, [], h => nomatch h
  | a :: l, b :: m, h => by
    rw [List.map_cons, List.map_cons] at h
    injection h with h1 h2
    injection h1 with h1
    rw [h1, ints_inj h2]
theorem row_inj {r s : PRow} (h : rowD r = rowD s) : r = s := by
  obtain ⟨a, b, c⟩ := r
  obtain ⟨a', b', c'⟩ := s
  unfold rowD at h
  injection h with h
  injection h with h1 h
  injection h with h2 h
  injection h with h3 h
  injection h1 with h1
  injection h2 with h2
  injection h3 with h3
  have h1 : a = a' := h1
  have h2 : b = b' := h2
  have h3 : c = c' := ints_inj h3
  rw [h1, h2, h3]
theorem rows_inj : ∀ {l m : List PRow}, l.map rowD = m.map rowD → l = m
  | [], [], _ => rfl
  | [], _ :: _, h => nomatch h
  | _ :: _, [], h => nomatch h
  | a :: l, b :: m, h => by
    rw [List.map_cons, List.map_cons] at h
    injection h with h1 h2
    rw [row_inj h1, rows_inj h2]
theorem pd_inj {rs ss : List PRow} (h : pd rs = pd ss) : rs = ss := by
  unfold pd at h
  injection h with h
  exact rows_inj h
theorem all_ints (l : List Int) : (l.map PyData.int).all wholeD = true := by
  rw [List.all_map, List.all_eq_true]
  exact fun x _ => rfl
theorem nums_back (l : List Int) : (l.map PyData.int).map numI = l := by
  rw [List.map_map]
  exact List.map_id l
theorem form_row {r : PRow} : formD (rowD r) = true ↔ 0 ≤ r.2.1 ∧ r.2.2.Pairwise (· < ·) := by
  have e : formD (rowD r) = (decide (0 ≤ r.2.1) && ((r.2.2.map PyData.int).all wholeD && PM.bo (((r.2.2.map PyData.int).map numI).Pairwise (· < ·)))) := rfl
  rw [e, all_ints, nums_back, Bool.true_and]
  constructor
  · intro h
    obtain ⟨h1, h2⟩ := He.ba h
    refine ⟨of_decide_eq_true h1, Classical.byContradiction fun z => ?_⟩
    rw [PM.bo_false z] at h2
    cases h2
  · rintro ⟨h1, h2⟩
    rw [decide_eq_true h1, PM.bo_true h2]
    rfl
theorem form_is {d : PyData} (h : formD d = true) : ∃ r : PRow, d = rowD r := by
  cases d with
  | tuple ds =>
    match ds, h with
    | [a, b, c], h =>
      have h : (wholeD a && (wholeD b && (nnD b && ascD c))) = true := h
      obtain ⟨h1, h⟩ := He.ba h
      obtain ⟨h2, h⟩ := He.ba h
      obtain ⟨h3, h4⟩ := He.ba h
      cases a with
      | int p =>
        cases b with
        | int n =>
          cases c with
          | tuple us =>
            have h4 : (us.all wholeD && PM.bo ((us.map numI).Pairwise (· < ·))) = true := h4
            refine ⟨(p, n, us.map numI), ?_⟩
            unfold rowD
            rw [← ints_back (He.ba h4).1]
          | _ => cases h4
        | _ => cases h2
      | _ => cases h1
  | _ => cases h
theorem rows_of : ∀ {ds : List PyData}, (∀ d ∈ ds, ∃ r : PRow, d = rowD r) → ∃ rs : List PRow, ds = rs.map rowD
  | [], _ => ⟨[], rfl⟩
  | d :: ds, h => by
    obtain ⟨r, e⟩ := h d List.mem_cons_self
    obtain ⟨rs, e2⟩ := rows_of (ds := ds) fun x hx => h x (List.mem_cons_of_mem _ hx)
    exact ⟨r :: rs, by rw [e, e2]; rfl⟩
theorem par_at {rs : List PRow} {k : Nat} (hk : k < rs.length) : (pars rs).getD k (-1) = rs[k].1 := by
  rw [List.getD_eq_getElem?_getD, List.getElem?_map, List.getElem?_eq_getElem hk]
  rfl
theorem ne_dec {a b : Int} (h : a ≠ b) : (!decide (V.int a = V.int b)) = true := by
  rw [decide_eq_false fun z => h (V.int.inj z)]
  rfl
section
variable {P : Program} {w : World} {K : PySem.W.Frag} {mg : Str → Option Value} {base : Heap}
def spEncP (K : PySem.W.Frag) : Sp := fun vs H Q _ => ∃ (v : V) (rs : List PRow) (i : Nat), vs = [v, .int (i : Int)] ∧ Dt K H (pd rs) v ∧ i < rs.length ∧ rs.length ≤ 100 ∧ PM.Pre ((pars rs).take (i + 1)) ∧
  ∀ H' p, Same H H' → H' p = some (.tup ((PM.W (pars rs) (i : Int)).map V.int)) → Q (.ref p) H'
theorem ok_encP {fW fN f fK : Addr} {fdW fdN fd fdK : FuncData} (T : TxtN K mg fW fN fdW fdN) (F : FnP K "enclosing_scopes" s_enclosing_scopes f fd) (FK : FnP K "check_scope" s_check_scope fK fdK) (gK : mg "check_scope" = some (.ref fK)) :
    FnOk P w K mg base CX0 4 f fd ["program", "scope"] (spEncP K) := by
  obtain ⟨tkP, gP⟩ := T.gP
  have GK : FnOk P w K mg base CX0 3 fK fdK ["program", "scope"] (spCkS K) := ok_ckS T FK
  have bK : Binds K fdK ["program", "scope"] [] := FK.bindsN fun _ _ _ _ _ _ us hl => match us, hl with | [_, _], _ => rfl
  refine F.ok scEnc (fun vs H Q E h => ?_) (fun cdv A outer s H vs Q E hr h => ?_)
  · obtain ⟨v, rs, i, rfl, _⟩ := h
    rfl
  · obtain ⟨v, rs, i, rfl, hd, h1, hl, pre, q⟩ := h
    have nd := scEnc.nd
    refine ⟨_, PSs.nox (pss_cons (ps_expr (pe_call GK hr (by rfl) gK FK.kp bK .nil pass0 (pa_cons (pv 0) (pa_cons (pv 1) pa_nil))))
      (pss_cons (ps_set (i := 2) nd rfl (.inl rfl) (pe_lst (pa_cons (pv 1) pa_nil)))
      (pss_cons (ps_while PassesOwn.never (pt_cmpR op_ne (pe_ix ix_list (pv 2) (pe_un un_neg pe_int) (fun _ _ => rfl)) pe_int (nomark _)) (pss_one (ps_expr (pe_bm PySem.F.plainAttrs_list PySem.F.slot_list_append PySem.F.type_list_append mt_append (pv 2) (pa_cons (pe_ix ix_tup (pe_ix ix_tup (pv 0) (pe_ix ix_list (pv 2) (pe_un un_neg pe_int) (fun _ _ => rfl)) (fun _ _ => rfl)) (pe_glob (v := .int 0) (by rfl) gP ⟨_, rfl⟩) (fun _ _ => rfl)) pa_nil)))))
      (pss_one (ps_ret (pe_callTy call_tuple_of (by rfl) T.mt (by decide +kernel) (pa_cons (pv 2) pa_nil))))))), ?_⟩
    obtain ⟨g, xs, rfl, hq, hds, hxl⟩ := prog_at hd
    have hpl : (pars rs).length = rs.length := by rw [List.length_map]
    have wl := PM.W_lenT pre (by omega) i (by omega)
    refine ⟨.ref g, rfl, .int (i : Int), rfl, .ref g, rs, (i : Int), rfl, hd, by omega, by omega, ?_⟩
    refine ⟨.int (i : Int), rfl, by show 1 ≤ sizeLine; decide, fun ar na => ?_⟩
    refine ⟨fun m σ H' => σ = [some (.ref g), some (.int (i : Int)), some (.ref ar)] ∧ Same H H' ∧ ∃ (acc : List Int) (x : Nat), x = m ∧ H' ar = some (.lst ((acc ++ [(x : Int)]).map V.int)) ∧ PM.W (pars rs) i = acc ++ PM.W (pars rs) x ∧ x ≤ i,
      ⟨i, rfl, same_new na, [], i, rfl, upd_same, rfl, Nat.le_refl _⟩, ?_⟩
    rintro m σ H1 ⟨rfl, S1, acc, x, rfl, e1, ew, x1⟩
    have last : atI ((acc ++ [(x : Int)]).map V.int) (-1) = some (.int (x : Int)) := by
      rw [List.map_append]
      exact atI_last _ _
    have aw : acc.length < 1000 := by
      have := congrArg List.length ew
      rw [List.length_append] at this
      omega
    refine ⟨.ref ar, rfl, 1, rfl, ar, _, -1, .int (x : Int), rfl, rfl, .of e1, last, rfl, _, rfl, ?_⟩
    by_cases c : x = 0
    · subst c
      refine iteNS rfl ?_
      rw [show ((0 : Nat) : Int) = 0 from rfl, PM.W_first (pre.head (by omega))] at ew
      refine ⟨.ref ar, rfl, ar, _, rfl, .inl ⟨.of e1, fun l nl => ?_⟩⟩
      refine q _ l (S1.trans (same_new nl)) ?_
      rw [upd_same, ew]
      rfl
    · rw [ne_dec (a := (x : Int)) (b := 0) (by omega)]
      refine iteT ⟨fun σ' H' => σ' = [some (.ref g), some (.int (i : Int)), some (.ref ar)] ∧ Same H H' ∧ ∃ (acc' : List Int) (y : Nat), y < x ∧ H' ar = some (.lst ((acc' ++ [(y : Int)]).map V.int)) ∧ PM.W (pars rs) i = acc' ++ PM.W (pars rs) y ∧ y ≤ i, ?_, ?_⟩
      · rintro σ' H' ⟨rfl, S', acc', y, hy, e', w', y1⟩
        exact ⟨y, hy, rfl, S', acc', y, rfl, e', w', y1⟩
      · have hk : x < rs.length := by omega
        obtain ⟨st, pr, _⟩ := PM.W_last pre (by omega) (show x < i + 1 by omega)
        have pr := pr (by omega)
        obtain ⟨b, u, hb, qb, _⟩ := row_at (Dts.same S1 _ _ hds) (List.getElem?_eq_getElem hk)
        rw [par_at hk] at pr st
        obtain ⟨y, hy⟩ : ∃ y : Nat, rs[x].1 = (y : Int) := ⟨rs[x].1.toNat, by omega⟩
        rw [hy] at pr st qb
        refine ⟨.ref ar, rfl, .inl ⟨rfl, _, .of e1⟩, .ref g, rfl, .ref ar, rfl, 1, rfl, ar, _, -1, .int (x : Int), rfl, rfl, .of e1, last, g, xs, (x : Int), .ref b, rfl, rfl, S1.sqT hq, atI_nat hb,
          b, _, 0, .int (y : Int), rfl, rfl, qb, rfl, ar, _, _, rfl, rfl, e1, ?_, ?_⟩
        · rw [List.length_map, List.length_append, List.length_singleton]
          exact small1000 (by omega)
        · refine ⟨rfl, fun b o z => ?_, acc ++ [(x : Int)], y, by omega, ?_, ?_, by omega⟩
          · rw [upd_ne (ne_of_none z na)]
            exact S1 _ _ z
          · rw [upd_same, List.map_append (l₂ := [(y : Int)])]
            rfl
          · rw [ew, st, List.append_assoc]
            rfl
theorem scPreo : FnScope ["program", "scope"] ["program"] (defScope s_is_in_preorder) := ⟨rfl, rfl, rfl, by decide +kernel, rfl, by decide +kernel, by decide +kernel⟩
def spPreo (K : PySem.W.Frag) : Sp := fun vs H Q _ => ∃ (v : V) (rs : List PRow), vs = [v] ∧ Dt K H (pd rs) v ∧ 0 < rs.length ∧ rs.length ≤ 100 ∧ ∀ H', Same H H' → Q (.bl (PM.bo (PM.Pre (pars rs)))) H'
theorem notin_dec (x : Int) (l : List Int) : (if true = true then !inV (V.int x) (l.map V.int) else inV (V.int x) (l.map V.int)) = !decide (x ∈ l) := by
  rw [if_pos rfl, inV_int]
theorem ok_preo {fW fN f fK fE : Addr} {fdW fdN fd fdK fdE : FuncData} (T : TxtN K mg fW fN fdW fdN) (F : FnP K "is_in_preorder" s_is_in_preorder f fd) (FK : FnP K "check_scope" s_check_scope fK fdK) (gK : mg "check_scope" = some (.ref fK))
    (FE : FnP K "enclosing_scopes" s_enclosing_scopes fE fdE) (gE : mg "enclosing_scopes" = some (.ref fE)) : FnOk P w K mg base CX0 5 f fd ["program"] (spPreo K) := by
  obtain ⟨tkP, gP⟩ := T.gP
  have GE : FnOk P w K mg base CX0 4 fE fdE ["program", "scope"] (spEncP K) := ok_encP T FE FK gK
  have bE : Binds K fdE ["program", "scope"] [] := FE.bindsN fun _ _ _ _ _ _ us hl => match us, hl with | [_, _], _ => rfl
  refine F.ok scPreo (fun vs H Q E h => ?_) (fun cdv A outer s H vs Q E hr h => ?_)
  · obtain ⟨v, rs, rfl, _⟩ := h
    rfl
  · obtain ⟨v, rs, rfl, hd, h0, hl, q⟩ := h
    have nd := scPreo.nd
    refine ⟨_, PSs.nox (pss_cons (ps_if (pt_cmpR op_ne (pe_ix ix_tup (pe_ix ix_tup (pv 0) pe_int (fun _ _ => rfl)) (pe_glob (v := .int 0) (by rfl) gP ⟨_, rfl⟩) (fun _ _ => rfl)) (pe_un un_neg pe_int) (nomark _)) (pss_one (ps_ret pe_bl)) pss_nil)
      (pss_cons (ps_for PassesOwn.never rfl (pi_range2 (by rfl) T.mr (pa_cons pe_int (pa_cons (pe_callB call_len_seq (by rfl) T.ml PySem.boot_len (pa_cons (pv 0) pa_nil)) pa_nil))) (pg_name (i := 1) nd rfl (.inl rfl)) (pss_one (ps_if (pt_cmpR op_notIn_seq (pe_ix ix_tup (pe_ix ix_tup (pv 0) (pv 1) (fun _ _ => rfl)) (pe_glob (v := .int 0) (by rfl) gP ⟨_, rfl⟩) (fun _ _ => rfl)) (pe_call GE hr (by rfl) gE FE.kp bE .nil pass0 (pa_cons (pv 0) (pa_cons (pe_op op_sub (pv 1) pe_int) pa_nil))) (by rfl)) (pss_one (ps_ret pe_bl)) pss_nil)))
      (pss_one (ps_ret pe_bl)))), ?_⟩
    obtain ⟨g, xs, rfl, hq, hds, hxl⟩ := prog_at hd
    have hpl : (pars rs).length = rs.length := by rw [List.length_map]
    obtain ⟨b0, u0, hb0, qb0, _⟩ := row_at hds (List.getElem?_eq_getElem h0)
    refine ⟨.ref g, rfl, g, xs, 0, .ref b0, rfl, rfl, hq, atI_nat (j := 0) hb0, b0, _, 0, .int rs[0].1, rfl, rfl, qb0, rfl, 1, rfl, rfl, _, rfl, ?_⟩
    have p0 : (pars rs)[0]? = some rs[0].1 := by rw [List.getElem?_map, List.getElem?_eq_getElem h0]; rfl
    by_cases c : rs[0].1 = -1
    · rw [c]
      refine iteNS rfl ?_
      rw [c] at p0
      refine ⟨.ref g, rfl, g, xs, rfl, .inr hq, 1, _, rfl, ⟨by omega, by omega, by omega, by omega⟩, ?_⟩
      refine for_range (lo := 1) (n := ((xs.length : Int) - 1).toNat) (fun j σ H' => ∃ y1, σ = [some (.ref g), y1] ∧ Same H H' ∧ PM.Pre ((pars rs).take (j + 1))) ⟨_, rfl, Same.refl H, PM.pre_one p0⟩ ?_ ?_
      · rintro j σ H1 hj ⟨y1, rfl, S1, pre⟩
        have hk : j + 1 < rs.length := by omega
        obtain ⟨b, u, hb, qb, _⟩ := row_at (Dts.same S1 _ _ hds) (List.getElem?_eq_getElem hk)
        have pk : (pars rs)[j + 1]? = some rs[j + 1].1 := by rw [List.getElem?_map, List.getElem?_eq_getElem hk]; rfl
        refine ⟨.ref g, rfl, .int (1 + (j : Int)), rfl, g, xs, ((j + 1 : Nat) : Int), .ref b, rfl, by rw [Int.add_comm]; rfl, S1.sqT hq, atI_nat hb, b, _, 0, .int rs[j + 1].1, rfl, rfl, qb, rfl,
          .ref g, rfl, .int (1 + (j : Int)), rfl, 1 + (j : Int), 1, rfl, rfl, .ref g, rs, j, by show [V.ref g, V.int (1 + (j : Int) - 1)] = _; rw [show 1 + (j : Int) - 1 = (j : Int) by omega], Dt.same S1 _ _ hd, by omega, hl, pre, fun H2 pp S2 e2 => ?_⟩
        refine ⟨pp, _, rfl, .inr (.of e2), rfl, flat_ints _, _, rfl, ?_⟩
        rw [notin_dec]
        have ei : (((j + 1 : Nat) : Int) - 1) = (j : Int) := by omega
        by_cases m : rs[j + 1].1 ∈ PM.W (pars rs) (j : Int)
        · rw [decide_eq_true m]
          refine iteF ⟨_, rfl, S1.trans S2, PM.pre_next pre pk ?_⟩
          rw [ei]
          exact m
        · rw [decide_eq_false m]
          have z := q H2 (S1.trans S2)
          rw [PM.bo_false fun z => m (by have y := z.step pk; rw [ei] at y; exact y)] at z
          exact iteT z
      · rintro σ H1 ⟨y1, rfl, S1, pre⟩
        rw [show ((xs.length : Int) - 1).toNat + 1 = (pars rs).length by omega, List.take_length] at pre
        have z := q H1 S1
        rw [PM.bo_true pre] at z
        exact z
    · rw [ne_dec c]
      have z := q H (Same.refl H)
      rw [PM.bo_false fun z => c (by have y := z.zero; rw [p0] at y; exact Option.some.inj y)] at z
      exact iteT z
abbrev visN : List Str := ["program", "homes", "scope", "around", "declaration"]
theorem scVis : FnScope visN ["program"] (defScope s_has_visible_uses) := ⟨rfl, rfl, rfl, by decide +kernel, rfl, by decide +kernel, by decide +kernel⟩
def spVis (K : PySem.W.Frag) : Sp := fun vs H Q _ => ∃ (v : V) (rs : List PRow), vs = [v] ∧ Dt K H (pd rs) v ∧ PWf rs ∧ ∀ H', Same H H' → Q (.bl (PM.bo (Vis rs))) H'
theorem uses_at {H : Hp} {l : List Int} {v : V} (h : Dt K H (.tuple (l.map PyData.int)) v) : ∃ a, v = .ref a ∧ SqT K H a (l.map V.int) := by
  unfold Dt at h
  obtain ⟨a, xs, e, q, d⟩ := h
  rw [dts_intsV d] at q
  exact ⟨a, e, q⟩
theorem ok_vis {fW fN f fK fE fH : Addr} {fdW fdN fd fdK fdE fdH : FuncData} (T : TxtN K mg fW fN fdW fdN) (tU : ∃ t, mg "USES" = some (.int 2 t)) (F : FnP K "has_visible_uses" s_has_visible_uses f fd) (FK : FnP K "check_scope" s_check_scope fK fdK) (gK : mg "check_scope" = some (.ref fK))
    (FE : FnP K "enclosing_scopes" s_enclosing_scopes fE fdE) (gE : mg "enclosing_scopes" = some (.ref fE)) (FH : FnP K "homes_of" s_homes_of fH fdH) (gH : mg "homes_of" = some (.ref fH)) : FnOk P w K mg base CX0 5 f fd ["program"] (spVis K) := by
  obtain ⟨tkU, gU⟩ := tU
  have GE : FnOk P w K mg base CX0 4 fE fdE ["program", "scope"] (spEnc K) := ok_enc T FE FK gK
  have GH : FnOk P w K mg base CX0 1 fH fdH ["program"] (spHomes K) := ok_homes T FH
  have GN : FnOk P w K mg base CX0 2 fN fdN ["value", "limit"] spNbI := ok_nbI T
  have bE : Binds K fdE ["program", "scope"] [] := FE.bindsN fun _ _ _ _ _ _ us hl => match us, hl with | [_, _], _ => rfl
  have bH : Binds K fdH ["program"] [] := FH.bindsN fun _ _ _ _ _ _ us hl => match us, hl with | [_], _ => rfl
  have bN : Binds K fdN ["value", "limit"] [] := T.FN.bindsN fun _ _ _ _ _ _ us hl => match us, hl with | [_, _], _ => rfl
  refine F.ok scVis (fun vs H Q E h => ?_) (fun cdv A outer s H vs Q E hr h => ?_)
  · obtain ⟨v, rs, rfl, _⟩ := h
    rfl
  · obtain ⟨v, rs, rfl, hd, wf, q⟩ := h
    have nd := scVis.nd
    have hr1 : Room 1 _ := hr.mono (by decide)
    have hr2 : Room 2 _ := hr.mono (by decide)
    refine ⟨_, PSs.nox (pss_cons (ps_set (i := 1) nd rfl (.inl rfl) (pe_call GH hr1 (by rfl) gH FH.kp bH .nil pass0 (pa_cons (pv 0) pa_nil)))
      (pss_cons (ps_for PassesOwn.never rfl (pi_range1 (by rfl) T.mr (pa_cons (pe_callB call_len_seq (by rfl) T.ml PySem.boot_len (pa_cons (pv 0) pa_nil)) pa_nil)) (pg_name (i := 2) nd rfl (.inl rfl)) (pss_cons (ps_set (i := 3) nd rfl (.inl rfl) (pe_call GE hr (by rfl) gE FE.kp bE .nil pass0 (pa_cons (pv 0) (pa_cons (pv 2) pa_nil))))
      (pss_one (ps_for PassesOwn.never rfl (pi_tup (pe_ix ix_tup (pe_ix ix_tup (pv 0) (pv 2) (fun _ _ => rfl)) (pe_glob (v := .int 2) (by rfl) gU ⟨_, rfl⟩) (fun _ _ => rfl))) (pg_name (i := 4) nd rfl (.inl rfl)) (pss_one (ps_if (PW.pt (pw_or (pt_not (pt_val (pe_call GN hr2 (by rfl) T.gN T.FN.kp bN .nil pass0 (pa_cons (pv 4) (pa_cons (pe_callB call_len_seq (by rfl) T.ml PySem.boot_len (pa_cons (pv 1) pa_nil)) pa_nil))))) (pw_or1 (pt_cmpR op_notIn_seq (pe_ix ix_tup (pv 1) (pv 4) (fun _ _ => rfl)) (pv 3) (by rfl))))) (pss_one (ps_ret pe_bl)) pss_nil))))))
      (pss_one (ps_ret pe_bl)))), ?_⟩
    have hl := wf.len
    have hL := homes_len (cnts rs) 0 wf.nn
    have ht := wf.tot
    refine ⟨v, rfl, v, rs, rfl, hd, wf, fun H0 hp S0 e0 => ?_⟩
    obtain ⟨g, xs, rfl, hq, hds, hxl⟩ := prog_at (Dt.same S0 _ _ hd)
    have hd0 := Dt.same S0 _ _ hd
    refine ⟨.ref g, rfl, g, xs, rfl, .inr hq, _, rfl, by omega, by omega, ?_⟩
    refine for_range (lo := 0) (n := ((xs.length : Int)).toNat) (fun j σ H' => ∃ y2 y3 y4, σ = [some (.ref g), some (.ref hp), y2, y3, y4] ∧ Same H0 H' ∧ ∀ (i : Nat) (r : PRow), i < j → rs[i]? = some r → ∀ u ∈ r.2.2, PM.Sees (pars rs) (cnts rs) i u)
      ⟨_, _, _, rfl, Same.refl H0, fun i r hi => absurd hi (Nat.not_lt_zero _)⟩ ?_ ?_
    · rintro j σ H1 hj ⟨y2, y3, y4, rfl, S1, seen⟩
      have hk : j < rs.length := by omega
      refine ⟨.ref g, rfl, .int (0 + (j : Int)), rfl, .ref g, rs, 0 + (j : Int), rfl, Dt.same S1 _ _ hd0, wf, by omega, by omega, fun H2 ar S2 e2 => ?_⟩
      rw [Int.zero_add] at e2
      obtain ⟨b, u, hb, qb, du⟩ := row_at (Dts.same (S1.trans S2) _ _ hds) (List.getElem?_eq_getElem hk)
      obtain ⟨ua, rfl, qu⟩ := uses_at du
      refine ⟨.ref g, rfl, .int (0 + (j : Int)), rfl, g, xs, (j : Int), .ref b, rfl, by rw [Int.zero_add], (S1.trans S2).sqT hq, atI_nat hb, b, _, 2, .ref ua, rfl, rfl, qb, rfl, ua, rfl, ⟨_, qu⟩, ?_⟩
      refine for_tup (K := K) (a := ua) (xs := rs[j].2.2.map V.int) (fun m σ H' => ∃ z4, σ = [some (.ref g), some (.ref hp), some (.int (0 + (j : Int))), some (.ref ar), z4] ∧ Same H2 H' ∧ ∀ u ∈ rs[j].2.2.take m, PM.Sees (pars rs) (cnts rs) j u)
        ⟨_, rfl, Same.refl H2, fun u hu => by rw [List.take_zero] at hu; cases hu⟩ (fun m σ H' _ ⟨_, _, S', _⟩ => S'.sqT qu) ?_ ?_
      · rintro m x σ H3 hx ⟨z4, rfl, S3, sn⟩
        rw [List.getElem?_map] at hx
        obtain ⟨u, hu, rfl⟩ := Option.map_eq_some_iff.mp hx
        have S03 : Same H0 H3 := S1.trans (S2.trans S3)
        have um : u ∈ rs[j].2.2 := List.mem_of_getElem? hu
        have no : ∀ H4, Same H3 H4 → ¬ PM.Sees (pars rs) (cnts rs) j u → Q (.bl false) H4 := fun H4 S4 ns => by
          have z := q H4 (S0.trans (S03.trans S4))
          rw [PM.bo_false fun z => ns (z j _ (List.getElem?_eq_getElem hk) u um)] at z
          exact z
        refine ⟨.int u, rfl, .ref hp, rfl, hp, _, rfl, .inr (.of (S03 _ _ e0)), u, _, rfl, fun H4 S4 => ⟨_, rfl, ?_⟩⟩
        rw [List.length_map]
        by_cases c : 0 ≤ u ∧ u < ((PM.homesFrom 0 (cnts rs)).length : Int)
        · rw [decide_eq_true c.1, decide_eq_true c.2]
          have hu1 : u.toNat < (PM.homesFrom 0 (cnts rs)).length := by omega
          have hh := List.getElem?_eq_getElem hu1
          have si := PM.sees_iff (ps := pars rs) (i := (j : Int)) wf.nn c.1 hh (by omega)
          refine iteF ⟨.ref hp, rfl, .int u, rfl, hp, _, ((u.toNat : Nat) : Int), .int (PM.homesFrom 0 (cnts rs))[u.toNat], rfl, by rw [show ((u.toNat : Nat) : Int) = u by omega], .of (S4 _ _ (S03 _ _ e0)), atI_nat (by rw [List.getElem?_map, hh]; rfl), .ref ar, rfl, ar, _, rfl, .inr (.of (S4 _ _ (S3 _ _ e2))), rfl, flat_ints _, _, rfl, ?_⟩
          rw [notin_dec]
          by_cases mm : (PM.homesFrom 0 (cnts rs))[u.toNat] ∈ PM.W (pars rs) (j : Int)
          · rw [decide_eq_true mm]
            refine iteF ⟨_, rfl, S3.trans S4, fun y hy => ?_⟩
            rw [List.take_add_one, hu] at hy
            rcases List.mem_append.mp hy with z | z
            · exact sn y z
            · rw [show y = u from List.mem_singleton.mp z]
              exact si.mpr mm
          · rw [decide_eq_false mm]
            exact iteT (no H4 S4 fun z => mm (si.mp z))
        · have cf : (decide (0 ≤ u) && decide (u < ((PM.homesFrom 0 (cnts rs)).length : Int))) = false := by
            by_cases c0 : 0 ≤ u
            · rw [decide_eq_false (p := u < _) fun z => c ⟨c0, z⟩, Bool.and_false]
            · rw [decide_eq_false c0, Bool.false_and]
          rw [cf]
          refine iteT (iteT (no H4 S4 fun z => c ?_))
          have y := PM.sees_bd wf.nn z
          omega
      · rintro σ H3 ⟨z4, rfl, S3, sn⟩
        rw [List.length_map, List.take_length] at sn
        refine ⟨_, _, _, rfl, S1.trans (S2.trans S3), fun i r hi hr' => ?_⟩
        by_cases c : i = j
        · subst c
          rw [List.getElem?_eq_getElem hk] at hr'
          rw [← Option.some.inj hr']
          exact sn
        · exact seen i r (by omega) hr'
    · rintro σ H1 ⟨y2, y3, y4, rfl, S1, seen⟩
      have z := q H1 (S0.trans S1)
      rw [PM.bo_true (p := Vis rs) fun i r hr' => seen i r (by have := (List.getElem?_eq_some_iff.mp hr').1; omega) hr'] at z
      exact z
theorem scIsP : FnScope ["value", "row"] ["value"] (defScope s_is_program) := ⟨rfl, rfl, rfl, by decide +kernel, rfl, by decide +kernel, by decide +kernel⟩
structure TxtP (K : PySem.W.Frag) (mg : Str → Option Value) (fF fA fC fO fV fK fE fH : Addr) (fdF fdA fdC fdO fdV fdK fdE fdH : FuncData) : Prop where
  FF : FnP K "has_scope_form" s_has_scope_form fF fdF
  FA : FnP K "is_ascending" s_is_ascending fA fdA
  FC : FnP K "declaration_count" s_declaration_count fC fdC
  FO : FnP K "is_in_preorder" s_is_in_preorder fO fdO
  FV : FnP K "has_visible_uses" s_has_visible_uses fV fdV
  FK : FnP K "check_scope" s_check_scope fK fdK
  FE : FnP K "enclosing_scopes" s_enclosing_scopes fE fdE
  FH : FnP K "homes_of" s_homes_of fH fdH
  gF : mg "has_scope_form" = some (.ref fF)
  gA : mg "is_ascending" = some (.ref fA)
  gC : mg "declaration_count" = some (.ref fC)
  gO : mg "is_in_preorder" = some (.ref fO)
  gV : mg "has_visible_uses" = some (.ref fV)
  gK : mg "check_scope" = some (.ref fK)
  gE : mg "enclosing_scopes" = some (.ref fE)
  gH : mg "homes_of" = some (.ref fH)
  tU : ∃ t, mg "USES" = some (.int 2 t)
  tS : ∃ t, mg "MOST_SCOPES" = some (.int 40 t)
  tD : ∃ t, mg "MOST_DECLARATIONS" = some (.int 60 t)
  mal : mg "all" = none
noncomputable def progD (d : PyData) : Bool := PM.bo (IsProg d)
theorem ok_isP {f fW fN fF fA fC fO fV fK fE fH : Addr} {fd fdW fdN fdF fdA fdC fdO fdV fdK fdE fdH : FuncData} (T : TxtN K mg fW fN fdW fdN) (U : TxtP K mg fF fA fC fO fV fK fE fH fdF fdA fdC fdO fdV fdK fdE fdH) (F : FnP K "is_program" s_is_program f fd) :
    FnOk P w K mg base CX0 6 f fd ["value"] (spDat K progD) := by
  obtain ⟨tkS, gS⟩ := U.tS
  obtain ⟨tkD, gD⟩ := U.tD
  have GF : FnOk P w K mg base CX0 3 fF fdF ["value"] (spDat K formD) := ok_form T U.FF U.FA U.gA U.mal
  have GC : FnOk P w K mg base CX0 1 fC fdC ["program"] (spCount K) := ok_count T U.FC
  have GO : FnOk P w K mg base CX0 5 fO fdO ["program"] (spPreo K) := ok_preo T U.FO U.FK U.gK U.FE U.gE
  have GV : FnOk P w K mg base CX0 5 fV fdV ["program"] (spVis K) := ok_vis T U.tU U.FV U.FK U.gK U.FE U.gE U.FH U.gH
  have bF : Binds K fdF ["value"] [] := U.FF.bindsN fun _ _ _ _ _ _ us hl => match us, hl with | [_], _ => rfl
  have bC : Binds K fdC ["program"] [] := U.FC.bindsN fun _ _ _ _ _ _ us hl => match us, hl with | [_], _ => rfl
  have bO : Binds K fdO ["program"] [] := U.FO.bindsN fun _ _ _ _ _ _ us hl => match us, hl with | [_], _ => rfl
  have bV : Binds K fdV ["program"] [] := U.FV.bindsN fun _ _ _ _ _ _ us hl => match us, hl with | [_], _ => rfl
  refine F.ok scIsP (fun vs H Q E h => ?_) (fun cdv A outer s H vs Q E hr h => ?_)
  · obtain ⟨v, d, rfl, _⟩ := h
    rfl
  · obtain ⟨v, d, rfl, hd, hw, q⟩ := h
    have nd := scIsP.nd
    have hr1 : Room 1 _ := hr.mono (by decide)
    have hr3 : Room 3 _ := hr.mono (by decide)
    have no : ∀ H', Same H H' → ¬ IsProg d → Q (.bl false) H' := fun H' S ns => by
      have z := q H' S
      unfold progD at z
      rw [PM.bo_false ns] at z
      exact z
    refine ⟨_, PSs.nox (pss_cons (ps_if (PW.pt (pw_or (pt_not (pt_val (pe_callB (call_isD (T := "tuple") (by decide)) (by rfl) T.ms (by decide +kernel) (pa_cons (pv 0) (pa_cons (pe_bltn (v := .ty "tuple") (by rfl) T.mt (by decide +kernel) rfl) pa_nil))))) (pw_or1 (pt_not (pt_chain op_le op_le pe_int (pe_callB call_len_seq (by rfl) T.ml PySem.boot_len (pa_cons (pv 0) pa_nil)) (pe_glob (v := .int 40) (by rfl) gS ⟨_, rfl⟩)))))) (pss_one (ps_ret pe_bl)) pss_nil)
      (pss_cons (ps_if (pt_not (pt_val (pe_callB (cr_all rfl) (by rfl) U.mal (by decide +kernel) (pa_cons (pe_lc (own := [("row", 1)]) (g := gName 1) (tt := tYes) (te := tCall (spDat K formD) [] E0 (tCons (tVar 1) tNil)) rfl nd (pi_tup (pv 0)) (blkOk_by (N := ["value", "row"]) (sc := defScope s_is_program) (by decide +kernel)) (fun _ _ _ _ _ => pg_name (i := 1) nd rfl (Or.inl rfl)) (fun _ _ _ _ _ => pts_nil) (fun _ _ _ _ _ => (pe_call GF hr3 (by rfl) U.gF U.FF.kp bF .nil pass0 (pa_cons (pv 1) pa_nil)))) pa_nil)))) (pss_one (ps_ret pe_bl)) pss_nil)
      (pss_cons (ps_if (pt_cmpR op_gt (pe_call GC hr1 (by rfl) U.gC U.FC.kp bC .nil pass0 (pa_cons (pv 0) pa_nil)) (pe_glob (v := .int 60) (by rfl) gD ⟨_, rfl⟩) (nomark _)) (pss_one (ps_ret pe_bl)) pss_nil)
      (pss_one (ps_ret (pe_and (pe_call GO hr (by rfl) U.gO U.FO.kp bO .nil pass0 (pa_cons (pv 0) pa_nil)) (pe_one (pe_call GV hr (by rfl) U.gV U.FV.kp bV .nil pass0 (pa_cons (pv 0) pa_nil))))))))), ?_⟩
    refine ⟨v, rfl, v, d, rfl, hd, _, rfl, ?_⟩
    cases hs : isT d "tuple" with
    | false =>
      refine iteT (iteT (no H (Same.refl H) fun z => ?_))
      obtain ⟨rs, e, _⟩ := z
      rw [e] at hs
      simp [isT, tyD, pd] at hs
    | true =>
      obtain ⟨ds, rfl⟩ := is_tup hs
      have hd' := hd
      unfold Dt at hd'
      obtain ⟨a, xs, rfl, qa, dx⟩ := hd'
      have lx := dtsLen dx
      refine iteF ⟨.ref a, rfl, a, xs, rfl, .inr qa, 1, (xs.length : Int), rfl, rfl, _, rfl, ite2 (fun c => ⟨_, 40, rfl, rfl, _, rfl, ?_⟩) (fun c => ⟨false, rfl, iteT (no H (Same.refl H) fun z => ?_)⟩)⟩
      · have c : (1 : Int) ≤ (xs.length : Int) := of_decide_eq_true c
        by_cases c2 : (xs.length : Int) ≤ 40
        · rw [decide_eq_true c2]
          refine iteF ⟨.ref a, rfl, a, rfl, ⟨xs, qa⟩, fun D nD => ?_⟩
          refine all_tup (ds := ds) (g := formD) qa dx hw nD (by show 1 < 2; decide) fun H1 S1 e => ?_
          refine ⟨D, _, rfl, .of e, _, rfl, ?_⟩
          rw [all_map]
          cases hall : ds.all formD with
          | false =>
            refine iteT (no H1 S1 fun z => ?_)
            obtain ⟨rs, e, gd⟩ := z
            unfold pd at e
            injection e with e
            rw [e] at hall
            have : (rs.map rowD).all formD = true := by
              rw [List.all_eq_true]
              intro x hx
              obtain ⟨r, hr, rfl⟩ := List.mem_map.mp hx
              exact form_row.mpr ⟨gd.nn _ (List.mem_map.mpr ⟨r, hr, rfl⟩), gd.asc r hr⟩
            rw [this] at hall
            cases hall
          | true =>
            refine iteF ?_
            obtain ⟨rs, rfl⟩ := rows_of fun d hd => form_is (List.all_eq_true.mp hall d hd)
            rw [List.length_map] at lx
            have fr : ∀ r ∈ rs, 0 ≤ r.2.1 ∧ r.2.2.Pairwise (· < ·) := fun r hr => form_row.mp (List.all_eq_true.mp hall _ (List.mem_map.mpr ⟨r, hr, rfl⟩))
            have nn : ∀ c ∈ cnts rs, 0 ≤ c := fun c hc => by
              obtain ⟨r, hr, rfl⟩ := List.mem_map.mp hc
              exact (fr r hr).1
            have hp : Dt K H (pd rs) (.ref a) := hd
            refine ⟨.ref a, rfl, .ref a, rs, rfl, Dt.same S1 _ _ hp, by omega, fun H2 S2 => ?_⟩
            have S12 := S1.trans S2
            refine ⟨_, 60, rfl, rfl, _, rfl, ?_⟩
            by_cases c3 : (cnts rs).sum > 60
            · rw [decide_eq_true c3]
              refine iteT (no H2 S12 fun z => ?_)
              obtain ⟨ss, e, gd⟩ := z
              cases pd_inj (rs := rs) e
              have t : (cnts rs).sum ≤ 60 := gd.tot
              omega
            · rw [decide_eq_false c3]
              refine iteF ⟨.ref a, rfl, .ref a, rs, rfl, Dt.same S12 _ _ hp, by omega, by omega, fun H3 S3 => ⟨_, rfl, ?_⟩⟩
              have S13 := S12.trans S3
              by_cases pr : PM.Pre (pars rs)
              · rw [PM.bo_true pr]
                have wf : PWf rs := ⟨pr, by omega, nn, by omega⟩
                refine iteT ⟨.ref a, rfl, .ref a, rs, rfl, Dt.same S13 _ _ hp, wf, fun H4 S4 => ?_⟩
                have z := q H4 (S13.trans S4)
                have e : progD (.tuple (rs.map rowD)) = PM.bo (Vis rs) := by
                  refine PM.bo_iff ⟨fun ⟨ss, e, gd⟩ => ?_, fun vis => ⟨rs, rfl, ⟨by omega, by omega, nn, fun r hr => (fr r hr).2, by show (cnts rs).sum ≤ 60; omega, pr, vis⟩⟩⟩
                  cases pd_inj (rs := rs) e
                  exact gd.vis
                rw [e] at z
                exact z
              · rw [PM.bo_false pr]
                refine iteF (no H3 S13 fun z => ?_)
                obtain ⟨ss, e, gd⟩ := z
                cases pd_inj (rs := rs) e
                exact pr gd.pre
        · rw [decide_eq_false c2]
          refine iteT (no H (Same.refl H) fun z => ?_)
          obtain ⟨rs, e, gd⟩ := z
          unfold pd at e
          injection e with e
          rw [e, List.length_map] at lx
          have := gd.len
          omega
      · have c : ¬ ((1 : Int) ≤ (xs.length : Int)) := fun y => c (decide_eq_true y)
        obtain ⟨rs, e, gd⟩ := z
        unfold pd at e
        injection e with e
        rw [e, List.length_map] at lx
        have := gd.pos
        omega
end
end K01
set_option Elab.async false
set_option linter.all false
set_option maxRecDepth 100000
set_option maxHeartbeats 1000000
namespace K01
open PySem PySem.Spec PyProof.Rows L2
/-! ### the law's own check -/
def numB (low : Int) : PyData → Bool
  | .int i => decide (low ≤ i)
  | _ => false
noncomputable def partD : PyData → Bool
  | .tuple [a, b, .tuple us] => numB (-1) a && (numB 0 b && (us.all (numB 0) && PM.bo ((us.map numI).Pairwise (· < ·))))
  | _ => false
theorem numB_is (low : Int) {d : PyData} (h : wholeD d = false) : numB low d = false := by
  cases d with
  | int i => cases h
  | _ => rfl
def spNum (K : PySem.W.Frag) : Sp := fun vs H Q _ => ∃ (v : V) (d : PyData) (low : Int), vs = [v, .int low] ∧ Dt K H d v ∧ ∀ H', Same H H' → Q (.bl (numB low d)) H'
def spDatB (K : PySem.W.Frag) (g : PyData → Bool) : Sp := fun vs H Q _ => ∃ (v : V) (d : PyData), vs = [v] ∧ Dt K H d v ∧ wt d ≤ 200000 ∧ okD 80 d ∧ ∀ H', Same H H' → Q (.bl (g d)) H'
theorem part_false {d : PyData} (h : isT d "tuple" = false) : partD d = false := by
  cases d with
  | tuple x => simp [isT, tyD] at h
  | _ => rfl
theorem part_len {ds : List PyData} (h : ds.length ≠ 3) : partD (.tuple ds) = false := by
  match ds, h with
  | [], _ => rfl
  | [_], _ => rfl
  | [_, _], _ => rfl
  | [_, _, _], h => exact absurd rfl h
  | _ :: _ :: c :: _ :: _, _ => cases c <;> rfl
theorem part_third {a b c : PyData} (h : isT c "tuple" = false) : partD (.tuple [a, b, c]) = false := by
  cases c with
  | tuple x => simp [isT, tyD] at h
  | _ => rfl
theorem all_num : ∀ {us : List PyData}, us.all (numB 0) = true → us.all wholeD = true ∧ ∀ u ∈ us.map numI, 0 ≤ u
  | [], _ => ⟨rfl, fun u hu => nomatch hu⟩
  | d :: us, h => by
    rw [List.all_cons] at h
    obtain ⟨h1, h2⟩ := He.ba h
    obtain ⟨a, b⟩ := all_num h2
    cases d with
    | int i =>
      refine ⟨by rw [List.all_cons, a]; rfl, fun u hu => ?_⟩
      rcases List.mem_cons.mp hu with z | z
      · rw [z]
        exact of_decide_eq_true h1
      · exact b u z
    | _ => cases h1
theorem part_row {r : PRow} : partD (rowD r) = true ↔ -1 ≤ r.1 ∧ 0 ≤ r.2.1 ∧ (∀ u ∈ r.2.2, 0 ≤ u) ∧ r.2.2.Pairwise (· < ·) := by
  have e : partD (rowD r) = (decide (-1 ≤ r.1) && (decide (0 ≤ r.2.1) && ((r.2.2.map PyData.int).all (numB 0) && PM.bo (((r.2.2.map PyData.int).map numI).Pairwise (· < ·))))) := rfl
  rw [e, nums_back]
  constructor
  · intro h
    obtain ⟨h1, h⟩ := He.ba h
    obtain ⟨h2, h⟩ := He.ba h
    obtain ⟨h3, h4⟩ := He.ba h
    refine ⟨of_decide_eq_true h1, of_decide_eq_true h2, fun u hu => ?_, Classical.byContradiction fun z => ?_⟩
    · exact of_decide_eq_true (List.all_eq_true.mp h3 (.int u) (List.mem_map.mpr ⟨u, hu, rfl⟩))
    · rw [PM.bo_false z] at h4
      cases h4
  · rintro ⟨h1, h2, h3, h4⟩
    rw [decide_eq_true h1, decide_eq_true h2, PM.bo_true h4]
    rw [show (r.2.2.map PyData.int).all (numB 0) = true by
      rw [List.all_eq_true]
      intro x hx
      obtain ⟨u, hu, rfl⟩ := List.mem_map.mp hx
      exact decide_eq_true (h3 u hu)]
    rfl
theorem part_is {d : PyData} (h : partD d = true) : ∃ r : PRow, d = rowD r := by
  cases d with
  | tuple ds =>
    by_cases c3 : ds.length = 3
    · match ds, c3, h with
      | [a, b, c], _, h =>
        cases c with
        | tuple us =>
          have h : (numB (-1) a && (numB 0 b && (us.all (numB 0) && PM.bo ((us.map numI).Pairwise (· < ·))))) = true := h
          obtain ⟨h1, h⟩ := He.ba h
          obtain ⟨h2, h⟩ := He.ba h
          obtain ⟨h3, h4⟩ := He.ba h
          cases a with
          | int p =>
            cases b with
            | int n =>
              refine ⟨(p, n, us.map numI), ?_⟩
              unfold rowD
              rw [← ints_back (all_num h3).1]
            | _ => cases h2
          | _ => cases h1
        | _ => cases h
    · rw [part_len c3] at h
      cases h
  | _ => cases h
section
variable {P : Program} {w : World} {K : PySem.W.Frag} {mg : Str → Option Value} {base : Heap}
theorem scNum : FnScope ["_law_item", "_law_low"] ["_law_item", "_law_low"] (defScope s_law_is_number) := ⟨rfl, rfl, rfl, by decide +kernel, rfl, by decide +kernel, by decide +kernel⟩
theorem ok_num {f : Addr} {fd : FuncData} (F : FnP K "_law_is_number" s_law_is_number f fd) (ms : mg "isinstance" = none) (mi : mg "int" = none) (mb : mg "bool" = none) :
    FnOk P w K mg base CX0 1 f fd ["_law_item", "_law_low"] (spNum K) := by
  refine F.ok scNum (fun vs H Q E h => ?_) (fun cdv A outer s H vs Q E hr h => ?_)
  · obtain ⟨v, d, low, rfl, _⟩ := h
    rfl
  · obtain ⟨v, d, low, rfl, hd, q⟩ := h
    refine ⟨_, PSs.nox (pss_one (ps_ret (pe_and (pe_callB (call_isD (T := "int") (by decide)) (by rfl) ms (by decide +kernel) (pa_cons (pv 0) (pa_cons (pe_bltn (v := .ty "int") (by rfl) mi (by decide +kernel) rfl) pa_nil))) (pe_and (pe_not (pe_callB (call_isD (T := "bool") (by decide)) (by rfl) ms (by decide +kernel) (pa_cons (pv 0) (pa_cons (pe_bltn (v := .ty "bool") (by rfl) mb (by decide +kernel) rfl) pa_nil)))) (pe_one (pe_cmpR op_ge (pv 0) (pv 1) (nomark _))))))), ?_⟩
    have z := q H (Same.refl H)
    have wi := whole_is d
    refine ⟨v, rfl, v, d, rfl, hd, _, rfl, ?_⟩
    cases hi : isT d "int" with
    | false =>
      rw [hi, Bool.false_and] at wi
      rw [numB_is low wi] at z
      exact iteF z
    | true =>
      refine iteT ⟨v, rfl, v, d, rfl, hd, _, rfl, _, rfl, ?_⟩
      rw [hi, Bool.true_and] at wi
      cases hb : isT d "bool" with
      | true =>
        rw [hb] at wi
        rw [numB_is low wi] at z
        exact iteF z
      | false =>
        rw [hb] at wi
        obtain ⟨i, rfl⟩ : ∃ i, d = .int i := by
          cases d with
          | int i => exact ⟨i, rfl⟩
          | _ => cases wi
        unfold Dt at hd
        subst hd
        exact iteT ⟨_, rfl, _, rfl, i, low, rfl, rfl, z⟩
theorem scPart : FnScope ["_law_item", "_law_one"] ["_law_item"] (defScope s_law_is_part) := ⟨rfl, rfl, rfl, by decide +kernel, rfl, by decide +kernel, by decide +kernel⟩
structure TxtD (K : PySem.W.Frag) (mg : Str → Option Value) (fM fPt : Addr) (fdM fdPt : FuncData) : Prop where
  FM : FnP K "_law_is_number" s_law_is_number fM fdM
  FPt : FnP K "_law_is_part" s_law_is_part fPt fdPt
  gM : mg "_law_is_number" = some (.ref fM)
  gPt : mg "_law_is_part" = some (.ref fPt)
  ms : mg "isinstance" = none
  mi : mg "int" = none
  mb : mg "bool" = none
  mtu : mg "tuple" = none
  ml : mg "len" = none
  mal : mg "all" = none
  may : mg "any" = none
  mli : mg "list" = none
  mse : mg "set" = none
  md : mg "sorted" = none
  me : mg "enumerate" = none
theorem ok_part {fM fPt : Addr} {fdM fdPt : FuncData} (T : TxtD K mg fM fPt fdM fdPt) : FnOk P w K mg base CX0 2 fPt fdPt ["_law_item"] (spDatB K partD) := by
  have GM : FnOk P w K mg base CX0 1 fM fdM ["_law_item", "_law_low"] (spNum K) := ok_num T.FM T.ms T.mi T.mb
  have bM : Binds K fdM ["_law_item", "_law_low"] [] := T.FM.bindsN fun _ _ _ _ _ _ us hl => match us, hl with | [_, _], _ => rfl
  refine T.FPt.ok scPart (fun vs H Q E h => ?_) (fun cdv A outer s H vs Q E hr h => ?_)
  · obtain ⟨v, d, rfl, _⟩ := h
    rfl
  · obtain ⟨v, d, rfl, hd, hw, hok, q⟩ := h
    have nd := scPart.nd
    refine ⟨_, PSs.nox (pss_cons (ps_if (PW.pt (pw_or (pt_not (pt_val (pe_callB (call_isD (T := "tuple") (by decide)) (by rfl) T.ms (by decide +kernel) (pa_cons (pv 0) (pa_cons (pe_bltn (v := .ty "tuple") (by rfl) T.mtu (by decide +kernel) rfl) pa_nil))))) (pw_or (pt_cmpR op_ne (pe_callB call_len_seq (by rfl) T.ml PySem.boot_len (pa_cons (pv 0) pa_nil)) pe_int (nomark _)) (pw_or1 (pt_not (pt_val (pe_callB (call_isD (T := "tuple") (by decide)) (by rfl) T.ms (by decide +kernel) (pa_cons (pe_ix ix_tup (pv 0) pe_int (fun _ _ => rfl)) (pa_cons (pe_bltn (v := .ty "tuple") (by rfl) T.mtu (by decide +kernel) rfl) pa_nil))))))))) (pss_one (ps_ret pe_bl)) pss_nil)
      (pss_cons (ps_if (PW.pt (pw_or (pt_not (pt_val (pe_call GM hr (by rfl) T.gM T.FM.kp bM .nil pass0 (pa_cons (pe_ix ix_tup (pv 0) pe_int (fun _ _ => rfl)) (pa_cons (pe_un un_neg pe_int) pa_nil))))) (pw_or1 (pt_not (pt_val (pe_call GM hr (by rfl) T.gM T.FM.kp bM .nil pass0 (pa_cons (pe_ix ix_tup (pv 0) pe_int (fun _ _ => rfl)) (pa_cons pe_int pa_nil)))))))) (pss_one (ps_ret pe_bl)) pss_nil)
      (pss_one (ps_ret (pe_and (pe_callB (cr_all rfl) (by rfl) T.mal (by decide +kernel) (pa_cons (pe_lc (own := [("_law_one", 1)]) (g := gName 1) (tt := tYes) (te := tCall (spNum K) [] E0 (tCons (tVar 1) (tCons (tC (.int 0)) tNil))) rfl nd (pi_tup (pe_ix ix_tup (pv 0) pe_int (fun _ _ => rfl))) (blkOk_by (N := ["_law_item", "_law_one"]) (sc := defScope s_law_is_part) (by decide +kernel)) (fun _ _ _ _ _ => pg_name (i := 1) nd rfl (Or.inl rfl)) (fun _ _ _ _ _ => pts_nil) (fun _ _ _ _ _ => (pe_call GM hr (by rfl) T.gM T.FM.kp bM .nil pass0 (pa_cons (pv 1) (pa_cons pe_int pa_nil))))) pa_nil)) (pe_one (pe_cmpR (op_eqLI hr.units) (pe_callTy call_list_of (by rfl) T.mli (by decide +kernel) (pa_cons (pe_ix ix_tup (pv 0) pe_int (fun _ _ => rfl)) pa_nil)) (pe_callB (cr_sortedSet rfl) (by rfl) T.md (by decide +kernel) (pa_cons (pe_callTy (cr_setTI rfl) (by rfl) T.mse (by decide +kernel) (pa_cons (pe_ix ix_tup (pv 0) pe_int (fun _ _ => rfl)) pa_nil)) pa_nil)) (nomark _)))))))), ?_⟩
    refine ⟨v, rfl, v, d, rfl, hd, _, rfl, ?_⟩
    cases hs : isT d "tuple" with
    | false =>
      have z := q H (Same.refl H)
      rw [part_false hs] at z
      exact iteT (iteT z)
    | true =>
      obtain ⟨ds, rfl⟩ := is_tup hs
      have hd' := hd
      unfold Dt at hd'
      obtain ⟨a, xs, rfl, qa, dx⟩ := hd'
      have lx := dtsLen dx
      refine iteF ⟨.ref a, rfl, a, xs, rfl, .inr qa, rfl, _, rfl, ?_⟩
      by_cases c3 : ds.length = 3
      · rw [show (!decide (V.int xs.length = V.int 3)) = false by rw [lx, c3]; rfl]
        match ds, c3 with
        | [d1, d2, d3], _ =>
          unfold Dts Dts Dts Dts at dx
          obtain ⟨x1, r1, rfl, h1, x2, r2, rfl, h2, x3, r3, rfl, h3, rfl⟩ := dx
          have w1 : wt d1 + (wt d2 + (wt d3 + 0)) + 1 ≤ 200000 := hw
          refine iteF ⟨.ref a, rfl, a, _, 2, x3, rfl, rfl, qa, rfl, x3, d3, rfl, h3, _, rfl, ?_⟩
          cases ht : isT d3 "tuple" with
          | false =>
            have z := q H (Same.refl H)
            rw [part_third ht] at z
            exact iteT z
          | true =>
            obtain ⟨us, rfl⟩ := is_tup ht
            have qf : ∀ H', Same H H' → Q (.bl (numB (-1) d1 && (numB 0 d2 && (us.all (numB 0) && PM.bo ((us.map numI).Pairwise (· < ·)))))) H' := q
            have ul : (us.length : Int) + 20 ≤ 80 := hok.2.2.2.1.1
            refine iteF ⟨.ref a, rfl, a, _, 0, x1, rfl, rfl, qa, rfl, 1, rfl, x1, d1, -1, rfl, h1, fun H1 S1 => ⟨_, rfl, ?_⟩⟩
            cases e1 : numB (-1) d1 with
            | false =>
              have z := qf H1 S1
              rw [e1, Bool.false_and] at z
              exact iteT (iteT z)
            | true =>
              refine iteF ⟨.ref a, rfl, a, _, 1, x2, rfl, rfl, S1.sqT qa, rfl, x2, d2, 0, rfl, Dt.same S1 _ _ h2, fun H2 S2 => ⟨_, rfl, ?_⟩⟩
              have S12 := S1.trans S2
              cases e2 : numB 0 d2 with
              | false =>
                have z := qf H2 S12
                rw [e1, e2, Bool.true_and, Bool.false_and] at z
                exact iteT z
              | true =>
                refine iteF ?_
                have h3' := h3
                unfold Dt at h3'
                obtain ⟨ua, ux, rfl, qu, du⟩ := h3'
                have lu := dtsLen du
                refine ⟨.ref a, rfl, a, _, 2, .ref ua, rfl, rfl, S12.sqT qa, rfl, ua, rfl, ⟨ux, S12.sqT qu⟩, fun D nD => ?_⟩
                refine lc_tup (K := K) (a := ua) (xs := ux) (fun i H' => Same H2 H' ∧ H' D = some (.lst (((us.take i).map (numB 0)).map V.bl))) ⟨same_new nD, upd_same⟩ (fun i H' _ ⟨s', _⟩ => (S12.trans s').sqT qu) ?_ ?_
                · rintro i x H' hx ⟨S, e⟩
                  have hi : i < us.length := by
                    rw [← lu]
                    exact (List.getElem?_eq_some_iff.mp hx).1
                  obtain ⟨y, hy, hdy⟩ := dtsGet du (List.getElem?_eq_getElem hi)
                  rw [hx] at hy
                  cases hy
                  refine ⟨rfl, x, rfl, x, us[i], 0, rfl, Dt.same (S12.trans S) _ _ hdy, fun H3 S3 => ⟨_, S3 _ _ e, ?_, fun b o z => ?_, ?_⟩⟩
                  · rw [List.length_map, List.length_map, List.length_take]
                    exact Nat.lt_of_le_of_lt (Nat.min_le_left _ _) (small1000 (by omega))
                  · rw [upd_ne (ne_of_none z nD)]
                    exact S3 _ _ (S _ _ z)
                  · rw [upd_same, List.take_add_one, List.getElem?_eq_getElem hi, List.map_append, List.map_append]
                    rfl
                · rintro H3 ⟨S3, e3⟩
                  rw [lu, List.take_length] at e3
                  refine ⟨D, _, rfl, .of e3, _, rfl, ?_⟩
                  rw [all_map]
                  have S13 := S12.trans S3
                  cases e4 : us.all (numB 0) with
                  | false =>
                    have z := qf H3 S13
                    rw [e1, e2, e4, Bool.true_and, Bool.true_and, Bool.false_and] at z
                    exact iteF z
                  | true =>
                    have eb := ints_back (all_num e4).1
                    have el : (us.map numI).length = us.length := List.length_map ..
                    have qs : SqT K H ua ((us.map numI).map V.int) := by
                      rw [eb] at du
                      rw [dts_intsV du] at qu
                      exact qu
                    rw [e1, e2, e4, Bool.true_and, Bool.true_and, Bool.true_and] at qf
                    generalize us.map numI = ns at qf qs el
                    refine iteT ⟨.ref a, rfl, a, _, 2, .ref ua, rfl, rfl, S13.sqT qa, rfl, ua, _, rfl, .inr (S13.sqT qs), fun l nl => ?_⟩
                    have S4 := same_new (o := .lst (ns.map V.int)) nl
                    have e4' := upd_same (H := H3) (a := l) (o := .lst (ns.map V.int))
                    have S14 := S13.trans S4
                    generalize L2.upd H3 l (.lst (ns.map V.int)) = H4 at S4 e4' S14 ⊢
                    refine ⟨.ref a, rfl, a, _, 2, .ref ua, rfl, rfl, S14.sqT qa, rfl, ua, ns, rfl, S14.sqT qs, by omega, fun sp sn nsp hsn => ?_⟩
                    have S5 := same_new (o := SetO w sp (fun j => decide (j ∈ ns)) sn) nsp
                    refine ⟨sp, _, sn, rfl, upd_same, by omega, fun ms p2 asc mem _ np2 => ?_⟩
                    have S6 := same_new (o := .lst (ms.map V.int)) np2
                    refine ⟨l, p2, ns, ms, rfl, rfl, .of (S6 _ _ (S5 _ _ e4')), .of upd_same, ?_⟩
                    have se := PM.sorted_eq (l := ns) asc fun k => (mem k).trans ⟨fun z => of_decide_eq_true z, fun z => decide_eq_true z⟩
                    have z := qf _ (S14.trans (S5.trans S6))
                    by_cases c : ns.Pairwise (· < ·)
                    · rw [PM.bo_true c] at z
                      rw [decide_eq_true (se.mpr c)]
                      exact z
                    · rw [PM.bo_false c] at z
                      rw [decide_eq_false fun y => c (se.mp y)]
                      exact z
      · have z := q H (Same.refl H)
        rw [part_len c3] at z
        rw [show (!decide (V.int xs.length = V.int 3)) = true by
          rw [decide_eq_false fun z => c3 (by have := V.int.inj z; omega)]
          rfl]
        exact iteT (iteT z)
end
end K01
set_option Elab.async false
set_option linter.all false
set_option maxRecDepth 100000
set_option maxHeartbeats 1000000
namespace K01
open PySem PySem.Spec PyProof.Rows L2
/-! ### the law's own walk with a stack of open scopes -/
def st (cs : List Int) (x : Int) : Int := (cs.take x.toNat).sum
def ct (cs : List Int) (x : Int) : Int := cs.getD x.toNat 0
def tp3 (cs : List Int) (x : Int) : HO := .tup [.int x, .int (st cs x), .int (st cs x + ct cs x)]
/-- the open scopes, the innermost first -/
def OnSt (H : Hp) (cs : List Int) (ts : List Addr) (M : List Int) : Prop := Paired (fun t x => H t = some (tp3 cs x)) ts M.reverse
theorem paired_snoc {α β : Type} {F : α → β → Prop} : ∀ {m : List β} {l : List α} {x : β}, Paired F l (m ++ [x]) → ∃ l' t, l = l' ++ [t] ∧ Paired F l' m ∧ F t x
  | [], l, x, h => by
    cases h with
    | cons h1 h2 =>
      cases h2
      exact ⟨[], _, rfl, .nil, h1⟩
  | y :: m, l, x, h => by
    cases h with
    | cons h1 h2 =>
      obtain ⟨l', t, e, p, f⟩ := paired_snoc h2
      exact ⟨_ :: l', t, by rw [e]; rfl, .cons h1 p, f⟩
theorem paired_get {α β : Type} {F : α → β → Prop} : ∀ {l : List α} {m : List β} {k : Nat} {t : α}, Paired F l m → l[k]? = some t → ∃ x, m[k]? = some x ∧ F t x
  | _, _, k, t, .nil, e => by simp at e
  | _, _, 0, t, .cons h _, e => by
    cases e
    exact ⟨_, rfl, h⟩
  | _, _, k + 1, t, .cons _ p, e => paired_get (k := k) p e
theorem OnSt.keep {H H' : Hp} {cs : List Int} {ts : List Addr} {M : List Int} {ol : Addr} {ys : List V} (h : OnSt H cs ts M) (e : H ol = some (.lst ys)) (X : SameX ol H H') : OnSt H' cs ts M :=
  Paired.mapP h fun t x z => X t _ (fun q => by
    rw [q, e] at z
    cases z) z
theorem OnSt.same {H H' : Hp} {cs : List Int} {ts : List Addr} {M : List Int} (h : OnSt H cs ts M) (S : Same H H') : OnSt H' cs ts M := Paired.mapP h fun t x z => S t _ z
theorem OnSt.len {H : Hp} {cs : List Int} {ts : List Addr} {M : List Int} (h : OnSt H cs ts M) : ts.length = M.length := by
  have z := Paired.length h
  rw [List.length_reverse] at z
  exact z
theorem OnSt.pop {H : Hp} {cs : List Int} {ts : List Addr} {x : Int} {M : List Int} (h : OnSt H cs ts (x :: M)) : ∃ ts' t, ts = ts' ++ [t] ∧ OnSt H cs ts' M ∧ H t = some (tp3 cs x) := by
  unfold OnSt at h
  rw [List.reverse_cons] at h
  exact paired_snoc h
theorem OnSt.push {H : Hp} {cs : List Int} {ts : List Addr} {x : Int} {M : List Int} {t : Addr} (h : OnSt H cs ts M) (e : H t = some (tp3 cs x)) : OnSt H cs (ts ++ [t]) (x :: M) := by
  unfold OnSt
  rw [List.reverse_cons]
  exact Paired.snoc h e
def see (cs : List Int) (u x : Int) : Bool := decide (st cs x ≤ u) && decide (u < st cs x + ct cs x)
theorem see_any {ps cs : List Int} {i u : Int} (hb : ∀ x ∈ PM.W ps i, 0 ≤ x ∧ x < cs.length) : (((PM.W ps i).reverse.map (see cs u)).any id) = true ↔ PM.Sees ps cs i u := by
  rw [List.any_eq_true]
  constructor
  · rintro ⟨b, hb', e⟩
    obtain ⟨x, hx, rfl⟩ := List.mem_map.mp hb'
    have hx := List.mem_reverse.mp hx
    obtain ⟨e1, e2⟩ := He.ba e
    have b := hb x hx
    have hl : x.toNat < cs.length := by omega
    refine ⟨x.toNat, cs[x.toNat], by rw [show ((x.toNat : Nat) : Int) = x by omega]; exact hx, List.getElem?_eq_getElem hl, of_decide_eq_true e1, ?_⟩
    have e2 := of_decide_eq_true e2
    unfold ct at e2
    rw [List.getD_eq_getElem?_getD, List.getElem?_eq_getElem hl] at e2
    exact e2
  · rintro ⟨x, c, hx, hc, h0, h1⟩
    refine ⟨see cs u x, List.mem_map.mpr ⟨x, List.mem_reverse.mpr hx, rfl⟩, ?_⟩
    have ex : ((x : Int)).toNat = x := by omega
    have e1 : st cs x = (cs.take x).sum := by unfold st; rw [ex]
    have e2 : ct cs x = c := by unfold ct; rw [ex, List.getD_eq_getElem?_getD, hc]; rfl
    show see cs u x = true
    unfold see
    rw [e1, e2, decide_eq_true h0, decide_eq_true h1]
    rfl
theorem ne_bl (a b : Bool) : (!decide (V.bl a = V.bl b)) = (a != b) := by cases a <;> cases b <;> rfl
theorem int_dec (i j : Int) : decide (V.int i = V.int j) = decide (i = j) := by
  by_cases c : i = j
  · rw [c, decide_eq_true rfl, decide_eq_true rfl]
  · rw [decide_eq_false c, decide_eq_false fun z => c (V.int.inj z)]
abbrev dueN : List Str := ["_law_item", "_law_total", "_law_open_ones", "_law_nth", "_law_parent", "_law_count", "_law_uses", "_law_use", "_law_part", "_law_at", "_law_low", "_law_high"]
theorem scDue : FnScope dueN ["_law_item"] (defScope s_law_due) := ⟨rfl, rfl, rfl, by decide +kernel, rfl, by decide +kernel, by decide +kernel⟩
/-- what the next turn finds -/
def Nxt (rs : List PRow) (a ol : Addr) (H1 : Hp) (i : Nat) (us : List Int) (nx : L2.St → Hp → Prop) : Prop :=
  ∀ σ' H', (∃ (y3 y4 y5 y6 y7 : Option V) (ts' : List Addr), σ' = [some (.ref a), some (.int ((cnts rs).take (i + 1)).sum), some (.ref ol), y3, y4, y5, y6, y7, none, none, none, none] ∧ Same H1 H' ∧ H' ol = some (.lst (ts'.map V.ref)) ∧
    OnSt H' (cnts rs) ts' (PM.W (pars rs) (i : Int)) ∧ PM.Pre ((pars rs).take (i + 1)) ∧ ∀ u ∈ us, PM.Sees (pars rs) (cnts rs) i u) → nx σ' H'
def tAft (K : PySem.W.Frag) (rs : List PRow) : TS := fun D σ H => ∃ (a ol ua : Addr) (i : Nat) (p c : Int) (us : List Int) (y7 : Option V) (ts : List Addr) (H1 : Hp),
  σ = [some (.ref a), some (.int ((cnts rs).take i).sum), some (.ref ol), some (.int (i : Int)), some (.int p), some (.int c), some (.ref ua), y7, none, none, none, none] ∧ rs[i]? = some (p, c, us) ∧ rs.length ≤ 100 ∧ us.length ≤ 1000 ∧ SqT K H ua (us.map V.int) ∧ Same H1 H ∧ H1 ol = none ∧
  H ol = some (.lst (ts.map V.ref)) ∧ OnSt H (cnts rs) ts ((PM.W (pars rs) ((i : Int) - 1)).dropWhile fun x => decide (x ≠ p)) ∧ (0 < i → PM.Pre ((pars rs).take i)) ∧
  (∀ H', Same H1 H' → ¬ (PM.Pre (pars rs) ∧ Vis rs) → D.rt (.bl false) H') ∧ Nxt rs a ol H1 i us D.nx
def tAft2 (K : PySem.W.Frag) (rs : List PRow) : TS := fun D σ H => ∃ (a ol ua : Addr) (i : Nat) (p c : Int) (us : List Int) (y7 : Option V) (ts : List Addr) (H1 : Hp),
  σ = [some (.ref a), some (.int ((cnts rs).take i).sum), some (.ref ol), some (.int (i : Int)), some (.int p), some (.int c), some (.ref ua), y7, none, none, none, none] ∧ rs[i]? = some (p, c, us) ∧ rs.length ≤ 100 ∧ us.length ≤ 1000 ∧ SqT K H ua (us.map V.int) ∧ Same H1 H ∧ H1 ol = none ∧
  H ol = some (.lst (ts.map V.ref)) ∧ OnSt H (cnts rs) ts (PM.W (pars rs) p) ∧ PM.Pre ((pars rs).take (i + 1)) ∧
  (∀ H', Same H1 H' → ¬ (PM.Pre (pars rs) ∧ Vis rs) → D.rt (.bl false) H') ∧ Nxt rs a ol H1 i us D.nx
section
variable {P : Program} {w : World} {K : PySem.W.Frag} {mg : Str → Option Value} {base : Heap}
theorem ok_due {f fM fPt : Addr} {fd fdM fdPt : FuncData} (T : TxtD K mg fM fPt fdM fdPt) (F : FnP K "_law_due" s_law_due f fd) : FnOk P w K mg base CX0 3 f fd ["_law_item"] (spDatB K progD) := by
  have GP : FnOk P w K mg base CX0 2 fPt fdPt ["_law_item"] (spDatB K partD) := ok_part T
  have bP : Binds K fdPt ["_law_item"] [] := T.FPt.bindsN fun _ _ _ _ _ _ us hl => match us, hl with | [_], _ => rfl
  refine F.ok scDue (fun vs H Q E h => ?_) (fun cdv A outer s H vs Q E hr h => ?_)
  · obtain ⟨v, d, rfl, _⟩ := h
    rfl
  · obtain ⟨v, d, rfl, hd, hw, hok, q⟩ := h
    have nd := scDue.nd
    have no : ∀ H', Same H H' → ¬ IsProg d → Q (.bl false) H' := fun H' S ns => by
      have z := q H' S
      unfold progD at z
      rw [PM.bo_false ns] at z
      exact z
    by_cases ht : ∃ rs : List PRow, d = pd rs ∧ rs.length ≤ 40 ∧ 0 < rs.length ∧ ∀ r ∈ rs, partD (rowD r) = true
    · obtain ⟨rs, rfl, hl, h0, hpart⟩ := ht
      refine ⟨_, PSs.nox (pss_cons (ps_if (PW.pt (pw_or (pt_not (pt_val (pe_callB (call_isD (T := "tuple") (by decide)) (by rfl) T.ms (by decide +kernel) (pa_cons (pv 0) (pa_cons (pe_bltn (v := .ty "tuple") (by rfl) T.mtu (by decide +kernel) rfl) pa_nil))))) (pw_or (pt_not (pt_chain op_lt op_lt pe_int (pe_callB call_len_seq (by rfl) T.ml PySem.boot_len (pa_cons (pv 0) pa_nil)) pe_int)) (pw_or1 (pt_not (pt_val (pe_callB (cr_all rfl) (by rfl) T.mal (by decide +kernel) (pa_cons (pe_lc (own := [("_law_part", 8)]) (g := gName 8) (tt := tYes) (te := tCall (spDatB K partD) [] E0 (tCons (tVar 8) tNil)) rfl nd (pi_tup (pv 0)) (blkOk_by (N := dueN) (sc := defScope s_law_due) (by decide +kernel)) (fun _ _ _ _ _ => pg_name (i := 8) nd rfl (Or.inl rfl)) (fun _ _ _ _ _ => pts_nil) (fun _ _ _ _ _ => (pe_call GP hr (by rfl) T.gPt T.FPt.kp bP .nil pass0 (pa_cons (pv 8) pa_nil)))) pa_nil)))))))) (pss_one (ps_ret pe_bl)) pss_nil)
      (pss_cons (ps_par (i := 1) (j := 2) (by rfl) nd rfl rfl (by decide) rfl rfl (pa_cons pe_int (pa_cons (pe_lst pa_nil) pa_nil)) (by rfl))
      (pss_cons (ps_for PassesOwn.never rfl (pi_enumT (by rfl) T.me (pa_cons (pv 0) pa_nil)) (pg_tup rfl (pgs_cons (pg_name (i := 3) nd rfl (.inl rfl)) (pgs_cons (pg_tup rfl (pgs_cons (pg_name (i := 4) nd rfl (.inl rfl)) (pgs_cons (pg_name (i := 5) nd rfl (.inl rfl)) (pgs_cons (pg_name (i := 6) nd rfl (.inl rfl)) pgs_nil)))) pgs_nil))) (pss_cons (ps_while PassesOwn.never (PW.pt (pw_and (pt_cmpR (op_neL0 (Nat.lt_of_le_of_lt (Nat.le_add_right _ 64) hr.units)) (pv 2) (pe_lst pa_nil) (nomark _)) (pw_and1 (pt_cmpR op_ne (pe_ix ix_tup (pe_ix ix_list (pv 2) (pe_un un_neg pe_int) (fun _ _ => rfl)) pe_int (fun _ _ => rfl)) (pv 4) (nomark _))))) (pss_one (ps_expr (pe_bm0 PySem.F.plainAttrs_list PySem.F.slot_list_pop PySem.F.type_list_pop mt_pop (pv 2)))))
      (pssI (u := tAft K rs) (pss_cons (ps_if (PW.pt (pw_or (pt_cmpR op_ne (pe_cmpR op_eq (pv 4) (pe_un un_neg pe_int) (nomark _)) (pe_cmpR op_eq (pv 3) pe_int (nomark _)) (nomark _)) (pw_or1 (pt_cmpR op_ne (pe_cmpR (op_eqL0 (Nat.lt_of_le_of_lt (Nat.le_add_right _ 64) hr.units)) (pv 2) (pe_lst pa_nil) (nomark _)) (pe_cmpR op_eq (pv 3) pe_int (nomark _)) (nomark _))))) (pss_one (ps_ret pe_bl)) pss_nil)
      (pssI (u := tAft2 K rs) (pss_cons (ps_expr (pe_bm PySem.F.plainAttrs_list PySem.F.slot_list_append PySem.F.type_list_append mt_append (pv 2) (pa_cons (pe_tup (pa_cons (pv 3) (pa_cons (pv 1) (pa_cons (pe_op op_add (pv 1) (pv 5)) pa_nil)))) pa_nil)))
      (pss_cons (ps_set (i := 1) nd rfl (.inl rfl) (pe_op op_add (pv 1) (pv 5)))
      (pss_one (ps_for PassesOwn.never rfl (pi_tup (pv 6)) (pg_name (i := 7) nd rfl (.inr rfl)) (pss_one (ps_if (pt_not (pt_val (pe_callB (cr_any rfl) (by rfl) T.may (by decide +kernel) (pa_cons (pe_lc (own := [("_law_at", 9), ("_law_low", 10), ("_law_high", 11)]) (g := gTup K 3 (gCons (gName 9) (gCons (gName 10) (gCons (gName 11) gNil)))) (tt := tYes) (te := tChain (rI0 fun i j => .bl (decide (i ≤ j))) (rI0 fun i j => .bl (decide (i < j))) (tVar 10) (tVar 7) (tVar 11)) rfl nd (pi_list (pv 2)) (blkOk_by (N := dueN) (sc := defScope s_law_due) (by decide +kernel)) (fun _ _ _ _ _ => pg_tup rfl (pgs_cons (pg_name (i := 9) nd rfl (Or.inl rfl)) (pgs_cons (pg_name (i := 10) nd rfl (Or.inl rfl)) (pgs_cons (pg_name (i := 11) nd rfl (Or.inl rfl)) pgs_nil)))) (fun _ _ _ _ _ => pts_nil) (fun _ _ _ _ _ => pe_chain op_le op_lt (pv 10) (pv 7) (pv 11))) pa_nil)))) (pss_one (ps_ret pe_bl)) pss_nil)))))) ?aft2)) ?aft)))
      (pss_one (ps_ret (pe_cmpR op_lt (pv 1) pe_int (nomark _))))))), ?_⟩
      case aft2 =>
        rintro D σ G ⟨a, ol, ua, i, p, c, us, y7, ts, H1, rfl, hri, hl', hul, qu, S1, nol, eol, oS, pre, no', nx⟩
        have hi : i < rs.length := (List.getElem?_eq_some_iff.mp hri).1
        have pc : (cnts rs)[i]? = some c := by rw [List.getElem?_map, hri]; rfl
        have pp : (pars rs)[i]? = some p := by rw [List.getElem?_map, hri]; rfl
        have hpl : (pars rs).length = rs.length := by rw [List.length_map]
        have hcl : (cnts rs).length = rs.length := by rw [List.length_map]
        have gp : (pars rs).getD i (-1) = p := by rw [List.getD_eq_getElem?_getD, pp]; rfl
        have wl := (PM.W_last pre (by omega) (Nat.lt_succ_self i)).1
        rw [gp] at wl
        have wlen := PM.W_lenT pre (by omega) i (by omega)
        have tl := oS.len
        rw [wl, List.length_cons] at wlen
        refine ⟨.ref ol, rfl, .inl ⟨rfl, _, .of eol⟩, .int (i : Int), rfl, .int ((cnts rs).take i).sum, rfl, .int ((cnts rs).take i).sum, rfl, .int c, rfl, _, c, rfl, rfl, by show 3 ≤ sizeLine; decide, fun t nt => ?_⟩
        have S2 := same_new (o := .tup [.int (i : Int), .int ((cnts rs).take i).sum, .int (((cnts rs).take i).sum + c)]) nt
        have eti : (HO.tup [.int (i : Int), .int ((cnts rs).take i).sum, .int (((cnts rs).take i).sum + c)]) = tp3 (cnts rs) (i : Int) := by
          have ei : ((i : Int)).toNat = i := by omega
          unfold tp3 st ct
          rw [ei, List.getD_eq_getElem?_getD, pc]
          rfl
        have et := upd_same (H := G) (a := t) (o := .tup [.int (i : Int), .int ((cnts rs).take i).sum, .int (((cnts rs).take i).sum + c)])
        refine ⟨ol, _, _, rfl, rfl, S2 _ _ eol, by rw [List.length_map]; exact small1000 (by omega), ?_⟩
        have tol : t ≠ ol := fun z => by
          rw [z, eol] at nt
          cases nt
        generalize L2.upd G t (.tup [.int (i : Int), .int ((cnts rs).take i).sum, .int (((cnts rs).take i).sum + c)]) = G2 at S2 et ⊢
        have X3 : SameX ol G2 (L2.upd G2 ol (.lst (ts.map V.ref ++ [.ref t]))) := .upd
        have e3 : L2.upd G2 ol (.lst (ts.map V.ref ++ [.ref t])) ol = some (.lst ((ts ++ [t]).map V.ref)) := by
          rw [upd_same, List.map_append]
          rfl
        have S3 : Same H1 (L2.upd G2 ol (.lst (ts.map V.ref ++ [.ref t]))) := fun b o z => by
          rw [upd_ne (ne_of_none z nol)]
          exact S2 _ _ (S1 _ _ z)
        have oS3 : OnSt (L2.upd G2 ol (.lst (ts.map V.ref ++ [.ref t]))) (cnts rs) (ts ++ [t]) (PM.W (pars rs) (i : Int)) := by
          rw [wl]
          refine OnSt.push ((oS.same S2).keep (S2 _ _ eol) X3) ?_
          rw [upd_ne tol, et, eti]
        have qu3 : SqT K (L2.upd G2 ol (.lst (ts.map V.ref ++ [.ref t]))) ua (us.map V.int) := sqT_keep (S2 _ _ eol) X3 (S2.sqT qu)
        generalize L2.upd G2 ol (.lst (ts.map V.ref ++ [.ref t])) = G3 at e3 S3 oS3 qu3 ⊢
        refine ⟨.int ((cnts rs).take i).sum, rfl, .int c, rfl, _, c, rfl, rfl, ?_⟩
        have es : ((cnts rs).take i).sum + c = ((cnts rs).take (i + 1)).sum := (sum_take_succ pc).symm
        dsimp only
        rw [es]
        refine ⟨.ref ua, rfl, ua, rfl, ⟨_, qu3⟩, ?_⟩
        have bd : ∀ x ∈ PM.W (pars rs) (i : Int), 0 ≤ x ∧ x < ((cnts rs).length : Int) := fun x hx => by
          have := PM.W_bdT pre (by omega) (by omega) hx
          omega
        refine for_tup (K := K) (a := ua) (xs := us.map V.int) (fun m σ H' => ∃ z7, σ = [some (.ref a), some (.int ((cnts rs).take (i + 1)).sum), some (.ref ol), some (.int (i : Int)), some (.int p), some (.int c), some (.ref ua), z7, none, none, none, none] ∧ Same G3 H' ∧ ∀ u ∈ us.take m, PM.Sees (pars rs) (cnts rs) i u)
          ⟨_, rfl, Same.refl _, fun u hu => by rw [List.take_zero] at hu; cases hu⟩ (fun m σ H' _ ⟨_, _, S', _⟩ => S'.sqT qu3) ?_ ?_
        · rintro m x σ G4 hx ⟨z7, rfl, S4, sn⟩
          rw [List.getElem?_map] at hx
          obtain ⟨u, hu', rfl⟩ := Option.map_eq_some_iff.mp hx
          refine ⟨.ref ol, rfl, ol, rfl, ⟨_, .of (S4 _ _ e3)⟩, fun D2 nD2 => ?_⟩
          have oS4 := oS3.same S4
          have tl4 := oS4.len
          have wl4 := PM.W_lenT pre (by omega) i (by omega)
          refine lc_list (K := K) (a := ol) (xs := (ts ++ [t]).map V.ref) (fun k H' => Same G4 H' ∧ H' D2 = some (.lst ((((PM.W (pars rs) (i : Int)).reverse.map (see (cnts rs) u)).take k).map V.bl))) ⟨same_new nD2, upd_same⟩ (fun k H' _ ⟨S', _⟩ => .of (S' _ _ (S4 _ _ e3))) ?_ ?_
          · rintro k x G5 hx5 ⟨S5, e5⟩
            rw [List.getElem?_map] at hx5
            obtain ⟨t5, ht5, rfl⟩ := Option.map_eq_some_iff.mp hx5
            obtain ⟨y, hy, ey⟩ := paired_get oS4 ht5
            have ey5 : G5 t5 = some (.tup [.int y, .int (st (cnts rs) y), .int (st (cnts rs) y + ct (cnts rs) y)]) := S5 _ _ ey
            have hm : ((PM.W (pars rs) (i : Int)).reverse.map (see (cnts rs) u))[k]? = some (see (cnts rs) u y) := by rw [List.getElem?_map, hy]; rfl
            have fin : ∀ b : Bool, b = see (cnts rs) u y → ∃ acc, G5 D2 = some (.lst acc) ∧ acc.length < sizeLine ∧ Same G4 (L2.upd G5 D2 (.lst (acc ++ [.bl b]))) ∧ L2.upd G5 D2 (.lst (acc ++ [.bl b])) D2 = some (.lst ((((PM.W (pars rs) (i : Int)).reverse.map (see (cnts rs) u)).take (k + 1)).map V.bl)) := by
              rintro b rfl
              refine ⟨_, e5, ?_, fun b o z => ?_, ?_⟩
              · rw [List.length_map, List.length_take, List.length_map, List.length_reverse]
                exact Nat.lt_of_le_of_lt (Nat.min_le_right _ _) (small1000 (by omega))
              · rw [upd_ne (ne_of_none z nD2)]
                exact S5 _ _ z
              · rw [upd_same, List.take_add_one, hm, List.map_append]
                rfl
            refine ⟨t5, _, rfl, .of ey5, rfl, .int y, _, rfl, .int (st (cnts rs) y), _, rfl, .int (st (cnts rs) y + ct (cnts rs) y), [], rfl, rfl, rfl, ?_⟩
            refine ⟨.int (st (cnts rs) y), rfl, .int u, rfl, _, u, rfl, rfl, _, rfl, ?_⟩
            by_cases c1 : st (cnts rs) y ≤ u
            · rw [decide_eq_true c1]
              refine iteT ⟨.int (st (cnts rs) y + ct (cnts rs) y), rfl, u, _, rfl, rfl, fin _ ?_⟩
              unfold see
              rw [decide_eq_true c1, Bool.true_and]
            · rw [decide_eq_false c1]
              refine iteF (fin false ?_)
              unfold see
              rw [decide_eq_false c1, Bool.false_and]
          · rintro G5 ⟨S5, e5⟩
            rw [List.length_map, tl4, show (PM.W (pars rs) (i : Int)).length = ((PM.W (pars rs) (i : Int)).reverse.map (see (cnts rs) u)).length by rw [List.length_map, List.length_reverse], List.take_length] at e5
            refine ⟨D2, _, rfl, .of e5, _, rfl, ?_⟩
            have sa := see_any (cs := cnts rs) (u := u) bd
            by_cases se : PM.Sees (pars rs) (cnts rs) i u
            · rw [sa.mpr se]
              refine iteF ⟨_, rfl, S4.trans S5, fun y hy => ?_⟩
              rw [List.take_add_one, hu'] at hy
              rcases List.mem_append.mp hy with z | z
              · exact sn y z
              · rw [show y = u from List.mem_singleton.mp z]
                exact se
            · rw [Bool.eq_false_iff.mpr fun z => se (sa.mp z)]
              refine iteT (no' G5 (S3.trans (S4.trans S5)) fun z => se (z.2 i _ hri u (List.mem_of_getElem? hu')))
        · rintro σ G4 ⟨z7, rfl, S4, sn⟩
          rw [List.length_map, List.take_length] at sn
          exact nx _ _ ⟨_, _, _, _, _, ts ++ [t], rfl, S3.trans S4, S4 _ _ e3, oS3.same S4, pre, sn⟩
      case aft =>
        rintro D σ G ⟨a, ol, ua, i, p, c, us, y7, ts, H1, rfl, hri, hl', hul, qu, S1, nol, eol, oS, pre, no', nx⟩
        have hi : i < rs.length := (List.getElem?_eq_some_iff.mp hri).1
        have pp : (pars rs)[i]? = some p := by rw [List.getElem?_map, hri]; rfl
        have hpl : (pars rs).length = rs.length := by rw [List.length_map]
        refine ⟨.int p, rfl, 1, rfl, rfl, .int (i : Int), rfl, rfl, rfl, _, rfl, ?_⟩
        rw [ne_bl, int_dec, int_dec]
        have tl := oS.len
        have go : ∀ (G' : Hp), Same G G' → OnSt G (cnts rs) ts (PM.W (pars rs) p) → PM.Pre ((pars rs).take (i + 1)) → tAft2 K rs D [some (.ref a), some (.int ((cnts rs).take i).sum), some (.ref ol), some (.int (i : Int)), some (.int p), some (.int c), some (.ref ua), y7, none, none, none, none] G' := fun G' S' o pr =>
          ⟨a, ol, ua, i, p, c, us, y7, ts, H1, rfl, hri, hl', hul, S'.sqT qu, S1.trans S', nol, S' _ _ eol, o.same S', pr, no', nx⟩
        by_cases i0 : i = 0
        · subst i0
          have oS0 : OnSt G (cnts rs) ts [] := by
            have z : PM.W (pars rs) (((0 : Nat) : Int) - 1) = [] := PM.W_neg _ (by decide)
            rw [z] at oS
            exact oS
          have t0 : ts.length = 0 := oS0.len
          by_cases p1 : p = -1
          · subst p1
            rw [decide_eq_true rfl, decide_eq_true (show ((0 : Nat) : Int) = 0 from rfl)]
            refine iteF ⟨.ref ol, rfl, Nat.zero_le _, fun l nl => ?_⟩
            have S' := same_new (o := .lst []) nl
            refine ⟨ol, l, _, rfl, rfl, .of (S' _ _ eol), .of upd_same, .int ((0 : Nat) : Int), rfl, rfl, rfl, _, rfl, ?_⟩
            rw [ne_bl, int_dec, List.length_map, decide_eq_true t0, decide_eq_true (show ((0 : Nat) : Int) = 0 from rfl)]
            refine iteF (go _ S' ?_ (PM.pre_one pp))
            rw [PM.W_neg _ (by decide)]
            exact oS0
          · rw [decide_eq_false p1, decide_eq_true (show ((0 : Nat) : Int) = 0 from rfl)]
            refine iteT (iteT (no' G S1 fun z => p1 ?_))
            have y := z.1.zero
            rw [pp] at y
            exact Option.some.inj y
        · have pre := pre (by omega)
          have wd := PM.W_dropT pre (by omega) p (a := (i : Int) - 1) (by omega)
          have nn : ¬ (((i : Nat) : Int) = 0) := by omega
          have out : p ∉ PM.W (pars rs) ((i : Int) - 1) → ¬ (PM.Pre (pars rs) ∧ Vis rs) := fun m z => by
            obtain ⟨j, rfl⟩ : ∃ j, i = j + 1 := ⟨i - 1, by omega⟩
            exact m (z.1.step pp)
          by_cases m : p ∈ PM.W (pars rs) ((i : Int) - 1)
          · have b := PM.W_bdT pre (by omega) (by omega) m
            rw [wd, if_pos m] at oS
            have ln := oS.len
            have pos : 0 < (PM.W (pars rs) p).length := by
              obtain ⟨k, rfl⟩ : ∃ k : Nat, p = (k : Int) := ⟨p.toNat, by omega⟩
              rw [(PM.W_last pre (by omega) (show k < i by omega)).1]
              exact Nat.succ_pos _
            rw [decide_eq_false (p := p = -1) (by omega), decide_eq_false nn]
            refine iteF ⟨.ref ol, rfl, Nat.zero_le _, fun l nl => ?_⟩
            have S' := same_new (o := .lst []) nl
            refine ⟨ol, l, _, rfl, rfl, .of (S' _ _ eol), .of upd_same, .int (i : Int), rfl, rfl, rfl, _, rfl, ?_⟩
            rw [ne_bl, int_dec, List.length_map, decide_eq_false (p := ts.length = 0) (by omega), decide_eq_false nn]
            exact iteF (go _ S' oS (PM.pre_next pre pp m))
          · rw [wd, if_neg m] at oS
            have t0 : ts.length = 0 := oS.len
            rw [decide_eq_false nn]
            cases decide (p = -1) with
            | true => exact iteT (iteT (no' G S1 (out m)))
            | false =>
              refine iteF ⟨.ref ol, rfl, Nat.zero_le _, fun l nl => ?_⟩
              have S' := same_new (o := .lst []) nl
              refine ⟨ol, l, _, rfl, rfl, .of (S' _ _ eol), .of upd_same, .int (i : Int), rfl, rfl, rfl, _, rfl, ?_⟩
              rw [ne_bl, int_dec, List.length_map, decide_eq_true t0, decide_eq_false nn]
              exact iteT (no' _ (S1.trans S') (out m))
      -- the test of the parts
      have hd0 := hd
      refine ⟨v, rfl, v, pd rs, rfl, hd, _, rfl, ?_⟩
      rw [show isT (pd rs) "tuple" = true by simp [isT, tyD, pd]]
      obtain ⟨a, xs, rfl, qa, dx, lx⟩ := prog_at hd
      refine iteF ⟨.ref a, rfl, a, xs, rfl, .inr qa, 0, (xs.length : Int), rfl, rfl, _, rfl, ?_⟩
      rw [decide_eq_true (p := (0 : Int) < (xs.length : Int)) (by omega)]
      refine iteT ⟨_, 41, rfl, rfl, _, rfl, ?_⟩
      rw [decide_eq_true (p := (xs.length : Int) < 41) (by omega)]
      refine iteF ⟨.ref a, rfl, a, rfl, ⟨xs, qa⟩, fun D nD => ?_⟩
      have okr : ∀ r ∈ rs, okD 80 (rowD r) := fun r hr' => okA_iff.mp hok.2 _ (List.mem_map.mpr ⟨r, hr', rfl⟩)
      have wtr : ∀ r ∈ rs, wt (rowD r) ≤ 200000 := fun r hr' => by
        have z := wt_mem (List.mem_map.mpr ⟨r, hr', rfl⟩ : rowD r ∈ rs.map rowD)
        have y : wtA (rs.map rowD) + 1 ≤ 200000 := hw
        omega
      refine lc_tup (K := K) (a := a) (xs := xs) (fun i H' => Same H H' ∧ H' D = some (.lst ((List.replicate i true).map V.bl))) ⟨same_new nD, upd_same⟩ (fun i H' _ ⟨s', _⟩ => s'.sqT qa) ?_ ?_
      · rintro i x H' hx ⟨S, e⟩
        have hi : i < rs.length := by
          rw [← lx]
          exact (List.getElem?_eq_some_iff.mp hx).1
        obtain ⟨y, hy, hdy⟩ := dtsGet dx (i := i) (d := rowD rs[i]) (by rw [List.getElem?_map, List.getElem?_eq_getElem hi]; rfl)
        rw [hx] at hy
        cases hy
        have rm := List.getElem_mem hi
        refine ⟨rfl, x, rfl, x, rowD rs[i], rfl, Dt.same S _ _ hdy, wtr _ rm, okr _ rm, fun H2 S2 => ⟨_, S2 _ _ e, ?_, fun b o z => ?_, ?_⟩⟩
        · rw [List.length_map, List.length_replicate]
          exact small1000 (by omega)
        · rw [upd_ne (ne_of_none z nD)]
          exact S2 _ _ (S _ _ z)
        · rw [upd_same, List.replicate_succ', List.map_append, hpart _ rm]
          rfl
      rintro H0 ⟨S0, e0⟩
      refine ⟨D, _, rfl, .of e0, _, rfl, ?_⟩
      rw [show (List.replicate xs.length true).all id = true by rw [List.all_eq_true]; exact fun b hb => (List.mem_replicate.mp hb).2]
      refine iteF ⟨Nat.zero_le _, fun ol nol => ⟨_, _, rfl, ?_⟩⟩
      have S1 : Same H0 (L2.upd H0 ol (.lst [])) := same_new nol
      have e1 := upd_same (H := H0) (a := ol) (o := .lst ([] : List V))
      generalize L2.upd H0 ol (.lst []) = H1 at S1 e1 ⊢
      refine ⟨.ref a, rfl, a, xs, rfl, (S0.trans S1).sqT qa, ?_⟩
      have nn : ∀ c ∈ cnts rs, 0 ≤ c := fun c hc => by
        obtain ⟨r, hr', rfl⟩ := List.mem_map.mp hc
        exact (part_row.mp (hpart r hr')).2.1
      have no' : ∀ H', Same H0 H' → ¬ (PM.Pre (pars rs) ∧ Vis rs) → Q (.bl false) H' := fun H' S' np => no H' (S0.trans S') fun ⟨ss, e, gd⟩ => np (by
        cases pd_inj (rs := rs) e
        exact ⟨gd.pre, gd.vis⟩)
      refine for_enumT (K := K) (a := a) (xs := xs) (fun i σ H' => ∃ (y3 y4 y5 y6 y7 : Option V) (ts : List Addr), σ = [some (.ref a), some (.int ((cnts rs).take i).sum), some (.ref ol), y3, y4, y5, y6, y7, none, none, none, none] ∧ Same H0 H' ∧ H' ol = some (.lst (ts.map V.ref)) ∧
          OnSt H' (cnts rs) ts (PM.W (pars rs) ((i : Int) - 1)) ∧ (0 < i → PM.Pre ((pars rs).take i)) ∧ ∀ (j : Nat) (r : PRow), j < i → rs[j]? = some r → ∀ u ∈ r.2.2, PM.Sees (pars rs) (cnts rs) j u)
        ⟨_, _, _, _, _, [], rfl, S1, e1, ?_, fun z => absurd z (by decide), fun j r hj => absurd hj (Nat.not_lt_zero _)⟩ (fun i σ H' ⟨_, _, _, _, _, _, _, S', _⟩ => (S0.trans S').sqT qa) ?_ ?_
      · rw [PM.W_neg _ (by decide)]
        exact .nil
      · rintro i x tp σ H2 hx ⟨y3, y4, y5, y6, y7, ts, rfl, S2, e2, oS, pre, seen⟩ ntp
        have hi : i < rs.length := by
          rw [← lx]
          exact (List.getElem?_eq_some_iff.mp hx).1
        have hri : rs[i]? = some rs[i] := List.getElem?_eq_getElem hi
        have S3 := same_new (o := .tup [.int (i : Nat), x]) ntp
        obtain ⟨b, u, hb, qb, du⟩ := row_at (Dts.same (S0.trans (S2.trans S3)) _ _ dx) hri
        rw [hx] at hb
        cases hb
        obtain ⟨ua, rfl, qu⟩ := uses_at du
        have et := upd_same (H := H2) (a := tp) (o := .tup [.int (i : Nat), .ref b])
        have S03 := S2.trans S3
        have e3 := S3 _ _ e2
        have oS3 := oS.same S3
        generalize L2.upd H2 tp (.tup [.int (i : Nat), .ref b]) = H3 at S3 et qb qu S03 e3 oS3 ⊢
        have ul : (rs[i].2.2.length : Int) + 20 ≤ 80 := by
          have z := (okr _ (List.getElem_mem hi)).2.2.2.1.1
          rw [List.length_map] at z
          exact z
        have nxt : Nxt rs a ol H0 i rs[i].2.2 (fun σ H' => ∃ (y3 y4 y5 y6 y7 : Option V) (ts : List Addr), σ = [some (.ref a), some (.int ((cnts rs).take (i + 1)).sum), some (.ref ol), y3, y4, y5, y6, y7, none, none, none, none] ∧ Same H0 H' ∧ H' ol = some (.lst (ts.map V.ref)) ∧
            OnSt H' (cnts rs) ts (PM.W (pars rs) (((i + 1 : Nat) : Int) - 1)) ∧ (0 < i + 1 → PM.Pre ((pars rs).take (i + 1))) ∧ ∀ (j : Nat) (r : PRow), j < i + 1 → rs[j]? = some r → ∀ u ∈ r.2.2, PM.Sees (pars rs) (cnts rs) j u) := by
          rintro σ' H' ⟨z3, z4, z5, z6, z7, ts', e, S', e', o', pr, sn⟩
          refine ⟨z3, z4, z5, z6, z7, ts', e, S', e', ?_, fun _ => pr, fun j r hj hr' => ?_⟩
          · rw [show (((i + 1 : Nat) : Int) - 1) = (i : Int) by omega]
            exact o'
          · by_cases c : j = i
            · subst c
              rw [hri] at hr'
              rw [← Option.some.inj hr']
              exact sn
            · exact seen j r (by omega) hr'
        refine ⟨tp, _, rfl, .of et, rfl, .int (i : Nat), _, rfl, .ref b, [], rfl, b, _, rfl, qb, rfl, .int rs[i].1, _, rfl, .int rs[i].2.1, _, rfl, .ref ua, [], rfl, rfl, rfl, ?_⟩
        refine ⟨fun m σ G => ∃ (M : List Int) (ts' : List Addr), M.length = m ∧ σ = [some (.ref a), some (.int ((cnts rs).take i).sum), some (.ref ol), some (.int (i : Nat)), some (.int rs[i].1), some (.int rs[i].2.1), some (.ref ua), y7, none, none, none, none] ∧ SameX ol H3 G ∧ Same H0 G ∧
            G ol = some (.lst (ts'.map V.ref)) ∧ OnSt G (cnts rs) ts' M ∧ M.dropWhile (fun x => decide (x ≠ rs[i].1)) = (PM.W (pars rs) ((i : Int) - 1)).dropWhile (fun x => decide (x ≠ rs[i].1)),
          ⟨_, PM.W (pars rs) ((i : Int) - 1), ts, rfl, rfl, .of (Same.refl _), S03, e3, oS3, rfl⟩, ?_⟩
        rintro m σ G ⟨M, ts', rfl, rfl, X, SG, eG, oG, dw⟩
        refine ⟨.ref ol, rfl, Nat.zero_le _, fun l nl => ?_⟩
        have S5 := same_new (o := .lst []) nl
        have e5 := S5 _ _ eG
        have oG5 := oG.same S5
        have SG5 := SG.trans S5
        have X5 : SameX ol H3 (L2.upd G l (.lst [])) := X.trans (.of S5)
        have ee := upd_same (H := G) (a := l) (o := .lst ([] : List V))
        generalize L2.upd G l (.lst []) = G5 at S5 e5 oG5 SG5 X5 ee ⊢
        refine ⟨ol, l, _, rfl, rfl, .of e5, .of ee, _, rfl, ?_⟩
        rw [List.length_map]
        cases M with
        | nil =>
          have t0 : ts'.length = 0 := oG.len
          rw [decide_eq_true t0]
          exact iteF (iteF ⟨a, ol, ua, i, rs[i].1, rs[i].2.1, rs[i].2.2, y7, ts', H0, rfl, hri, by omega, by omega, sqT_keep e3 X5 qu, SG5, nol, e5, by rw [← dw]; exact oG5, pre, no', nxt⟩)
        | cons x M' =>
          obtain ⟨ts2, t, rfl, o2, et2⟩ := oG5.pop
          rw [decide_eq_false (p := (ts2 ++ [t]).length = 0) (by rw [List.length_append, List.length_singleton]; omega)]
          have last : atI ((ts2 ++ [t]).map V.ref) (-1) = some (.ref t) := by
            rw [List.map_append]
            exact atI_last _ _
          refine iteT ⟨.ref ol, rfl, 1, rfl, ol, _, -1, .ref t, rfl, rfl, .of e5, last, t, _, 0, .int x, rfl, rfl, .of et2, rfl, .int rs[i].1, rfl, rfl, _, rfl, ?_⟩
          rw [int_dec]
          by_cases xp : x = rs[i].1
          · rw [decide_eq_true xp]
            refine iteF ⟨a, ol, ua, i, rs[i].1, rs[i].2.1, rs[i].2.2, y7, ts2 ++ [t], H0, rfl, hri, by omega, by omega, sqT_keep e3 X5 qu, SG5, nol, e5, ?_, pre, no', nxt⟩
            rw [← dw, List.dropWhile_cons_of_neg (by simp [xp])]
            exact oG5
          · rw [decide_eq_false xp]
            rw [List.dropWhile_cons_of_pos (by simp [xp])] at dw
            refine iteT ⟨fun σ' G' => ∃ (M2 : List Int) (ts3 : List Addr), M2.length < (x :: M').length ∧ σ' = [some (.ref a), some (.int ((cnts rs).take i).sum), some (.ref ol), some (.int (i : Nat)), some (.int rs[i].1), some (.int rs[i].2.1), some (.ref ua), y7, none, none, none, none] ∧ SameX ol H3 G' ∧ Same H0 G' ∧
                G' ol = some (.lst (ts3.map V.ref)) ∧ OnSt G' (cnts rs) ts3 M2 ∧ M2.dropWhile (fun x => decide (x ≠ rs[i].1)) = (PM.W (pars rs) ((i : Int) - 1)).dropWhile (fun x => decide (x ≠ rs[i].1)),
              fun σ' G' ⟨M2, ts3, h, r1, r2, r3, r4, r5, r6⟩ => ⟨M2.length, h, M2, ts3, rfl, r1, r2, r3, r4, r5, r6⟩, ?_⟩
            refine ⟨.ref ol, rfl, .inl ⟨rfl, _, .of e5⟩, ol, _, .ref t, rfl, rfl, e5, ?_, M', ts2, Nat.lt_succ_self _, rfl, X5.trans .upd, fun b o z => ?_, ?_, o2.keep e5 .upd, dw⟩
            · rw [List.map_append, List.length_append]
              show (ts2.map V.ref ++ [V.ref t])[(ts2.map V.ref).length + 1 - 1]? = _
              rw [Nat.add_sub_cancel, List.getElem?_append_right (Nat.le_refl _), Nat.sub_self]
              rfl
            · rw [upd_ne (ne_of_none z nol)]
              exact SG5 _ _ z
            · rw [upd_same, List.map_append]
              show some (HO.lst (ts2.map V.ref ++ [V.ref t]).dropLast) = _
              rw [List.dropLast_concat]
      · rintro σ H2 ⟨y3, y4, y5, y6, y7, ts, rfl, S2, e2, oS, pre, seen⟩
        have hpl : (pars rs).length = rs.length := by rw [List.length_map]
        have pre := pre (by omega)
        rw [lx, ← hpl, List.take_length] at pre
        rw [lx] at seen
        have vis : Vis rs := fun i r hr' => seen i r (List.getElem?_eq_some_iff.mp hr').1 hr'
        rw [lx, show (cnts rs).take rs.length = cnts rs by rw [show rs.length = (cnts rs).length by rw [List.length_map], List.take_length]]
        refine ⟨_, rfl, (cnts rs).sum, 61, rfl, rfl, ?_⟩
        have z := q H2 (S0.trans S2)
        unfold progD at z
        show Q (.bl (decide ((cnts rs).sum < 61))) H2
        by_cases c : (cnts rs).sum < 61
        · rw [PM.bo_true ⟨rs, rfl, ⟨h0, hl, nn, fun r hr' => (part_row.mp (hpart r hr')).2.2.2, by show (cnts rs).sum ≤ 60; omega, pre, vis⟩⟩] at z
          rw [decide_eq_true c]
          exact z
        · rw [PM.bo_false fun ⟨ss, e, gd⟩ => by
            cases pd_inj (rs := rs) e
            have t : (cnts rs).sum ≤ 60 := gd.tot
            omega] at z
          rw [decide_eq_false c]
          exact z
    · have nip : ¬ IsProg d := fun ⟨rs, e, gd⟩ => ht ⟨rs, e, gd.len, gd.pos, fun r hr' => by
        obtain ⟨i, hi, er⟩ := List.mem_iff_getElem.mp hr'
        have hri : rs[i]? = some r := by rw [List.getElem?_eq_getElem hi, er]
        have lw := gd.pre.low i r.1 (by rw [List.getElem?_map, hri]; rfl)
        exact part_row.mpr ⟨lw.1, gd.nn _ (List.mem_map.mpr ⟨r, hr', rfl⟩), fun u hu => (PM.sees_bd gd.nn (gd.vis i r hri u hu)).1, gd.asc r hr'⟩⟩
      refine ⟨_, PSs.nox (pss_cons (ps_if (PW.pt (pw_or (pt_not (pt_val (pe_callB (call_isD (T := "tuple") (by decide)) (by rfl) T.ms (by decide +kernel) (pa_cons (pv 0) (pa_cons (pe_bltn (v := .ty "tuple") (by rfl) T.mtu (by decide +kernel) rfl) pa_nil))))) (pw_or (pt_not (pt_chain op_lt op_lt pe_int (pe_callB call_len_seq (by rfl) T.ml PySem.boot_len (pa_cons (pv 0) pa_nil)) pe_int)) (pw_or1 (pt_not (pt_val (pe_callB (cr_all rfl) (by rfl) T.mal (by decide +kernel) (pa_cons (pe_lc (own := [("_law_part", 8)]) (g := gName 8) (tt := tYes) (te := tCall (spDatB K partD) [] E0 (tCons (tVar 8) tNil)) rfl nd (pi_tup (pv 0)) (blkOk_by (N := dueN) (sc := defScope s_law_due) (by decide +kernel)) (fun _ _ _ _ _ => pg_name (i := 8) nd rfl (Or.inl rfl)) (fun _ _ _ _ _ => pts_nil) (fun _ _ _ _ _ => (pe_call GP hr (by rfl) T.gPt T.FPt.kp bP .nil pass0 (pa_cons (pv 8) pa_nil)))) pa_nil)))))))) (pss_one (ps_ret pe_bl)) pss_nil)
      (pss_cons (ps_par (i := 1) (j := 2) (by rfl) nd rfl rfl (by decide) rfl rfl (pa_cons pe_int (pa_cons (pe_lst pa_nil) pa_nil)) (by rfl))
      (pss_cons (ps_for PassesOwn.never rfl (pi_enumT (by rfl) T.me (pa_cons (pv 0) pa_nil)) (pg_tup rfl (pgs_cons (pg_name (i := 3) nd rfl (.inl rfl)) (pgs_cons (pg_tup rfl (pgs_cons (pg_name (i := 4) nd rfl (.inl rfl)) (pgs_cons (pg_name (i := 5) nd rfl (.inl rfl)) (pgs_cons (pg_name (i := 6) nd rfl (.inl rfl)) pgs_nil)))) pgs_nil))) (pss_cons (ps_while PassesOwn.never (PW.pt (pw_and (pt_cmpR (op_neL0 (Nat.lt_of_le_of_lt (Nat.le_add_right _ 64) hr.units)) (pv 2) (pe_lst pa_nil) (nomark _)) (pw_and1 (pt_cmpR op_ne (pe_ix ix_tup (pe_ix ix_list (pv 2) (pe_un un_neg pe_int) (fun _ _ => rfl)) pe_int (fun _ _ => rfl)) (pv 4) (nomark _))))) (pss_one (ps_expr (pe_bm0 PySem.F.plainAttrs_list PySem.F.slot_list_pop PySem.F.type_list_pop mt_pop (pv 2)))))
      ( (pss_cons (ps_if (PW.pt (pw_or (pt_cmpR op_ne (pe_cmpR op_eq (pv 4) (pe_un un_neg pe_int) (nomark _)) (pe_cmpR op_eq (pv 3) pe_int (nomark _)) (nomark _)) (pw_or1 (pt_cmpR op_ne (pe_cmpR (op_eqL0 (Nat.lt_of_le_of_lt (Nat.le_add_right _ 64) hr.units)) (pv 2) (pe_lst pa_nil) (nomark _)) (pe_cmpR op_eq (pv 3) pe_int (nomark _)) (nomark _))))) (pss_one (ps_ret pe_bl)) pss_nil)
      ( (pss_cons (ps_expr (pe_bm PySem.F.plainAttrs_list PySem.F.slot_list_append PySem.F.type_list_append mt_append (pv 2) (pa_cons (pe_tup (pa_cons (pv 3) (pa_cons (pv 1) (pa_cons (pe_op op_add (pv 1) (pv 5)) pa_nil)))) pa_nil)))
      (pss_cons (ps_set (i := 1) nd rfl (.inl rfl) (pe_op op_add (pv 1) (pv 5)))
      (pss_one (ps_for PassesOwn.never rfl (pi_tup (pv 6)) (pg_name (i := 7) nd rfl (.inr rfl)) (pss_one (ps_if (pt_not (pt_val (pe_callB (cr_any rfl) (by rfl) T.may (by decide +kernel) (pa_cons (pe_lc (own := [("_law_at", 9), ("_law_low", 10), ("_law_high", 11)]) (g := gTup K 3 (gCons (gName 9) (gCons (gName 10) (gCons (gName 11) gNil)))) (tt := tYes) (te := tChain (rI0 fun i j => .bl (decide (i ≤ j))) (rI0 fun i j => .bl (decide (i < j))) (tVar 10) (tVar 7) (tVar 11)) rfl nd (pi_list (pv 2)) (blkOk_by (N := dueN) (sc := defScope s_law_due) (by decide +kernel)) (fun _ _ _ _ _ => pg_tup rfl (pgs_cons (pg_name (i := 9) nd rfl (Or.inl rfl)) (pgs_cons (pg_name (i := 10) nd rfl (Or.inl rfl)) (pgs_cons (pg_name (i := 11) nd rfl (Or.inl rfl)) pgs_nil)))) (fun _ _ _ _ _ => pts_nil) (fun _ _ _ _ _ => pe_chain op_le op_lt (pv 10) (pv 7) (pv 11))) pa_nil)))) (pss_one (ps_ret pe_bl)) pss_nil)))))))))))
      (pss_one (ps_ret (pe_cmpR op_lt (pv 1) pe_int (nomark _))))))), ?_⟩
      refine ⟨v, rfl, v, d, rfl, hd, _, rfl, ?_⟩
      cases hs : isT d "tuple" with
      | false => exact iteT (iteT (no H (Same.refl H) nip))
      | true =>
        obtain ⟨ds, rfl⟩ := is_tup hs
        have hd' := hd
        unfold Dt at hd'
        obtain ⟨a, xs, rfl, qa, dx⟩ := hd'
        have lx := dtsLen dx
        refine iteF ⟨.ref a, rfl, a, xs, rfl, .inr qa, 0, (xs.length : Int), rfl, rfl, _, rfl, ite2 (fun c => ⟨_, 41, rfl, rfl, _, rfl, ?_⟩) (fun c => ⟨false, rfl, iteT (iteT (no H (Same.refl H) nip))⟩)⟩
        have c : (0 : Int) < (xs.length : Int) := of_decide_eq_true c
        by_cases c2 : (xs.length : Int) < 41
        · rw [decide_eq_true c2]
          refine iteF ⟨.ref a, rfl, a, rfl, ⟨xs, qa⟩, fun D nD => ?_⟩
          have okA' : okA 80 ds := hok.2
          have wA : wtA ds + 1 ≤ 200000 := hw
          refine lc_tup (K := K) (a := a) (xs := xs) (fun i H' => Same H H' ∧ H' D = some (.lst (((ds.take i).map partD).map V.bl))) ⟨same_new nD, upd_same⟩ (fun i H' _ ⟨s', _⟩ => s'.sqT qa) ?_ ?_
          · rintro i x H' hx ⟨S, e⟩
            have hi : i < ds.length := by
              rw [← lx]
              exact (List.getElem?_eq_some_iff.mp hx).1
            obtain ⟨y, hy, hdy⟩ := dtsGet dx (List.getElem?_eq_getElem hi)
            rw [hx] at hy
            cases hy
            have wm := wt_mem (List.getElem_mem hi)
            refine ⟨rfl, x, rfl, x, ds[i], rfl, Dt.same S _ _ hdy, by omega, okA_iff.mp okA' _ (List.getElem_mem hi), fun H2 S2 => ⟨_, S2 _ _ e, ?_, fun b o z => ?_, ?_⟩⟩
            · rw [List.length_map, List.length_map, List.length_take]
              exact Nat.lt_of_le_of_lt (Nat.min_le_right _ _) (small1000 (by omega))
            · rw [upd_ne (ne_of_none z nD)]
              exact S2 _ _ (S _ _ z)
            · rw [upd_same, List.take_add_one, List.getElem?_eq_getElem hi, List.map_append, List.map_append]
              rfl
          · rintro H1 ⟨S1, e1⟩
            rw [lx, List.take_length] at e1
            refine ⟨D, _, rfl, .of e1, _, rfl, ?_⟩
            rw [all_map]
            cases hall : ds.all partD with
            | false => exact iteT (no H1 S1 nip)
            | true =>
              obtain ⟨rs, rfl⟩ := rows_of fun d hd => part_is (List.all_eq_true.mp hall d hd)
              rw [List.length_map] at lx
              exact absurd ⟨rs, rfl, by omega, by omega, fun r hr' => List.all_eq_true.mp hall _ (List.mem_map.mpr ⟨r, hr', rfl⟩)⟩ ht
        · rw [decide_eq_false c2]
          exact iteT (iteT (no H (Same.refl H) nip))
abbrev rightN : List Str := ["_law_item", "_law_held"]
theorem scRight : FnScope rightN ["_law_item"] (defScope s_law_right) := ⟨rfl, rfl, rfl, by decide +kernel, rfl, by decide +kernel, by decide +kernel⟩
def spRight (K : PySem.W.Frag) : Sp := fun vs H Q _ => ∃ (v : V) (d : PyData), vs = [v] ∧ Dt K H d v ∧ Bd d 100000 50 80 ∧ ∀ H', Same H H' → Q (.bl true) H'
theorem ok_right {f fW fN fI fF fA fC fO fV fK fE fH fM fPt fD : Addr} {fd fdW fdN fdI fdF fdA fdC fdO fdV fdK fdE fdH fdM fdPt fdD : FuncData} (T : TxtN K mg fW fN fdW fdN) (U : TxtP K mg fF fA fC fO fV fK fE fH fdF fdA fdC fdO fdV fdK fdE fdH) (TD : TxtD K mg fM fPt fdM fdPt)
    (F : FnP K "_law_right" s_law_right f fd) (FI : FnP K "is_program" s_is_program fI fdI) (gI : mg "is_program" = some (.ref fI)) (FD : FnP K "_law_due" s_law_due fD fdD) (gD : mg "_law_due" = some (.ref fD)) (mp : mg "repr" = none) (hsy : SysK K) :
    FnG P w K mg base CX0 7 f fd ["_law_item"] (spRight K) := by
  have GI : FnOk P w K mg base CX0 6 fI fdI ["value"] (spDat K progD) := ok_isP T U FI
  have GD : FnOk P w K mg base CX0 3 fD fdD ["_law_item"] (spDatB K progD) := ok_due TD FD
  have bI : Binds K fdI ["value"] [] := FI.bindsN fun _ _ _ _ _ _ us hl => match us, hl with | [_], _ => rfl
  have bD : Binds K fdD ["_law_item"] [] := FD.bindsN fun _ _ _ _ _ _ us hl => match us, hl with | [_], _ => rfl
  refine F.okG scRight (fun vs H Q E h => ?_) (fun cdv A outer s H vs Q E hr hgd h => ?_)
  · obtain ⟨v, d, rfl, _⟩ := h
    rfl
  · obtain ⟨v, d, rfl, hd, bd, q⟩ := h
    have nd := scRight.nd
    have hr3 : Room 3 _ := hr.mono (by decide)
    have ft := bd.fit (by decide)
    have hw := bd.w
    have bf := Fit.bool (progD d)
    refine ⟨_, PSs.nox (pss_cons (ps_set (i := 1) nd rfl (.inl rfl) (pe_callB (call_reprD hsy hgd hr.units) (by rfl) mp (by decide +kernel) (pa_cons (pv 0) pa_nil)))
      (pss_one (ps_ret (pe_and (pe_cmpR op_eq (pe_callB (call_reprD hsy hgd hr.units) (by rfl) mp (by decide +kernel) (pa_cons (pe_call GI hr (by rfl) gI FI.kp bI .nil pass0 (pa_cons (pv 0) pa_nil)) pa_nil)) (pe_callB (call_reprD hsy hgd hr.units) (by rfl) mp (by decide +kernel) (pa_cons (pe_call GD hr3 (by rfl) gD FD.kp bD .nil pass0 (pa_cons (pv 0) pa_nil)) pa_nil)) (nomark _)) (pe_one (pe_cmpR op_eq (pe_callB (call_reprD hsy hgd hr.units) (by rfl) mp (by decide +kernel) (pa_cons (pv 0) pa_nil)) (pv 1) (nomark _))))))), ?_⟩
    refine ⟨v, rfl, v, d, rfl, hd, ft.sh, ft.d60, ft.sz, ?_⟩
    refine ⟨v, rfl, v, d, rfl, hd, by omega, fun H1 S1 => ?_⟩
    refine ⟨_, .bool (progD d), rfl, dt_bl _, bf.sh, bf.d60, bf.sz, ?_⟩
    refine ⟨v, rfl, v, d, rfl, Dt.same S1 _ _ hd, by omega, bd.ok, fun H2 S2 => ?_⟩
    refine ⟨_, .bool (progD d), rfl, dt_bl _, bf.sh, bf.d60, bf.sz, rfl, true, ?_, iteT ?_⟩
    · rw [decide_eq_true rfl]
    · have S12 := S1.trans S2
      refine ⟨v, rfl, v, d, rfl, Dt.same S12 _ _ hd, ft.sh, ft.d60, ft.sz, _, rfl, rfl, ?_⟩
      rw [decide_eq_true rfl]
      exact q _ S12
end
end K01
set_option Elab.async false
set_option linter.all false
set_option maxRecDepth 100000
set_option maxHeartbeats 1000000
namespace K01
open PySem PySem.Spec PyProof.Rows L2
/-! ### the law -/
theorem tCons_ap (t : TE) (u : TA) (σ : L2.St) (H : Hp) (Q : List V → Hp → Prop) : tCons t u σ H Q = t σ H fun x H1 => u σ H1 fun xs H2 => Q (x :: xs) H2 := rfl
theorem set_op {r : R2} {ta tb : TE} {g : TG} {u : TS} {D : Ends} {σ : L2.St} {H : Hp} (h : ta σ H fun x H1 => tb σ H1 fun y H2 => r x y H2 fun v H3 => g v σ H3 (u D)) : tSeq (tAsg (tOp r ta tb) g) u D σ H := h
theorem pd_keep {K : PySem.W.Frag} {H H' : Hp} {D : Addr} {ys : List V} (hD : H D = some (.lst ys)) (sx : SameX D H H') {rs : List PRow} {v : V} (h : Dt K H (pd rs) v) : Dt K H' (pd rs) v := by
  unfold pd Dt at h ⊢
  obtain ⟨g, xs, e, q, d⟩ := h
  exact ⟨g, xs, e, sqT_keep hD sx q, rows_keep hD sx rs xs d⟩
theorem offX {p : Addr} {H : Hp} : SameX p H (off p H) := fun b o n e => by
  rw [off_ne n]
  exact e
theorem good_of {rs : List PRow} (wf : PWf rs) (uw : UWf rs) (hl : (rs.length : Int) ≤ 40) (hc : (cnts rs).sum ≤ 60) : PM.Good rs := by
  refine ⟨by have := wf.pre.pos; rw [List.length_map] at this; exact this, by omega, wf.nn, fun r hr => ?_, hc, wf.pre, fun i r hri u hu => ?_⟩
  · obtain ⟨i, hi, e⟩ := List.mem_iff_getElem.mp hr
    exact (uw i r (by rw [List.getElem?_eq_getElem hi, e])).1
  · obtain ⟨_, _, h3⟩ := uw i r hri
    obtain ⟨u0, u1, m⟩ := h3 u hu
    obtain ⟨c, a1, a2, a3⟩ := PM.homeN_spec wf.nn u0 u1
    exact ⟨_, c, m, a1, a2, a3⟩
theorem wt_ints (l : List Int) : wtA (l.map PyData.int) = l.length := by
  induction l with
  | nil => rfl
  | cons x r ih =>
    show 1 + wtA (r.map PyData.int) = r.length + 1
    omega
theorem dep_ints (l : List Int) : PyData.depthAll (l.map PyData.int) = 0 := by
  have z := depAll (k := 0) (ds := l.map PyData.int) fun d hd => by
    obtain ⟨i, _, rfl⟩ := List.mem_map.mp hd
    exact Nat.le_refl _
  omega
theorem row_bd {r : PRow} (h1 : -1 ≤ r.1 ∧ r.1 ≤ 60) (h2 : 0 ≤ r.2.1 ∧ r.2.1 ≤ 60) (h3 : r.2.2.length ≤ 40) (h4 : ∀ u ∈ r.2.2, 0 ≤ u ∧ u ≤ 60) : Bd (rowD r) 44 2 61 := by
  refine ⟨⟨by show ((3 : Nat) : Int) + 20 ≤ 61; decide, ⟨by omega, by omega⟩, ⟨by omega, by omega⟩, ⟨by rw [List.length_map]; omega, okA_iff.mpr fun d hd => ?_⟩, trivial⟩, ?_, ?_⟩
  · obtain ⟨u, hu, rfl⟩ := List.mem_map.mp hd
    have := h4 u hu
    exact ⟨by omega, by omega⟩
  · show 1 + (1 + (wtA (r.2.2.map PyData.int) + 1 + 0)) + 1 ≤ 44
    rw [wt_ints]
    omega
  · show max 0 (max 0 (max (PyData.depthAll (r.2.2.map PyData.int) + 1) 0)) + 1 ≤ 2
    rw [dep_ints]
    omega
theorem rows_bd : ∀ {rs : List PRow}, (∀ r ∈ rs, Bd (rowD r) 44 2 61) → wtA (rs.map rowD) ≤ 44 * rs.length
  | [], _ => Nat.le_refl _
  | r :: rs, h => by
    have a := rows_bd (rs := rs) fun x hx => h x (List.mem_cons_of_mem _ hx)
    have b := (h r List.mem_cons_self).w
    show wt (rowD r) + wtA (rs.map rowD) ≤ 44 * (rs.length + 1)
    omega
theorem prog_bd {rs : List PRow} (wf : PWf rs) (uw : UWf rs) (hl : (rs.length : Int) ≤ 40) (hc : (cnts rs).sum ≤ 60) : Bd (pd rs) 2000 3 61 := by
  have rb : ∀ r ∈ rs, Bd (rowD r) 44 2 61 := fun r hr => by
    obtain ⟨i, hi, e⟩ := List.mem_iff_getElem.mp hr
    have hri : rs[i]? = some r := by rw [List.getElem?_eq_getElem hi, e]
    have lw := wf.pre.low i r.1 (by rw [List.getElem?_map, hri]; rfl)
    have cb := sum_at_le (l := cnts rs) (i := i) (c := r.2.1) wf.nn (by rw [List.getElem?_map, hri]; rfl)
    have c0 := wf.nn r.2.1 (List.mem_map.mpr ⟨r, hr, rfl⟩)
    obtain ⟨_, h2, h3⟩ := uw i r hri
    exact row_bd ⟨lw.1, by omega⟩ ⟨c0, by omega⟩ h2 fun u hu => by
      have := h3 u hu
      omega
  have w := rows_bd rb
  refine ⟨⟨by rw [List.length_map]; omega, okA_iff.mpr fun d hd => ?_⟩, ?_, ?_⟩
  · obtain ⟨r, hr, rfl⟩ := List.mem_map.mp hd
    exact (rb r hr).ok
  · show wtA (rs.map rowD) + 1 ≤ _
    omega
  · exact depAll_le fun d hd => by
      obtain ⟨r, hr, rfl⟩ := List.mem_map.mp hd
      exact (rb r hr).dp
def deepD : Nat → PyData
  | 0 => .tuple []
  | n + 1 => .tuple [deepD n]
def rowJ (j : Nat) : PyData := .tuple [.int (0 + (j : Int)), .int 0, .tuple []]
def row0 : PyData := .tuple [.int (-1), .int 0, .tuple []]
def chainD : List PyData := [row0] ++ (List.range 40).map rowJ
def some1a : List PyData := [.none, .bool true, .int 0, .str "", .tuple [], .list [], .dict [], deepD 28]
def some1b : List PyData := [.tuple [.tuple [.int (-1), .int 60, .tuple [.int 59]]], .tuple [.tuple [.int (-1), .int 61, .tuple []]], .tuple [.tuple [.int 0, .int 0, .tuple []]]]
def some1 : List PyData := [.none, .bool true, .int 0, .str "", .tuple [], .list [], .dict [], deepD 28, .tuple chainD, .tuple (L2.cutD chainD none (some 40)), .tuple [.tuple [.int (-1), .int 60, .tuple [.int 59]]], .tuple [.tuple [.int (-1), .int 61, .tuple []]], .tuple [.tuple [.int 0, .int 0, .tuple []]]]
def some2 : List PyData := [.tuple [.tuple [.int (-1), .int 1, .tuple []], .tuple [.int 0, .int 59, .tuple []]], .tuple [.tuple [.int (-1), .int 1, .tuple []], .tuple [.int 0, .int 60, .tuple []]], .tuple [.tuple [.int (-1), .int 0, .tuple []], .tuple [.int 0, .int 0, .tuple []], .tuple [.int 2, .int 0, .tuple []]]]
def some3 : List PyData := [.tuple [.tuple [.int (-1), .int 0, .tuple []], .tuple [.int 0, .int 0, .tuple []], .tuple [.int 0, .int 0, .tuple []], .tuple [.int 1, .int 0, .tuple []]], .tuple [.tuple [.int (-1), .int 0, .tuple []], .tuple [.int 0, .int 1, .tuple []], .tuple [.int 0, .int 0, .tuple [.int 0]]]]
def some4 : List PyData := [.tuple [.tuple [.int (-1), .int 1, .tuple []], .tuple [.int (-1), .int 0, .tuple []]], .tuple [.tuple [.int (-1), .int 0, .tuple [.int 0]], .tuple [.int 0, .int 1, .tuple []]], .tuple [.tuple [.int (-1), .int 2, .tuple [.int 1, .int 0]]], .tuple [.tuple [.int (-1), .int 1, .tuple [.int 0, .int 0]]]]
theorem chain_bd : Bd (.tuple chainD) 1000 5 80 := bd_all (l := [.tuple chainD]) (by decide +kernel) _ List.mem_cons_self
theorem some1_ok : ∀ d ∈ some1, Bd d 100000 50 80 := by
  intro d hd
  have e : some1 = some1a ++ [.tuple chainD, .tuple (L2.cutD chainD none (some 40))] ++ some1b := rfl
  rw [e] at hd
  rcases List.mem_append.mp hd with z | z
  · rcases List.mem_append.mp z with z | z
    · exact (bd_all (l := some1a) (W := 100) (k := 40) (b := 80) (by decide +kernel) d z).mono (by decide) (by decide) (by decide)
    · rcases List.mem_cons.mp z with z | z
      · rw [z]
        exact chain_bd.mono (by decide) (by decide) (by decide)
      · rw [List.mem_singleton.mp z]
        exact (chain_bd.cut _ _).mono (by decide) (by decide) (by decide)
  · exact (bd_all (l := some1b) (W := 100) (k := 40) (b := 80) (by decide +kernel) d z).mono (by decide) (by decide) (by decide)
theorem some2_ok : ∀ d ∈ some2, Bd d 100000 50 80 := fun d hd => (bd_all (l := some2) (W := 100) (k := 10) (b := 80) (by decide +kernel) d hd).mono (by decide) (by decide) (by decide)
theorem some3_ok : ∀ d ∈ some3, Bd d 100000 50 80 := fun d hd => (bd_all (l := some3) (W := 100) (k := 10) (b := 80) (by decide +kernel) d hd).mono (by decide) (by decide) (by decide)
theorem some4_ok : ∀ d ∈ some4, Bd d 100000 50 80 := fun d hd => (bd_all (l := some4) (W := 100) (k := 10) (b := 80) (by decide +kernel) d hd).mono (by decide) (by decide) (by decide)
abbrev lawN : List Str := ["_law_script", "_law_deep", "_law_turn", "_law_chain", "_law_some", "_law_k", "_law_hand_here", "_law_item", "_law_once", "_law_bent_here", "_law_nth"]
theorem scLaw : FnScope lawN ["_law_script"] (defScope slaw) := ⟨rfl, rfl, rfl, by decide +kernel, rfl, by decide +kernel, by decide +kernel⟩
def spLaw (K : PySem.W.Frag) : Sp := fun vs H Q _ => ∃ (a : Addr) (ns : List Int), vs = [.ref a] ∧ SqL K H a (ns.map V.int) ∧ ∀ H', Q (.bl true) H'
/-- from the drawn programs on -/
def tDrawn (K : PySem.W.Frag) : TS := fun D σ H => ∃ (a : Addr) (ns : List Int) (y1 y2 y3 y4 : Option V), σ = [some (.ref a), y1, y2, y3, y4, none, none, none, none, none, none] ∧ SqL K H a (ns.map V.int) ∧ ∀ H', D.rt (.bl true) H'
structure TxtL (K : PySem.W.Frag) (mg : Str → Option Value) (fHd fT fP fG fB fR fI : Addr) (fdHd fdT fdP fdG fdB fdR fdI : FuncData) : Prop where
  FHd : FnP K "_law_hand" s_law_hand fHd fdHd
  FT : FnP K "_law_take" s_law_take fT fdT
  FP : FnP K "_law_pick" s_law_pick fP fdP
  FG : FnP K "_law_program" s_law_program fG fdG
  FB : FnP K "_law_bent" s_law_bent fB fdB
  FR : FnP K "_law_right" s_law_right fR fdR
  FI : FnP K "is_program" s_is_program fI fdI
  gHd : mg "_law_hand" = some (.ref fHd)
  gT : mg "_law_take" = some (.ref fT)
  gP : mg "_law_pick" = some (.ref fP)
  gG : mg "_law_program" = some (.ref fG)
  gB : mg "_law_bent" = some (.ref fB)
  gR : mg "_law_right" = some (.ref fR)
  gI : mg "is_program" = some (.ref fI)
  ml : mg "len" = none
  mr : mg "range" = none
  mt : mg "tuple" = none
  mx : mg "max" = none
  mn : mg "min" = none
  ma : mg "abs" = none
  mi : mg "int" = none
  mli : mg "list" = none
  ms : mg "isinstance" = none
  mst : mg "str" = none
  mal : mg "all" = none
section
variable {P : Program} {w : World} {K : PySem.W.Frag} {mg : Str → Option Value} {base : Heap}
theorem ok_law {f fHd fT fP fG fB fR fI fH' fO' fW fN fF fA fC fO fV fK fE fH fM fPt fD : Addr} {fd fdHd fdT fdP fdG fdB fdR fdI fdH' fdO' fdW fdN fdF fdA fdC fdO fdV fdK fdE fdH fdM fdPt fdD : FuncData} (U : TxtL K mg fHd fT fP fG fB fR fI fdHd fdT fdP fdG fdB fdR fdI)
    (TG : TxtG K mg fT fP fH' fO' fdT fdP fdH' fdO') (TN : TxtN K mg fW fN fdW fdN) (TP : TxtP K mg fF fA fC fO fV fK fE fH fdF fdA fdC fdO fdV fdK fdE fdH) (TD : TxtD K mg fM fPt fdM fdPt) (F : FnP K "law" slaw f fd)
    (FD : FnP K "_law_due" s_law_due fD fdD) (gD : mg "_law_due" = some (.ref fD)) (mp : mg "repr" = none) (hsy : SysK K) : FnG P w K mg base CX0 11 f fd ["_law_script"] (spLaw K) := by
  have GR : FnG P w K mg base CX0 7 fR fdR ["_law_item"] (spRight K) := ok_right TN TP TD U.FR U.FI U.gI FD gD mp hsy
  have GI : FnOk P w K mg base CX0 6 fI fdI ["value"] (spDat K progD) := ok_isP TN TP U.FI
  have GHd : FnOk P w K mg base CX0 1 fHd fdHd ["_law_script", "_law_k"] (spHand K) := ok_hand U.FHd U.ml U.ma U.mi
  have GG : FnOk P w K mg base CX0 3 fG fdG ["_law_hand_here", "_law_most_scopes", "_law_most_declared", "_law_most_uses"] (spProg K) := ok_prog TG U.FG
  have GB : FnOk P w K mg base CX0 10 fB fdB ["_law_hand_here", "_law_item"] (spBent K 7) := ok_bent U.FB U.FT U.FP U.gB U.gT U.gP U.ml U.mli U.ms U.mt U.mst U.mi 7
  have bR : Binds K fdR ["_law_item"] [] := U.FR.bindsN fun _ _ _ _ _ _ us hl => match us, hl with | [_], _ => rfl
  have bI : Binds K fdI ["value"] [] := U.FI.bindsN fun _ _ _ _ _ _ us hl => match us, hl with | [_], _ => rfl
  have bHd : Binds K fdHd ["_law_script", "_law_k"] [] := U.FHd.bindsN fun _ _ _ _ _ _ us hl => match us, hl with | [_, _], _ => rfl
  have bG : Binds K fdG ["_law_hand_here", "_law_most_scopes", "_law_most_declared", "_law_most_uses"] [] := U.FG.bindsN fun _ _ _ _ _ _ us hl => match us, hl with | [_, _, _, _], _ => rfl
  have bB : Binds K fdB ["_law_hand_here", "_law_item"] [] := U.FB.bindsN fun _ _ _ _ _ _ us hl => match us, hl with | [_, _], _ => rfl
  refine F.okG scLaw (fun vs H Q E h => ?_) (fun cdv A outer s H vs Q E hr hgd h => ?_)
  · obtain ⟨a, ns, rfl, _⟩ := h
    rfl
  · obtain ⟨a, ns, rfl, hS, q⟩ := h
    have nd := scLaw.nd
    have hr1 : Room 1 _ := hr.mono (by decide)
    have hr3 : Room 3 _ := hr.mono (by decide)
    have hr6 : Room 6 _ := hr.mono (by decide)
    have hr7 : Room 7 _ := hr.mono (by decide)
    refine ⟨_, PSs.nox (pss_cons (ps_set (i := 1) nd rfl (.inl rfl) (pe_tup pa_nil))
      (pss_cons (ps_for PassesOwn.never rfl (pi_range1 (by rfl) U.mr (pa_cons pe_int pa_nil)) (pg_name (i := 2) nd rfl (.inl rfl)) (pss_one (ps_set (i := 1) nd rfl (.inl rfl) (pe_tup (pa_cons (pv 1) pa_nil)))))
      (pss_cons (ps_set (i := 3) nd rfl (.inl rfl) (pe_op op_catA (pe_tup (pa_cons (pe_tup (pa_cons (pe_un un_neg pe_int) (pa_cons pe_int (pa_cons (pe_tup pa_nil) pa_nil)))) pa_nil)) (pe_callTy call_tuple_of (by rfl) U.mt (by decide +kernel) (pa_cons (pe_lc (own := [("_law_nth", 10)]) (g := gName 10) (tt := tYes) (te := tTup (tCons (tVar 10) (tCons (tC (.int 0)) (tCons (tTup tNil) tNil)))) rfl nd (pi_range1 (by rfl) U.mr (pa_cons pe_int pa_nil)) (blkOk_by (N := lawN) (sc := defScope slaw) (by decide +kernel)) (fun _ _ _ _ _ => pg_name (i := 10) nd rfl (Or.inl rfl)) (fun _ _ _ _ _ => pts_nil) (fun _ _ _ _ _ => (pe_tup (pa_cons (pv 10) (pa_cons pe_int (pa_cons (pe_tup pa_nil) pa_nil)))))) pa_nil))))
      (pss_cons (ps_set (i := 4) nd rfl (.inl rfl) (pe_lst (pa_cons pe_non (pa_cons pe_bl (pa_cons pe_int (pa_cons pe_str (pa_cons (pe_tup pa_nil) (pa_cons (pe_lst pa_nil) (pa_cons pe_dnewK (pa_cons (pv 1) (pa_cons (pv 3) (pa_cons (pe_slice sl_tupA (pv 3) po_none (po_some pe_int)) (pa_cons (pe_tup (pa_cons (pe_tup (pa_cons (pe_un un_neg pe_int) (pa_cons pe_int (pa_cons (pe_tup (pa_cons pe_int pa_nil)) pa_nil)))) pa_nil)) (pa_cons (pe_tup (pa_cons (pe_tup (pa_cons (pe_un un_neg pe_int) (pa_cons pe_int (pa_cons (pe_tup pa_nil) pa_nil)))) pa_nil)) (pa_cons (pe_tup (pa_cons (pe_tup (pa_cons pe_int (pa_cons pe_int (pa_cons (pe_tup pa_nil) pa_nil)))) pa_nil)) pa_nil)))))))))))))))
      (pss_cons (ps_set (i := 4) nd rfl (.inl rfl) (pe_op op_cat (pv 4) (pe_lst (pa_cons (pe_tup (pa_cons (pe_tup (pa_cons (pe_un un_neg pe_int) (pa_cons pe_int (pa_cons (pe_tup pa_nil) pa_nil)))) (pa_cons (pe_tup (pa_cons pe_int (pa_cons pe_int (pa_cons (pe_tup pa_nil) pa_nil)))) pa_nil))) (pa_cons (pe_tup (pa_cons (pe_tup (pa_cons (pe_un un_neg pe_int) (pa_cons pe_int (pa_cons (pe_tup pa_nil) pa_nil)))) (pa_cons (pe_tup (pa_cons pe_int (pa_cons pe_int (pa_cons (pe_tup pa_nil) pa_nil)))) pa_nil))) (pa_cons (pe_tup (pa_cons (pe_tup (pa_cons (pe_un un_neg pe_int) (pa_cons pe_int (pa_cons (pe_tup pa_nil) pa_nil)))) (pa_cons (pe_tup (pa_cons pe_int (pa_cons pe_int (pa_cons (pe_tup pa_nil) pa_nil)))) (pa_cons (pe_tup (pa_cons pe_int (pa_cons pe_int (pa_cons (pe_tup pa_nil) pa_nil)))) pa_nil)))) pa_nil))))))
      (pss_cons (ps_set (i := 4) nd rfl (.inl rfl) (pe_op op_cat (pv 4) (pe_lst (pa_cons (pe_tup (pa_cons (pe_tup (pa_cons (pe_un un_neg pe_int) (pa_cons pe_int (pa_cons (pe_tup pa_nil) pa_nil)))) (pa_cons (pe_tup (pa_cons pe_int (pa_cons pe_int (pa_cons (pe_tup pa_nil) pa_nil)))) (pa_cons (pe_tup (pa_cons pe_int (pa_cons pe_int (pa_cons (pe_tup pa_nil) pa_nil)))) (pa_cons (pe_tup (pa_cons pe_int (pa_cons pe_int (pa_cons (pe_tup pa_nil) pa_nil)))) pa_nil))))) (pa_cons (pe_tup (pa_cons (pe_tup (pa_cons (pe_un un_neg pe_int) (pa_cons pe_int (pa_cons (pe_tup pa_nil) pa_nil)))) (pa_cons (pe_tup (pa_cons pe_int (pa_cons pe_int (pa_cons (pe_tup pa_nil) pa_nil)))) (pa_cons (pe_tup (pa_cons pe_int (pa_cons pe_int (pa_cons (pe_tup (pa_cons pe_int pa_nil)) pa_nil)))) pa_nil)))) pa_nil)))))
      (pss_cons (ps_set (i := 4) nd rfl (.inl rfl) (pe_op op_cat (pv 4) (pe_lst (pa_cons (pe_tup (pa_cons (pe_tup (pa_cons (pe_un un_neg pe_int) (pa_cons pe_int (pa_cons (pe_tup pa_nil) pa_nil)))) (pa_cons (pe_tup (pa_cons (pe_un un_neg pe_int) (pa_cons pe_int (pa_cons (pe_tup pa_nil) pa_nil)))) pa_nil))) (pa_cons (pe_tup (pa_cons (pe_tup (pa_cons (pe_un un_neg pe_int) (pa_cons pe_int (pa_cons (pe_tup (pa_cons pe_int pa_nil)) pa_nil)))) (pa_cons (pe_tup (pa_cons pe_int (pa_cons pe_int (pa_cons (pe_tup pa_nil) pa_nil)))) pa_nil))) (pa_cons (pe_tup (pa_cons (pe_tup (pa_cons (pe_un un_neg pe_int) (pa_cons pe_int (pa_cons (pe_tup (pa_cons pe_int (pa_cons pe_int pa_nil))) pa_nil)))) pa_nil)) (pa_cons (pe_tup (pa_cons (pe_tup (pa_cons (pe_un un_neg pe_int) (pa_cons pe_int (pa_cons (pe_tup (pa_cons pe_int (pa_cons pe_int pa_nil))) pa_nil)))) pa_nil)) pa_nil)))))))
      (pss_cons (ps_if (pt_not (pt_val (pe_callB (cr_all rfl) (by rfl) U.mal (by decide +kernel) (pa_cons (pe_lc (own := [("_law_item", 7)]) (g := gName 7) (tt := tYes) (te := tCall (spRight K) [] E0 (tCons (tVar 7) tNil)) rfl nd (pi_list (pv 4)) (blkOk_by (N := lawN) (sc := defScope slaw) (by decide +kernel)) (fun _ _ _ _ _ => pg_name (i := 7) nd rfl (Or.inl rfl)) (fun _ _ _ _ _ => pts_nil) (fun _ _ _ _ _ => (pe_callG GR hr7 hgd (by rfl) U.gR U.FR.kp bR pass0 (pa_cons (pv 7) pa_nil)))) pa_nil)))) (pss_one (ps_ret pe_bl)) pss_nil)
      (pssI (u := tDrawn K) (pss_cons (ps_for PassesOwn.never rfl (pi_range1 (by rfl) U.mr (pa_cons (pe_callB (call_max2 rfl) (by rfl) U.mx (by decide +kernel) (pa_cons pe_int (pa_cons (pe_callB (call_min2 rfl) (by rfl) U.mn (by decide +kernel) (pa_cons pe_int (pa_cons (pe_callB call_len_seq (by rfl) U.ml PySem.boot_len (pa_cons (pv 0) pa_nil)) pa_nil))) pa_nil))) pa_nil)) (pg_name (i := 5) nd rfl (.inl rfl)) (pss_cons (ps_set (i := 6) nd rfl (.inl rfl) (pe_call GHd hr1 (by rfl) U.gHd U.FHd.kp bHd .nil pass0 (pa_cons (pv 0) (pa_cons (pv 5) pa_nil))))
      (pss_one (ps_for PassesOwn.never rfl (pi_range1 (by rfl) U.mr (pa_cons pe_int pa_nil)) (pg_name (i := 2) nd rfl (.inl rfl)) (pss_one (ps_for PassesOwn.never rfl (pi_tup (pe_tup (pa_cons (pe_call GG hr3 (by rfl) U.gG U.FG.kp bG .nil pass0 (pa_cons (pv 6) (pa_cons pe_int (pa_cons pe_int (pa_cons pe_int pa_nil))))) (pa_cons (pe_call GG hr3 (by rfl) U.gG U.FG.kp bG .nil pass0 (pa_cons (pv 6) (pa_cons pe_int (pa_cons pe_int (pa_cons pe_int pa_nil))))) pa_nil)))) (pg_name (i := 7) nd rfl (.inl rfl)) (pss_cons (ps_if (pt_cmpR op_isnot_bl (pe_call GI hr6 (by rfl) U.gI U.FI.kp bI .nil pass0 (pa_cons (pv 7) pa_nil)) pe_bl (nomark _)) (pss_one (ps_ret pe_bl)) pss_nil)
      (pss_one (ps_for PassesOwn.never rfl (pi_range1 (by rfl) U.mr (pa_cons pe_int pa_nil)) (pg_name (i := 8) nd rfl (.inl rfl)) (pss_cons (ps_set (i := 9) nd rfl (.inl rfl) (pe_call GB hr (by rfl) U.gB U.FB.kp bB .nil pass0 (pa_cons (pv 6) (pa_cons (pv 7) pa_nil))))
      (pss_one (ps_if (PW.pt (pw_or (pt_not (pt_val (pe_callG GR hr7 hgd (by rfl) U.gR U.FR.kp bR pass0 (pa_cons (pv 9) pa_nil)))) (pw_or1 (pt_not (pt_val (pe_callG GR hr7 hgd (by rfl) U.gR U.FR.kp bR pass0 (pa_cons (pe_call GB hr (by rfl) U.gB U.FB.kp bB .nil pass0 (pa_cons (pv 6) (pa_cons (pv 9) pa_nil))) pa_nil))))))) (pss_one (ps_ret pe_bl)) pss_nil))))))))))))
      (pss_one (ps_ret pe_bl))) ?drawn))))))))), ?_⟩
    case drawn =>
      rintro D σ H ⟨a, ns, y1, y2, y3, y4, rfl, hS, q⟩
      have hJ : ∀ x : Int, 0 ≤ x → (1 ≤ (if (if x < 3 then x else 3) > 1 then (if x < 3 then x else 3) else 1) ∧ (if (if x < 3 then x else 3) > 1 then (if x < 3 then x else 3) else 1) ≤ 3) := by
        intro x h0
        by_cases c : x < 3
        · rw [if_pos c]
          by_cases c2 : x > 1
          · rw [if_pos c2]
            omega
          · rw [if_neg c2]
            omega
        · rw [if_neg c, if_pos (by decide)]
          omega
      obtain ⟨j0, j1⟩ := hJ ((ns.map V.int).length : Int) (by omega)
      refine ⟨.ref a, rfl, a, _, rfl, .inl hS, 3, _, rfl, 1, _, rfl, _, rfl, by omega, by omega, ?_⟩
      refine for_range (lo := 0) (fun i σ G' => ∃ y2 y5 y6 y7 y8 y9, σ = [some (.ref a), y1, y2, y3, y4, y5, y6, y7, y8, y9, none] ∧ Same H G') ⟨_, _, _, _, _, _, rfl, Same.refl H⟩ ?_ ?_
      · rintro i σ G1 hi ⟨y2, y5, y6, y7, y8, y9, rfl, S1⟩
        refine ⟨.ref a, rfl, .int (0 + i), rfl, a, 0 + i, ns, rfl, S1.seq hS, by omega, by omega, fun p L np hL => ?_⟩
        have A1 : HandAt (L2.upd G1 p (.lst L)) p 0 := ⟨L, upd_same, hL⟩
        have fr : ∀ {H' : Hp}, SameX p (L2.upd G1 p (.lst L)) H' → Same G1 H' := fun sx b o z => sx b o (ne_of_none z np) (by rw [upd_ne (ne_of_none z np)]; exact z)
        generalize L2.upd G1 p (.lst L) = G2 at A1 fr ⊢
        refine ⟨4, rfl, by decide, by decide, ?_⟩
        refine for_range (lo := 0) (n := 4) (fun t σ H' => ∃ z2 z7 z8 z9, σ = [some (.ref a), y1, z2, y3, y4, some (.int (0 + (i : Int))), some (.ref p), z7, z8, z9, none] ∧ SameX p G2 H' ∧ HandAt H' p (2000 * t)) ⟨_, _, _, _, rfl, .of (Same.refl G2), A1.mono (by omega)⟩ ?_ ?_
        · rintro t σ H1 ht ⟨z2, z7, z8, z9, rfl, X1, hA1⟩
          refine ⟨.ref p, rfl, p, 40, 60, 40, _, rfl, hA1, by omega, by decide, by decide, by decide, by decide, by decide, by decide, fun H2 v1 rs1 sx2 hA2 wf1 uw1 rl1 cl1 d1 => ?_⟩
          refine ⟨.ref p, rfl, p, 5, 6, 8, _, rfl, hA2, by omega, by decide, by decide, by decide, by decide, by decide, by decide, fun H3 v2 rs2 sx3 hA3 wf2 uw2 rl2 cl2 d2 => ?_⟩
          obtain ⟨L2', eL2⟩ := hA2.lst
          have d1 := pd_keep eL2 sx3 d1
          refine ⟨by show 2 ≤ sizeLine; decide, fun tp ntp => ?_⟩
          have S4 := same_new (o := .tup [v1, v2]) ntp
          have e4 := upd_same (H := H3) (a := tp) (o := .tup [v1, v2])
          have hA4 := hA3.same S4
          have d1 := Dt.same S4 _ _ d1
          have d2 := Dt.same S4 _ _ d2
          have X4 : SameX p G2 (L2.upd H3 tp (.tup [v1, v2])) := X1.trans (sx2.trans (sx3.trans (.of S4)))
          have tpp : tp ≠ p := hA3.ne ntp
          generalize L2.upd H3 tp (.tup [v1, v2]) = H4 at S4 e4 hA4 d1 d2 X4 ⊢
          obtain ⟨L4, eL4⟩ := hA4.lst
          have n1 : Dt K (off p H4) (pd rs1) v1 := pd_keep eL4 offX d1
          have n2 : Dt K (off p H4) (pd rs2) v2 := pd_keep eL4 offX d2
          have each : ∀ x ∈ [v1, v2], ∃ rs, Dt K (off p H4) (pd rs) x ∧ progD (pd rs) = true ∧ Bd (pd rs) 2000 3 61 := by
            intro x hx
            rcases List.mem_cons.mp hx with z | z
            · rw [z]
              exact ⟨rs1, n1, PM.bo_true ⟨rs1, rfl, good_of wf1 uw1 rl1 cl1⟩, prog_bd wf1 uw1 rl1 cl1⟩
            · rw [List.mem_singleton.mp z]
              exact ⟨rs2, n2, PM.bo_true ⟨rs2, rfl, good_of wf2 uw2 (by omega) (by omega)⟩, prog_bd wf2 uw2 (by omega) (by omega)⟩
          refine ⟨tp, rfl, ⟨_, .of e4⟩, ?_⟩
          refine for_tup (K := K) (a := tp) (xs := [v1, v2]) (fun m σ H' => ∃ z7 z8 z9, σ = [some (.ref a), y1, some (.int (0 + (t : Int))), y3, y4, some (.int (0 + (i : Int))), some (.ref p), z7, z8, z9, none] ∧ SameX p H4 H' ∧ HandAt H' p (2000 * t + 800 + 200 * m))
            ⟨_, _, _, rfl, .of (Same.refl _), hA4.mono (by omega)⟩ (fun m σ H' _ ⟨_, _, _, _, X', _⟩ => .of (X' _ _ tpp e4)) ?_ ?_
          · rintro m x σ H5 hx ⟨z7, z8, z9, rfl, X5, hA5⟩
            have m2 : m < 2 := (List.getElem?_eq_some_iff.mp hx).1
            obtain ⟨rs, dN, pg, bd⟩ := each x (List.mem_of_getElem? hx)
            have sN5 := keepN off_at off_same X5
            have bw := bd.w
            have bdp := bd.dp
            refine ⟨x, rfl, x, pd rs, rfl, Dt.same sN5 _ _ dN, by omega, fun H6 S6 => ⟨_, true, rfl, rfl, _, rfl, ?_⟩⟩
            rw [pg]
            refine iteF ⟨5, rfl, by decide, by decide, ?_⟩
            have hA6 := hA5.same S6
            refine for_range (lo := 0) (n := 5) (fun o σ H' => ∃ z8 z9, σ = [some (.ref a), y1, some (.int (0 + (t : Int))), y3, y4, some (.int (0 + (i : Int))), some (.ref p), some x, z8, z9, none] ∧ SameX p H4 H' ∧ HandAt H' p (2000 * t + 800 + 200 * m + 40 * o))
              ⟨_, _, rfl, X5.trans (.of S6), hA6.mono (by omega)⟩ ?_ ?_
            · rintro o σ H7 ho ⟨z8, z9, rfl, X7, hA7⟩
              have sN7 := keepN off_at off_same X7
              refine ⟨.ref p, rfl, x, rfl, p, x, _, off p H4, pd rs, 2000, 3, 61, rfl, hA7, by omega, off_at, sN7, dN, bd, by omega, by decide, by decide, by decide, by decide, fun H8 N8 v8 d8 sx8 hA8 a8 b8 Np8 f8 dt8 bt8 => ?_⟩
              have bd8 : Bd d8 (3 * 2000 + 70) (3 + 3) (61 + 2) := bt8
              have dp8 := bd8.dp
              refine ⟨v8, rfl, v8, d8, rfl, Dt.same b8 _ _ dt8, bd8.mono (by decide) (by decide) (by decide), fun H9 S9 => ⟨true, rfl, iteF ?_⟩⟩
              refine ⟨.ref p, rfl, v8, rfl, p, v8, _, N8, d8, _, _, _, rfl, hA8.same S9, by omega, Np8, b8.trans S9, dt8, bd8, by omega, by decide, by decide, by decide, by decide, fun H10 N10 v10 d10 sx10 hA10 a10 b10 Np10 f10 dt10 bt10 => ?_⟩
              have bd10 : Bd d10 (3 * (3 * 2000 + 70) + 70) (3 + 3 + 3) (61 + 2 + 2) := bt10
              refine ⟨v10, d10, rfl, Dt.same b10 _ _ dt10, bd10.mono (by decide) (by decide) (by decide), fun H11 S11 => ⟨true, rfl, iteF ?_⟩⟩
              exact ⟨_, _, rfl, X7.trans (sx8.trans ((SameX.of S9).trans (sx10.trans (.of S11)))), (hA10.same S11).mono (by omega)⟩
            · rintro σ H7 ⟨z8, z9, rfl, X7, hA7⟩
              exact ⟨_, _, _, rfl, X7, hA7.mono (by omega)⟩
          · rintro σ H5 ⟨z7, z8, z9, rfl, X5, hA5⟩
            have hA5' : HandAt H5 p (2000 * t + 800 + 200 * ((2 : Nat) : Int)) := hA5
            exact ⟨_, _, _, _, rfl, X4.trans X5, hA5'.mono (by omega)⟩
        · rintro σ H1 ⟨z2, z7, z8, z9, rfl, X1, hA1⟩
          exact ⟨_, _, _, _, _, _, rfl, S1.trans (fr X1)⟩
      · rintro σ G1 ⟨y2, y5, y6, y7, y8, y9, rfl, S1⟩
        exact q _
    -- the values that are written
    refine ⟨Nat.zero_le _, fun d0 nd0 => ?_⟩
    refine ⟨28, rfl, by decide, by decide, ?_⟩
    refine for_range (lo := 0) (n := 28) (fun t σ H' => ∃ (y2 : Option V) (v : V), σ = [some (.ref a), some v, y2, none, none, none, none, none, none, none, none] ∧ Same H H' ∧ Dt K H' (deepD t) v) ⟨_, _, rfl, same_new nd0, ?_⟩ ?_ ?_
    · unfold deepD Dt Dts
      exact ⟨d0, [], rfl, .of upd_same, rfl⟩
    · rintro t σ H1 ht ⟨y2, v, rfl, S1, dv⟩
      refine ⟨v, rfl, by show 1 ≤ sizeLine; decide, fun d1 nd1 => ?_⟩
      have S2 := same_new (o := .tup [v]) nd1
      refine ⟨_, .ref d1, rfl, S1.trans S2, ?_⟩
      unfold deepD Dt Dts Dts
      exact ⟨d1, _, rfl, .of upd_same, v, [], rfl, Dt.same S2 _ _ dv, rfl⟩
    rintro σ H1 ⟨y2, vd, rfl, S1, dv⟩
    -- the chain
    dsimp only
    refine set_op ?_
    refine (l_tup (K := K) (l_cons (l_tup (l_cons (l_neg (i := 1)) (l_cons (l_int (i := 0)) (l_cons (l_tup l_nil) l_nil)))) l_nil)) H1 H1 _ (Same.refl _) (Same.refl _) fun v0 N2 H2 a2 b2 c2 f2 d2 => ?_
    refine ⟨40, rfl, by decide, by decide, fun D3 nD3 => ?_⟩
    refine lc_range (lo := 0) (n := 40) (fun j H' => ∃ (N' : Hp) (xs : List V), Same N2 N' ∧ Same N' H' ∧ N' D3 = none ∧ Same H2 H' ∧ H' D3 = some (.lst xs) ∧ Dts K N' ((List.range j).map rowJ) xs)
      ⟨N2, [], Same.refl _, b2.trans (same_new nD3), b2.free nD3, same_new nD3, upd_same, by show Dts K N2 [] []; unfold Dts; rfl⟩ ?_ ?_
    · rintro j H' hj ⟨N', xs, a', b', nD', S', eD, dd⟩
      refine ⟨rfl, ?_⟩
      dsimp only [tYes]
      rw [if_pos rfl]
      refine (l_tup (K := K) (l_cons (l_var (i := 10) (v := .int (0 + (j : Int))) (d := .int (0 + (j : Int))) rfl (dt_int _)) (l_cons (l_int (i := 0)) (l_cons (l_tup l_nil) l_nil))) (by show 3 ≤ 1000; decide)) N' H' _ (Same.refl _) b' fun v N7 H7 a7 b7 c7 f7 d7 => ?_
      have nD7 := off2 eD nD' f7
      have lx := dtsLen dd
      rw [List.length_map, List.length_range] at lx
      refine ⟨xs, c7 _ _ eD, small1000 (by omega), N7, xs ++ [v], a'.trans a7, fun b o z => ?_, nD7, fun b o z => ?_, upd_same, ?_⟩
      · rw [upd_ne (ne_of_none z nD7)]
        exact b7 _ _ z
      · rw [upd_ne (ne_of_none z nD3)]
        exact c7 _ _ (S' _ _ z)
      · rw [List.range_succ, List.map_append]
        exact dtsApp (Dts.same a7 _ _ dd) (by show Dts K N7 [rowJ j] [v]; unfold Dts Dts; exact ⟨v, [], rfl, d7, rfl⟩)
    rintro H3 ⟨N3, xs, a3, b3, nD3', S3, eD, dd⟩
    refine ⟨D3, _, rfl, .inl ⟨.of eD, fun q4 nq4 => ?_⟩⟩
    have dq : Dt K (L2.upd N3 q4 (.tup xs)) (.tuple ((List.range 40).map rowJ)) (.ref q4) := by
      unfold Dt
      exact ⟨q4, xs, rfl, .of upd_same, Dts.same (same_new (b3.free nq4)) _ _ dd⟩
    have a4 := same_new (o := .tup xs) (b3.free nq4)
    have b4 : Same (L2.upd N3 q4 (.tup xs)) (L2.upd H3 q4 (.tup xs)) := b3.updBoth
    refine catD (ds := [row0]) (es := (List.range 40).map rowJ) (Dt.same (a3.trans a4) _ _ d2) dq (by decide) b4 fun vc N5 H5 a5 b5 c5 f5 dc => ?_
    have dc : Dt K N5 (.tuple chainD) vc := dc
    have dv5 : Dt K N5 (deepD 28) vd := Dt.same (a2.trans (a3.trans (a4.trans a5))) _ _ dv
    have SH5 : Same H H5 := S1.trans (c2.trans (S3.trans ((same_new nq4).trans c5)))
    -- the list
    refine set_llst0 (K := K) (N := N5) (ds := some1) (l_cons l_non (l_cons l_bl (l_cons l_int (l_cons l_str (l_cons (l_tup l_nil (by show 0 ≤ 1000; decide)) (l_cons (l_lst l_nil (by show 0 ≤ 1000; decide)) (l_cons l_dict (l_cons (l_var rfl dv5) (l_cons (l_var rfl dc) (l_cons (l_cut (l_var rfl dc) lo_none lo_int) (l_cons (l_tup (l_cons (l_tup (l_cons l_neg (l_cons l_int (l_cons (l_tup (l_cons l_int l_nil) (by show 1 ≤ 1000; decide)) l_nil))) (by show 3 ≤ 1000; decide)) l_nil) (by show 1 ≤ 1000; decide)) (l_cons (l_tup (l_cons (l_tup (l_cons l_neg (l_cons l_int (l_cons (l_tup l_nil (by show 0 ≤ 1000; decide)) l_nil))) (by show 3 ≤ 1000; decide)) l_nil) (by show 1 ≤ 1000; decide)) (l_cons (l_tup (l_cons (l_tup (l_cons l_int (l_cons l_int (l_cons (l_tup l_nil (by show 0 ≤ 1000; decide)) l_nil))) (by show 3 ≤ 1000; decide)) l_nil) (by show 1 ≤ 1000; decide)) l_nil))))))))))))) b5 (by decide) fun l1 xs1 N6 H6 a6 b6 c6 f6 nl1 Nl1 e6 d6 => ?_
    have x1 : xs1.length = 13 := dtsLen d6
    refine ⟨.ref l1, rfl, llst0 (K := K) (N := N6) (ds := some2) (l_cons (l_tup (l_cons (l_tup (l_cons l_neg (l_cons l_int (l_cons (l_tup l_nil (by show 0 ≤ 1000; decide)) l_nil))) (by show 3 ≤ 1000; decide)) (l_cons (l_tup (l_cons l_int (l_cons l_int (l_cons (l_tup l_nil (by show 0 ≤ 1000; decide)) l_nil))) (by show 3 ≤ 1000; decide)) l_nil)) (by show 2 ≤ 1000; decide)) (l_cons (l_tup (l_cons (l_tup (l_cons l_neg (l_cons l_int (l_cons (l_tup l_nil (by show 0 ≤ 1000; decide)) l_nil))) (by show 3 ≤ 1000; decide)) (l_cons (l_tup (l_cons l_int (l_cons l_int (l_cons (l_tup l_nil (by show 0 ≤ 1000; decide)) l_nil))) (by show 3 ≤ 1000; decide)) l_nil)) (by show 2 ≤ 1000; decide)) (l_cons (l_tup (l_cons (l_tup (l_cons l_neg (l_cons l_int (l_cons (l_tup l_nil (by show 0 ≤ 1000; decide)) l_nil))) (by show 3 ≤ 1000; decide)) (l_cons (l_tup (l_cons l_int (l_cons l_int (l_cons (l_tup l_nil (by show 0 ≤ 1000; decide)) l_nil))) (by show 3 ≤ 1000; decide)) (l_cons (l_tup (l_cons l_int (l_cons l_int (l_cons (l_tup l_nil (by show 0 ≤ 1000; decide)) l_nil))) (by show 3 ≤ 1000; decide)) l_nil))) (by show 3 ≤ 1000; decide)) l_nil))) b6 (by decide) fun l2 xs2 N7 H7 a7 b7 c7 f7 nl2 Nl2 e7 d7 => ?_⟩
    have x2 : xs2.length = 3 := dtsLen d7
    refine ⟨l1, l2, xs1, xs2, rfl, rfl, c7 _ _ e6, e7, Nat.le_of_lt (small1000 (by omega)), fun m1 nm1 => ?_⟩
    have S8 := same_new (o := .lst (xs1 ++ xs2)) nm1
    have e8 := upd_same (H := H7) (a := m1) (o := .lst (xs1 ++ xs2))
    have b8 := b7.trans S8
    have SH8 : Same H (L2.upd H7 m1 (.lst (xs1 ++ xs2))) := SH5.trans (c6.trans (c7.trans S8))
    have d8 := dtsApp (Dts.same a7 _ _ d6) d7
    generalize L2.upd H7 m1 (.lst (xs1 ++ xs2)) = H8 at e8 b8 SH8 ⊢
    refine ⟨.ref m1, rfl, llst0 (K := K) (N := N7) (ds := some3) (l_cons (l_tup (l_cons (l_tup (l_cons l_neg (l_cons l_int (l_cons (l_tup l_nil (by show 0 ≤ 1000; decide)) l_nil))) (by show 3 ≤ 1000; decide)) (l_cons (l_tup (l_cons l_int (l_cons l_int (l_cons (l_tup l_nil (by show 0 ≤ 1000; decide)) l_nil))) (by show 3 ≤ 1000; decide)) (l_cons (l_tup (l_cons l_int (l_cons l_int (l_cons (l_tup l_nil (by show 0 ≤ 1000; decide)) l_nil))) (by show 3 ≤ 1000; decide)) (l_cons (l_tup (l_cons l_int (l_cons l_int (l_cons (l_tup l_nil (by show 0 ≤ 1000; decide)) l_nil))) (by show 3 ≤ 1000; decide)) l_nil)))) (by show 4 ≤ 1000; decide)) (l_cons (l_tup (l_cons (l_tup (l_cons l_neg (l_cons l_int (l_cons (l_tup l_nil (by show 0 ≤ 1000; decide)) l_nil))) (by show 3 ≤ 1000; decide)) (l_cons (l_tup (l_cons l_int (l_cons l_int (l_cons (l_tup l_nil (by show 0 ≤ 1000; decide)) l_nil))) (by show 3 ≤ 1000; decide)) (l_cons (l_tup (l_cons l_int (l_cons l_int (l_cons (l_tup (l_cons l_int l_nil) (by show 1 ≤ 1000; decide)) l_nil))) (by show 3 ≤ 1000; decide)) l_nil))) (by show 3 ≤ 1000; decide)) l_nil)) b8 (by decide) fun l3 xs3 N9 H9 a9 b9 c9 f9 nl3 Nl3 e9 d9 => ?_⟩
    have x3 : xs3.length = 2 := dtsLen d9
    refine ⟨m1, l3, _, xs3, rfl, rfl, c9 _ _ e8, e9, Nat.le_of_lt (small1000 (by rw [List.length_append]; omega)), fun m2 nm2 => ?_⟩
    have S10 := same_new (o := .lst (xs1 ++ xs2 ++ xs3)) nm2
    have e10 := upd_same (H := H9) (a := m2) (o := .lst (xs1 ++ xs2 ++ xs3))
    have b10 := b9.trans S10
    have SH10 : Same H (L2.upd H9 m2 (.lst (xs1 ++ xs2 ++ xs3))) := SH8.trans (c9.trans S10)
    have d10 := dtsApp (Dts.same a9 _ _ d8) d9
    generalize L2.upd H9 m2 (.lst (xs1 ++ xs2 ++ xs3)) = H10 at e10 b10 SH10 ⊢
    refine ⟨.ref m2, rfl, llst0 (K := K) (N := N9) (ds := some4) (l_cons (l_tup (l_cons (l_tup (l_cons l_neg (l_cons l_int (l_cons (l_tup l_nil (by show 0 ≤ 1000; decide)) l_nil))) (by show 3 ≤ 1000; decide)) (l_cons (l_tup (l_cons l_neg (l_cons l_int (l_cons (l_tup l_nil (by show 0 ≤ 1000; decide)) l_nil))) (by show 3 ≤ 1000; decide)) l_nil)) (by show 2 ≤ 1000; decide)) (l_cons (l_tup (l_cons (l_tup (l_cons l_neg (l_cons l_int (l_cons (l_tup (l_cons l_int l_nil) (by show 1 ≤ 1000; decide)) l_nil))) (by show 3 ≤ 1000; decide)) (l_cons (l_tup (l_cons l_int (l_cons l_int (l_cons (l_tup l_nil (by show 0 ≤ 1000; decide)) l_nil))) (by show 3 ≤ 1000; decide)) l_nil)) (by show 2 ≤ 1000; decide)) (l_cons (l_tup (l_cons (l_tup (l_cons l_neg (l_cons l_int (l_cons (l_tup (l_cons l_int (l_cons l_int l_nil)) (by show 2 ≤ 1000; decide)) l_nil))) (by show 3 ≤ 1000; decide)) l_nil) (by show 1 ≤ 1000; decide)) (l_cons (l_tup (l_cons (l_tup (l_cons l_neg (l_cons l_int (l_cons (l_tup (l_cons l_int (l_cons l_int l_nil)) (by show 2 ≤ 1000; decide)) l_nil))) (by show 3 ≤ 1000; decide)) l_nil) (by show 1 ≤ 1000; decide)) l_nil)))) b10 (by decide) fun l4 xs4 N11 H11 a11 b11 c11 f11 nl4 Nl4 e11 d11 => ?_⟩
    have x4 : xs4.length = 4 := dtsLen d11
    refine ⟨m2, l4, _, xs4, rfl, rfl, c11 _ _ e10, e11, Nat.le_of_lt (small1000 (by rw [List.length_append, List.length_append]; omega)), fun m3 nm3 => ?_⟩
    have S12 := same_new (o := .lst (xs1 ++ xs2 ++ xs3 ++ xs4)) nm3
    have e12 := upd_same (H := H11) (a := m3) (o := .lst (xs1 ++ xs2 ++ xs3 ++ xs4))
    have b12 := b11.trans S12
    have SH12 : Same H (L2.upd H11 m3 (.lst (xs1 ++ xs2 ++ xs3 ++ xs4))) := SH10.trans (c11.trans S12)
    have d12 := dtsApp (Dts.same a11 _ _ d10) d11
    generalize L2.upd H11 m3 (.lst (xs1 ++ xs2 ++ xs3 ++ xs4)) = H12 at e12 b12 SH12 ⊢
    have okA' : ∀ d ∈ some1 ++ some2 ++ some3 ++ some4, Bd d 100000 50 80 := fun d hd => by
      rcases List.mem_append.mp hd with z | z
      · rcases List.mem_append.mp z with z | z
        · rcases List.mem_append.mp z with z | z
          · exact some1_ok d z
          · exact some2_ok d z
        · exact some3_ok d z
      · exact some4_ok d z
    have l12 : (xs1 ++ xs2 ++ xs3 ++ xs4).length ≤ 100 := by
      rw [List.length_append, List.length_append, List.length_append]
      omega
    generalize xs1 ++ xs2 ++ xs3 ++ xs4 = ys at e12 d12 l12
    generalize some1 ++ some2 ++ some3 ++ some4 = ds at d12 okA'
    have ly := dtsLen d12
    refine ⟨.ref m3, rfl, m3, rfl, ⟨_, .of e12⟩, fun D9 nD9 => ?_⟩
    refine lc_list (K := K) (a := m3) (xs := ys) (fun i H' => Same H12 H' ∧ H' D9 = some (.lst ((List.replicate i true).map V.bl))) ⟨same_new nD9, upd_same⟩ (fun i H' _ ⟨S, _⟩ => .of (S _ _ e12)) ?_ ?_
    · rintro i x H' hx ⟨S, e⟩
      obtain ⟨il, _⟩ := List.getElem?_eq_some_iff.mp hx
      obtain ⟨y, hy, hdy⟩ := dtsGet d12 (List.getElem?_eq_getElem (show i < _ by rw [← ly]; exact il))
      rw [hx] at hy
      cases hy
      refine ⟨rfl, x, rfl, x, _, rfl, Dt.same (b12.trans S) _ _ hdy, okA' _ (List.getElem_mem _), fun H2 S2 => ⟨_, S2 _ _ e, ?_, fun b o z => ?_, ?_⟩⟩
      · rw [List.length_map, List.length_replicate]
        exact small1000 (by omega)
      · rw [upd_ne (ne_of_none z nD9)]
        exact S2 _ _ (S _ _ z)
      · rw [upd_same, List.replicate_succ', List.map_append]
        rfl
    · rintro H13 ⟨S, e⟩
      refine ⟨D9, _, rfl, .of e, _, rfl, ?_⟩
      rw [show (List.replicate ys.length true).all id = true by rw [List.all_eq_true]; exact fun b hb => (List.mem_replicate.mp hb).2]
      exact iteF ⟨a, ns, _, _, _, _, rfl, (SH12.trans S).seq hS, q⟩
end
end K01
set_option Elab.async false
set_option linter.all false
set_option maxRecDepth 100000
set_option maxHeartbeats 4000000
namespace K01
open PySem PySem.Spec PyProof.Rows L2
theorem facts {P : Program} {w : World} {K : PySem.W.Frag} {h : Heap} {mg : Str → Option Value} {f : Addr} (X : K.In h) (G : h.Ns mainGlobals mg) (hfa : mg ("law" : Str) = some (.ref f)) (c : SaysY fa fn ex K) :
    ∃ fd : FuncData, (∀ (s : Shared) (v : Value), BindsTo s fd ⟨[v], []⟩ [("_law_script", v)]) ∧ ∀ base : Heap, K.In base → base.Ns mainGlobals mg → FnG P w K mg base CX0 11 f fd ["_law_script"] (spLaw K) := by
  obtain ⟨fd0, F0⟩ := c.d.def_ 0 (d := dD "is_whole" 9) rfl
  obtain ⟨fd1, F1⟩ := c.d.def_ 1 (d := dD "is_number_below" 10) rfl
  obtain ⟨fd2, F2⟩ := c.d.def_ 2 (d := dD "is_ascending" 11) rfl
  obtain ⟨fd3, F3⟩ := c.d.def_ 3 (d := dD "is_program" 12) rfl
  obtain ⟨fd4, F4⟩ := c.d.def_ 4 (d := dD "has_scope_form" 13) rfl
  obtain ⟨fd5, F5⟩ := c.d.def_ 5 (d := dD "is_in_preorder" 14) rfl
  obtain ⟨fd6, F6⟩ := c.d.def_ 6 (d := dD "has_visible_uses" 15) rfl
  obtain ⟨fd7, F7⟩ := c.d.def_ 7 (d := dD "check_scope" 16) rfl
  obtain ⟨fd8, F8⟩ := c.d.def_ 8 (d := dD "declaration_count" 17) rfl
  obtain ⟨fd9, F9⟩ := c.d.def_ 9 (d := dD "homes_of" 18) rfl
  obtain ⟨fd10, F10⟩ := c.d.def_ 10 (d := dD "enclosing_scopes" 19) rfl
  obtain ⟨fd11, F11⟩ := c.d.def_ 11 (d := dD "_law_hand" 21) rfl
  obtain ⟨fd12, F12⟩ := c.d.def_ 12 (d := dD "_law_take" 22) rfl
  obtain ⟨fd13, F13⟩ := c.d.def_ 13 (d := dD "_law_pick" 23) rfl
  obtain ⟨fd14, F14⟩ := c.d.def_ 14 (d := dD "_law_program" 24) rfl
  obtain ⟨fd15, F15⟩ := c.d.def_ 15 (d := dD "_law_home" 25) rfl
  obtain ⟨fd16, F16⟩ := c.d.def_ 16 (d := dD "_law_outward" 26) rfl
  obtain ⟨fd17, F17⟩ := c.d.def_ 17 (d := dD "_law_bent" 27) rfl
  obtain ⟨fd18, F18⟩ := c.d.def_ 18 (d := dD "_law_is_number" 28) rfl
  obtain ⟨fd19, F19⟩ := c.d.def_ 19 (d := dD "_law_is_part" 29) rfl
  obtain ⟨fd20, F20⟩ := c.d.def_ 20 (d := dD "_law_due" 30) rfl
  obtain ⟨fd21, F21⟩ := c.d.def_ 21 (d := dD "_law_right" 31) rfl
  obtain ⟨fd22, F22⟩ := c.d.def_ 22 (d := dD "law" 32) rfl
  have e := hfa.symm.trans (He.glo_ok X G (c.d.fact 22 (f := .glo "law") rfl))
  cases e
  have b := FunD.bindsA (ps := ["_law_script"]) F22 fun _ _ _ _ _ _ us hl => match us, hl with | [_], _ => rfl
  have U : TxtL K mg _ _ _ _ _ _ _ _ _ _ _ _ _ _ := { FHd := F11, FT := F12, FP := F13, FG := F14, FB := F17, FR := F21, FI := F3, gHd := (He.glo_ok X G (c.d.fact 11 (f := .glo "_law_hand") rfl)), gT := (He.glo_ok X G (c.d.fact 12 (f := .glo "_law_take") rfl)), gP := (He.glo_ok X G (c.d.fact 13 (f := .glo "_law_pick") rfl)), gG := (He.glo_ok X G (c.d.fact 14 (f := .glo "_law_program") rfl)), gB := (He.glo_ok X G (c.d.fact 17 (f := .glo "_law_bent") rfl)), gR := (He.glo_ok X G (c.d.fact 21 (f := .glo "_law_right") rfl)), gI := (He.glo_ok X G (c.d.fact 3 (f := .glo "is_program") rfl)), ml := (He.free_ok X G (c.d.fact 25 (f := .free "len") rfl)), mr := (He.free_ok X G (c.d.fact 26 (f := .free "range") rfl)), mt := (He.free_ok X G (c.d.fact 31 (f := .free "tuple") rfl)), mx := (He.free_ok X G (c.d.fact 27 (f := .free "max") rfl)), mn := (He.free_ok X G (c.d.fact 28 (f := .free "min") rfl)), ma := (He.free_ok X G (c.d.fact 23 (f := .free "abs") rfl)), mi := (He.free_ok X G (c.d.fact 24 (f := .free "int") rfl)), mli := (He.free_ok X G (c.d.fact 35 (f := .free "list") rfl)), ms := (He.free_ok X G (c.d.fact 29 (f := .free "isinstance") rfl)), mst := (He.free_ok X G (c.d.fact 36 (f := .free "str") rfl)), mal := (He.free_ok X G (c.d.fact 37 (f := .free "all") rfl)) }
  have TG : TxtG K mg _ _ _ _ _ _ _ _ := { FT := F12, FP := F13, FH := F15, FO := F16, gT := (He.glo_ok X G (c.d.fact 12 (f := .glo "_law_take") rfl)), gP := (He.glo_ok X G (c.d.fact 13 (f := .glo "_law_pick") rfl)), gH := (He.glo_ok X G (c.d.fact 15 (f := .glo "_law_home") rfl)), gO := (He.glo_ok X G (c.d.fact 16 (f := .glo "_law_outward") rfl)), ml := (He.free_ok X G (c.d.fact 25 (f := .free "len") rfl)), mr := (He.free_ok X G (c.d.fact 26 (f := .free "range") rfl)), mi := (He.free_ok X G (c.d.fact 24 (f := .free "int") rfl)), mu := (He.free_ok X G (c.d.fact 32 (f := .free "sum") rfl)), mt := (He.free_ok X G (c.d.fact 31 (f := .free "tuple") rfl)), md := (He.free_ok X G (c.d.fact 33 (f := .free "sorted") rfl)) }
  have TN : TxtN K mg _ _ _ _ := { FW := F0, FN := F1, gW := (He.glo_ok X G (c.d.fact 0 (f := .glo "is_whole") rfl)), gN := (He.glo_ok X G (c.d.fact 1 (f := .glo "is_number_below") rfl)), ms := (He.free_ok X G (c.d.fact 29 (f := .free "isinstance") rfl)), mi := (He.free_ok X G (c.d.fact 24 (f := .free "int") rfl)), mb := (He.free_ok X G (c.d.fact 30 (f := .free "bool") rfl)), ml := (He.free_ok X G (c.d.fact 25 (f := .free "len") rfl)), mr := (He.free_ok X G (c.d.fact 26 (f := .free "range") rfl)), mu := (He.free_ok X G (c.d.fact 32 (f := .free "sum") rfl)), mt := (He.free_ok X G (c.d.fact 31 (f := .free "tuple") rfl)), mx := (He.free_ok X G (c.d.fact 27 (f := .free "max") rfl)), gC := (He.int_ok X G (c.d.fact 44 (f := .int "COUNT" 1) rfl)), gP := (He.int_ok X G (c.d.fact 43 (f := .int "PARENT" 0) rfl)) }
  have TP : TxtP K mg _ _ _ _ _ _ _ _ _ _ _ _ _ _ _ _ := { FF := F4, FA := F2, FC := F8, FO := F5, FV := F6, FK := F7, FE := F10, FH := F9, gF := (He.glo_ok X G (c.d.fact 4 (f := .glo "has_scope_form") rfl)), gA := (He.glo_ok X G (c.d.fact 2 (f := .glo "is_ascending") rfl)), gC := (He.glo_ok X G (c.d.fact 8 (f := .glo "declaration_count") rfl)), gO := (He.glo_ok X G (c.d.fact 5 (f := .glo "is_in_preorder") rfl)), gV := (He.glo_ok X G (c.d.fact 6 (f := .glo "has_visible_uses") rfl)), gK := (He.glo_ok X G (c.d.fact 7 (f := .glo "check_scope") rfl)), gE := (He.glo_ok X G (c.d.fact 10 (f := .glo "enclosing_scopes") rfl)), gH := (He.glo_ok X G (c.d.fact 9 (f := .glo "homes_of") rfl)), tU := (He.int_ok X G (c.d.fact 45 (f := .int "USES" 2) rfl)), tS := (He.int_ok X G (c.d.fact 41 (f := .int "MOST_SCOPES" 40) rfl)), tD := (He.int_ok X G (c.d.fact 42 (f := .int "MOST_DECLARATIONS" 60) rfl)), mal := (He.free_ok X G (c.d.fact 37 (f := .free "all") rfl)) }
  have TD : TxtD K mg _ _ _ _ := { FM := F18, FPt := F19, gM := (He.glo_ok X G (c.d.fact 18 (f := .glo "_law_is_number") rfl)), gPt := (He.glo_ok X G (c.d.fact 19 (f := .glo "_law_is_part") rfl)), ms := (He.free_ok X G (c.d.fact 29 (f := .free "isinstance") rfl)), mi := (He.free_ok X G (c.d.fact 24 (f := .free "int") rfl)), mb := (He.free_ok X G (c.d.fact 30 (f := .free "bool") rfl)), mtu := (He.free_ok X G (c.d.fact 31 (f := .free "tuple") rfl)), ml := (He.free_ok X G (c.d.fact 25 (f := .free "len") rfl)), mal := (He.free_ok X G (c.d.fact 37 (f := .free "all") rfl)), may := (He.free_ok X G (c.d.fact 38 (f := .free "any") rfl)), mli := (He.free_ok X G (c.d.fact 35 (f := .free "list") rfl)), mse := (He.free_ok X G (c.d.fact 39 (f := .free "set") rfl)), md := (He.free_ok X G (c.d.fact 33 (f := .free "sorted") rfl)), me := (He.free_ok X G (c.d.fact 40 (f := .free "enumerate") rfl)) }
  exact ⟨fd22, fun s v => b s [v] rfl, fun base _ _ => ok_law U TG TN TP TD F22 F20 (He.glo_ok X G (c.d.fact 20 (f := .glo "_law_due") rfl)) (He.free_ok X G (c.d.fact 34 (f := .free "repr") rfl)) c.sys⟩
end K01
open PySem PySem.W PySem.Calls PyProof.Rows
set_option maxRecDepth 100000 in
set_option maxHeartbeats 8000000 in
theorem PySem.Challenge.cw_renamesteps_k01_programs_of_any_value_holds : PySem.Challenge.rw_renamesteps_k01_programs_of_any_value.Holds := by
  w_on; o_law
  refine HandSHeadRun.head_any (r := OpenLaw.row PySem.Challenge.rw_renamesteps_k01_programs_of_any_value) (q := view (OpenLaw.row PySem.Challenge.rw_renamesteps_k01_programs_of_any_value).prog [32]) (H := K01.hk) (ob := K01.ob) (M := 8000) (loose := K01.loose)
    (d := HandSHeadRun.topDef (OpenLaw.row PySem.Challenge.rw_renamesteps_k01_programs_of_any_value).prog 32) (kwd := []) K01.ob_eq
    (by kernel_rfl) (fun s => by kernel_rfl) K01.run (by kernel_rfl) (by kernel_rfl) (by kernel_rfl) (by rfl) (by first | assumption | decide +kernel) (by decide +kernel) ⟨rfl, rfl, rfl, rfl, rfl, by decide +kernel⟩ ?hw ?hc
  case hw => w_witness2
  case hc =>
    refine L2.walkG (l := PySem.Challenge.rw_renamesteps_k01_programs_of_any_value) (n := 63) (k := 11) (x := "_law_script") (CX := L2.CX0) rfl (by decide) (by kernel_rfl) ⟨rfl, by decide, by decide⟩ ?F (fun _ _ _ _ z => z)
    intro w mg fa h Y G hmg0
    obtain ⟨K, KX, c⟩ := Y
    have hmg : mg ("law" : PySem.Str) = some (.ref fa) := by
      have e : (HandSHeadRun.topDef (OpenLaw.row PySem.Challenge.rw_renamesteps_k01_programs_of_any_value).prog 32).name = ("law" : PySem.Str) := by kernel_rfl
      rw [← e]
      exact hmg0
    obtain ⟨fd, hb, hF⟩ := K01.facts (P := (PySem.Challenge.rw_renamesteps_k01_programs_of_any_value).prog) (w := w) KX G hmg c
    exact ⟨K, fd, K01.spLaw K, KX, hb, fun H a ns hl hS => ⟨a, ns, rfl, hS, fun _ => rfl⟩, hF⟩

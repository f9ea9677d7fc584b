import PyProof.Rows.All
import Wide.All
import OpenK.AllK
import Wide.FinOn
import HandS.ForMost
import HandS.Defaults
import HandS.HeadEnd
import HandS.HeadHook4
import PyProof.ReprRoads
import PyProof.CallFns
import HandS.HeadHook2
import HandS.Head2
import PyProof.ListRange
import PyProof.TupleOfSeq
import HandS.Sort
import KE.KStateDown
import HandS.More
import HandS.WordsExc
import HandS.Head0
import HandS.Head1
import HandS.Wide
import HandS.IsInst
import KE.GoesMore
import HandS.Zip
import HandS.SetKeys
import HandS.ListItems
import PyProof.DictUpdate
import PySem.Challenge.RW_renamesteps_k05_lookups
set_option Elab.async false
set_option linter.all false
set_option maxRecDepth 100000
set_option maxHeartbeats 4000000
/-! defs that may ask for repr: the promise holds where no repr is under way -/
namespace L2
open PySem PySem.Spec PyProof.Rows
structure FnG (P : Program) (w : World) (K : PySem.W.Frag) (mg : Str → Option Value) (base : Heap) (CX : CXT) (k : Nat) (f : Addr)
    (fd : FuncData) (ps : List Str) (sp : Sp) : Prop where
  len : ∀ vs H Q E, sp vs H Q E → vs.length = ps.length
  run : ∀ (A : Around) (outer : List Env) (s : Shared) (H : Hp) (args : Args) (us : List Value) (vs : List V) (Q : VK) (E : XK),
    Room k A → A.guards = some [] → Env0 P w K mg base A outer s H → BindsTo s fd args (ps.zip us) → Vals vs us → sp vs H Q E →
      codeAny (model P w) A (.call (.ref f) args) (CR CX outer P w H s Q E) s
theorem FnOk.g {P : Program} {w : World} {K : PySem.W.Frag} {mg : Str → Option Value} {base : Heap} {CX : CXT} {k : Nat} {f : Addr}
    {fd : FuncData} {ps : List Str} {sp : Sp} (F : FnOk P w K mg base CX k f fd ps sp) : FnG P w K mg base CX k f fd ps sp :=
  ⟨F.len, fun A outer s H args us vs Q E hr _ => F.run A outer s H args us vs Q E hr⟩
theorem FnG.mono {P : Program} {w : World} {K : PySem.W.Frag} {mg : Str → Option Value} {base : Heap} {CX : CXT} {j k : Nat} {f : Addr}
    {fd : FuncData} {ps : List Str} {sp : Sp} (F : FnG P w K mg base CX j f fd ps sp) (h : j ≤ k) : FnG P w K mg base CX k f fd ps sp :=
  ⟨F.len, fun A outer s H args us vs Q E hr => F.run A outer s H args us vs Q E (hr.mono h)⟩
/-- a def by its body -/
theorem FunD.okG {P : Program} {w : World} {K : PySem.W.Frag} {mg : Str → Option Value} {base : Heap} {x qual : Str} {params : Arguments}
    {body : List Stmt} {scope : Scope} {dvs : List V} {kws : List (Str × V)} {f : Addr} {fd : FuncData} {CX : CXT} {N ps : List Str} {k : Nat} {sp : Sp}
    (F : FunD K x qual params body scope dvs kws f fd) (S : FnScope N ps scope) (len : ∀ vs H Q E, sp vs H Q E → vs.length = ps.length)
    (hbody : ∀ (cdv : Value) (A : Around) (outer : List Env) (s : Shared) (H : Hp) (vs : List V) (Q : VK) (E : XK),
      Room k (A.deeper (envOfC qual scope s.heap.objs.size f cdv)) → A.guards = some [] → sp vs H Q E →
        ∃ t, PSs (cxOf CX P w K mg base N qual scope f cdv A outer s H E) body t ∧ t { nx := fun _ H' => Q .non H', rt := Q } (start N vs) H) :
    FnG P w K mg base CX (k + 1) f fd ps sp := by
  obtain ⟨oc, od, dV, kV, doc, pm, an, cdv, ct, osl, rfl, lk, hcd, _, _⟩ := F.ex
  refine ⟨len, fun A outer s H args us vs Q E hr hgd e0 hb r hsp => ?_⟩
  have old := fun (b : Addr) (o : Obj) (e : base.get? b = some o) => (e0.bs b o e).1
  have KX : K.In s.heap := e0.mod.kin.keeps old
  have lim : s.heap.NoLimit := e0.mod.nolimit.keeps old
  refine codeAny_call_function hr.depth (KX _ _ lk) rfl S.co S.gen rfl (PySem.W.codeRec_of KX hcd) (hb _ _ _ _ ?_)
  refine wpAny_newFunctionEnv_cells S.kind (fun y hy => ?_) fun env he s1 x => ?_
  · obtain ⟨n, v⟩ := y
    exact (S.par n (List.of_mem_zip hy).1).imp (fun q => q) fun q => ⟨q, PySem.W.cellsFrom_some _ _ _ (.inl q)⟩
  subst he
  refine ⟨lim.keeps x.toInCall.keep, codeAny_func ?_⟩
  obtain ⟨t, ht, hq⟩ := hbody cdv A outer s H vs Q E (hr.deeper _) hgd hsp
  have I := inv_start (CX := CX) (E := E) S hr.hd e0 (len _ _ _ _ hsp) r x
  refine wpAny_mono (ht.run [] s1 (start N vs) H _ I hq) (fun fl s' hs => ?_) fun e s' hs => hs
  cases fl with
  | ret u =>
    obtain ⟨v, σ', H', J, rv, q⟩ := hs
    exact ⟨v, H', J.os, J.bare, J.base, J.hok, rv, q⟩
  | next =>
    obtain ⟨σ', H', J, q⟩ := hs
    exact ⟨.non, H', J.os, J.bare, J.base, J.hok, rfl, q⟩
  | brk => exact False.elim hs.choose_spec.choose_spec.2
  | cont => exact False.elim hs.choose_spec.choose_spec.2
section
variable {X : Cx} {CX : CXT} {k : Nat} {f : Addr} {fd : FuncData} {ps : List Str} {sp : Sp} {E : XK} {x : Str} {p pos : Pos} {e : Expr} {es : List Expr} {t : TA}
/-- f(e, ..) -/
theorem pe_callG (F : FnG X.prog X.w X.K X.mg X.base CX k f fd ps sp) (hr : Room k X.A) (hgd : X.A.guards = some []) (hg : Gl X x) (hm : X.mg x = some (.ref f))
    (hk : PySem.W.keepIn X.K (.ref f) = true) (hb : Binds X.K fd ps []) (hx : Passes CX X E) (ha : PA X (e :: es) t)
    (hdb : (x == ("__debug__" : Str)) = false := by decide) (he : starEach (e :: es) X.env = (false, eval e X.env) :: starEach es X.env := by rfl)
    (hpl : (backTo pos (starEach es X.env)).any (·.1) = false := by rfl) :
    PE X (.Call (.Name x p) (e :: es) [] pos) (tCall sp [] E t) := by
  refine ⟨fun pins s σ H Q I h => ?_⟩
  refine wpAny_Call_Name_kw (ld_glob I hg hm ?_ hdb)
  refine PySem.W.callWith_K (h₀ := X.base) I.ok.mod.kin hk
    (thn (ha.run pos pins s σ H _ I h) fun us s1 ⟨vs, H1, I1, r, q⟩ => ⟨I1.kIn, ?_⟩) he hpl
  have q : sp (vs ++ []) H1 Q E := q
  rw [List.append_nil] at q
  have hl : us.length = ps.length := by
    rw [← Vals.length r]
    exact F.len _ _ _ _ q
  have b := hb s1 us I1.kIn (by rw [List.append_nil]; exact hl)
  rw [List.append_nil] at b
  show wpAny _ _ (call (.ref f) us) _ _ _
  refine wpAny_call (codeAny_mono (F.run X.A X.stack s1 H1 ⟨us, []⟩ us vs Q E hr hgd I1.env0 b r q) fun r s' hq => ?_)
  cases r with
  | error er => exact hx pins σ H1 s1 er s' I1 hq
  | ok fl =>
    cases fl with
    | ret u => exact I1.after hq
    | next => exact False.elim hq
    | brk => exact False.elim hq
    | cont => exact False.elim hq
end
/-- the law's own call -/
theorem law_callG {P : Program} {w : World} {K : PySem.W.Frag} {mg mb : Str → Option Value} {CX : CXT} {k : Nat} {fa a : Addr} {fd : FuncData} {x : Str}
    {sp : Sp} {s₁ : Shared} {vs : List Value} {ns : List Int}
    (KX : K.In s₁.heap) (hns : s₁.heap.Ns mainGlobals mg) (hb : s₁.heap.Ns builtinsNs mb) (hbb : ∀ x : Str, x ≠ "__name__" → mb x = bootBuiltins x)
    (hlim : s₁.heap.NoLimit) (hg : s₁.gens = #[]) (ha : s₁.heap.get? a = some { cls := .type "list", data := .seq vs.toArray }) (hi : IntsAre vs ns)
    (hl : ns.length ≤ sizeLine) (hr : Room k callerA) (F : ∀ base : Heap, K.In base → base.Ns mainGlobals mg → FnG P w K mg base CX k fa fd [x] sp)
    (hbind : ∀ (s : Shared) (u : Value), BindsTo s fd ⟨[u], []⟩ [(x, u)])
    (hsp : ∀ H : Hp, SqL K H a (ns.map V.int) → sp [.ref a] H (fun v _ => v = .bl true) fun _ _ _ => False)
    (hCX : ∀ H e s', CX [] H s₁ (fun _ _ _ => False) e s' → False) :
    codeAny (model P w) callerA (.call (.ref fa) ⟨[.ref a], []⟩)
      (fun r s' => r = .ok (.ret (.bool true)) ∧ OldK s₁.heap s'.heap ∧ s'.os = s₁.os ∧ AllBare s'.gens) s₁ := by
  have rv := vals_ints hi
  have lenV := hi.length
  let ob : Obj := { cls := .type "list", data := .seq vs.toArray }
  have core : ∀ H : Hp, (∀ b, H b ≠ none → b = a ∧ H b = some (.frz ob (.lst (ns.map V.int)))) → SqL K H a (ns.map V.int) → HOk P w H s₁.heap → (H a ≠ none → K.lookup a = none) →
      codeAny (model P w) callerA (.call (.ref fa) ⟨[.ref a], []⟩)
        (fun r s' => r = .ok (.ret (.bool true)) ∧ OldK s₁.heap s'.heap ∧ s'.os = s₁.os ∧ AllBare s'.gens) s₁ := by
    intro H hA hS hok hK
    have off : ∀ {b : Addr} {o : Obj} {es : Array DictEntry} {ep : Nat}, s₁.heap.get? b = some o → o.data = .dict es ep → H b = none := by
      intro b o es ep e d
      cases q : H b with
      | none => rfl
      | some u =>
        obtain ⟨rfl, _⟩ := hA b (by rw [q]; simp)
        rw [ha] at e
        cases e
        have z : Data.seq vs.toArray _ = Data.dict es ep := d
        cases z
    have nsK : ∀ {b : Addr} {m : Str → Option Value}, s₁.heap.Ns b m → (hidT s₁.heap H).Ns b m :=
      fun {b m} ⟨o, es, ep, e, d, r⟩ => ⟨o, es, ep, hidT_get e (off e d), d, r⟩
    have hKb : K.In (hidT s₁.heap H) := fun b o e => hidT_get (KX b o e) (by
      cases q : H b with
      | none => rfl
      | some u =>
        obtain ⟨rfl, _⟩ := hA b (by rw [q]; simp)
        rw [hK (by rw [q]; simp)] at e
        cases e)
    have hM : Mod K mg (hidT s₁.heap H) := ⟨hKb, nsK hns, ⟨mb, nsK hb, hbb⟩, let ⟨mc, h1, h2⟩ := hlim; ⟨mc, nsK h1, h2⟩⟩
    have e0 : Env0 P w K mg (hidT s₁.heap H) callerA [] s₁ H :=
      ⟨rfl, hM, fun b o e => of_hidT e, Nat.le_of_eq (hidT_size _ _), trivial, fun b hb => absurd (show b ∈ ([] : List Addr) from hb) (by simp), hok, .of_eq hg⟩
    refine codeAny_mono ((F _ hKb (nsK hns)).run callerA [] s₁ H ⟨[.ref a], []⟩ [.ref a] [.ref a] _ _ hr rfl e0 (hbind s₁ (.ref a)) (.cons rfl .nil) (hsp H hS)) fun r s' h => ?_
    cases r with
    | error e => exact (hCX H e s' h).elim
    | ok fl =>
      cases fl with
      | next => exact False.elim h
      | brk => exact False.elim h
      | cont => exact False.elim h
      | ret u =>
        obtain ⟨v, H', os, bare, un, hok', r', q⟩ := h
        cases (show v = .bl true from q)
        cases (show u = Value.bool true from r')
        refine ⟨rfl, OldK.of_keep fun b o e => ?_, os, bare⟩
        cases q : H b with
        | none => exact un.keep b o e q (by intro z; exact absurd (show b ∈ ([] : List Addr) from z) (by simp)) (by simp)
        | some u =>
          obtain ⟨rfl, z⟩ := hA b (by rw [q]; simp)
          obtain ⟨e1, _⟩ := hok b _ z
          obtain ⟨e2, _⟩ := hok' b _ (un.frzs b ob _ z)
          rw [e] at e1
          cases e1
          exact e2
  cases hk : K.lookup a with
  | some o =>
    have e := KX a o hk
    rw [ha] at e
    cases e
    exact core (fun _ => none) (fun b z => absurd rfl z)
      (.inr ⟨_, vs.toArray, _, hk, rfl, rfl, rfl, by rw [List.size_toArray, lenV]; exact hl, by simpa using rv⟩)
      (fun b u z => nomatch (show (none : Option HO) = some u from z)) fun z => absurd rfl z
  | none =>
    refine core (fun b => if b = a then some (.frz ob (.lst (ns.map V.int))) else none) (fun b z => ?_) (.inl (.inr ⟨ob, if_pos rfl⟩)) (fun b u z => ?_) fun _ => hk
    · by_cases c : b = a
      · exact ⟨c, if_pos c⟩
      · exact absurd (if_neg c) z
    · by_cases c : b = a
      · cases (if_pos c).symm.trans z
        subst c
        exact ⟨ha, by rw [List.length_map]; exact hl, vs, _, rv, ha⟩
      · cases (if_neg c).symm.trans z
theorem walkG {l : PySem.W.OpenLaw} {n k : Nat} {q : Program} {loose : List Str} {XP : (Str → Option Value) → Heap → Prop} {YP : World → Heap → Prop} {d : DefRec} {CX : CXT} {x : Str}
    (hn : l.most = some n) (hn2 : n ≤ sizeLine) (hdf : d.params.defaults = []) (hr : Room k callerA)
    (F : ∀ (w : World) (mg : Str → Option Value) (fa : Addr) (h : Heap), YP w h → h.Ns mainGlobals mg → mg d.name = some (.ref fa) →
      ∃ (K : PySem.W.Frag) (fd : FuncData) (sp : Sp), K.In h ∧ (∀ (s : Shared) (u : Value), BindsTo s fd ⟨[u], []⟩ [(x, u)]) ∧
        (∀ (H : Hp) (a : Addr) (ns : List Int), ns.length ≤ n → SqL K H a (ns.map V.int) → sp [.ref a] H (fun v _ => v = .bl true) fun _ _ _ => False) ∧
        ∀ base : Heap, K.In base → base.Ns mainGlobals mg → FnG l.prog w K mg base CX k fa fd [x] sp)
    (hCX : ∀ (H : Hp) (s : Shared) (e : Value) (s' : Shared), CX [] H s (fun _ _ _ => False) e s' → False) :
    PySem.W.WalkO q loose XP YP l.row.toRowW d [] (fun f vs => PySem.call f vs) := by
  refine Att.attach_call hn hdf fun w s₀ s₁ mg mb fa o pm cd doc a vs ns G Y ho hd hcd hmg hobj hints hlen hg => ?_
  obtain ⟨K, fd, sp, KX, hb, hsp, hF⟩ := F w mg fa _ Y G.T.g hmg
  exact law_callG KX G.T.g G.T.b G.T.builtins G.T.nolimit hg hobj hints (Nat.le_trans hlen hn2) hr hF hb
    (fun H hS => hsp H a ns hlen hS) fun H e s' => hCX H s₁ e s'
end L2
set_option Elab.async false
set_option linter.all false
set_option maxRecDepth 100000
set_option maxHeartbeats 4000000
/-! data in the abstract heap, and its repr -/
namespace L2
open PySem PySem.Spec PyProof.Rows
def keyD : Key → PyData
  | .inl i => .int i
  | .inr x => .str x
mutual
/-- v stands for the data d -/
def Dt (K : PySem.W.Frag) (H : Hp) : PyData → V → Prop
  | .none, v => v = .non
  | .bool b, v => v = .bl b
  | .int i, v => v = .int i
  | .str x, v => v = .str x
  | .list ds, v => ∃ (a : Addr) (xs : List V), v = .ref a ∧ SqL K H a xs ∧ Dts K H ds xs
  | .tuple ds, v => ∃ (a : Addr) (xs : List V), v = .ref a ∧ SqT K H a xs ∧ Dts K H ds xs
  | .dict kvs, v => ∃ (a : Addr) (kws : List (Key × V)), v = .ref a ∧ H a = some (.dK kws) ∧ Dtk K H kvs kws
def Dts (K : PySem.W.Frag) (H : Hp) : List PyData → List V → Prop
  | [], xs => xs = []
  | d :: ds, xs => ∃ x r, xs = x :: r ∧ Dt K H d x ∧ Dts K H ds r
def Dtk (K : PySem.W.Frag) (H : Hp) : List (PyData × PyData) → List (Key × V) → Prop
  | [], xs => xs = []
  | (k, d) :: ds, xs => ∃ q x r, xs = (q, x) :: r ∧ k = keyD q ∧ Dt K H d x ∧ Dtk K H ds r
end
theorem Same.sqT {K : PySem.W.Frag} {H H' : Hp} {a : Addr} {xs : List V} (s : Same H H') (h : SqT K H a xs) : SqT K H' a xs := by
  rcases h with h | h
  · refine .inl ?_
    rcases h with h | ⟨o, h⟩
    · exact .inl (s _ _ h)
    · exact .inr ⟨o, s _ _ h⟩
  · exact .inr h
mutual
theorem Dt.same {K : PySem.W.Frag} {H H' : Hp} (s : Same H H') : ∀ (d : PyData) (v : V), Dt K H d v → Dt K H' d v
  | .none, _, h => h
  | .bool _, _, h => h
  | .int _, _, h => h
  | .str _, _, h => h
  | .list ds, _, ⟨a, xs, e, q, r⟩ => ⟨a, xs, e, s.seq q, Dts.same s ds xs r⟩
  | .tuple ds, _, ⟨a, xs, e, q, r⟩ => ⟨a, xs, e, s.sqT q, Dts.same s ds xs r⟩
  | .dict ds, _, ⟨a, xs, e, q, r⟩ => ⟨a, xs, e, s _ _ q, Dtk.same s ds xs r⟩
theorem Dts.same {K : PySem.W.Frag} {H H' : Hp} (s : Same H H') : ∀ (ds : List PyData) (xs : List V), Dts K H ds xs → Dts K H' ds xs
  | [], _, h => h
  | d :: ds, _, ⟨x, r, e, h1, h2⟩ => ⟨x, r, e, Dt.same s d x h1, Dts.same s ds r h2⟩
theorem Dtk.same {K : PySem.W.Frag} {H H' : Hp} (s : Same H H') : ∀ (ds : List (PyData × PyData)) (xs : List (Key × V)), Dtk K H ds xs → Dtk K H' ds xs
  | [], _, h => h
  | (k, d) :: ds, _, ⟨q, x, r, e, ek, h1, h2⟩ => ⟨q, x, r, e, ek, Dt.same s d x h1, Dtk.same s ds r h2⟩
end
/-- the table of modules is a dict of the written part -/
def SysK (K : PySem.W.Frag) : Prop := ∃ o, K.lookup sysModules = some o ∧ o.cls = .type "dict"
section
variable {X : Cx} {pins : List (Addr × Obj)} {σ : L2.St} {H : Hp} {s : Shared}
theorem sys_ne (I : Inv X pins σ H s) (hs : SysK X.K) {a : Addr} {o : Obj} {T : String} (h : s.heap.get? a = some o) (c : o.cls = .type T) (n : T ≠ "dict") : sysModules ≠ a := fun e => by
  obtain ⟨u, hu, cu⟩ := hs
  have z := I.kIn _ _ hu
  rw [e, h] at z
  cases z
  rw [c] at cu
  cases cu
  exact n rfl
theorem keys_read {P : Program} {w : World} {h : Heap} : ∀ {es : List DictEntry} {vs : List (Key × Value)} {kws : List (Key × V)} {kvs : List (PyData × PyData)}, Pairs (mixKind P w) es vs → KV kws vs → (kvs.map (·.1) = kws.map fun q => keyD q.1) →
    ReadsAll h (es.map (·.key)) (kvs.map (·.1)) []
  | _, _, _, kvs, .nil, .nil, e => by
    rw [e]
    exact .nil
  | _, _, _, kvs, .cons (e := en) (kv := kv) hk hv ps, .cons r rs, e => by
    cases kvs with
    | nil => cases e
    | cons p ps' =>
      injection e with e1 e2
      have ih := keys_read (h := h) ps rs e2
      have e3 : p.1 = keyD kv.1 := Eq.trans e1 (congrArg keyD r.1)
      have hk : keyIs kv.1 en.key = true := hk
      have rd : Reads h en.key p.1 [] := by
        rw [e3]
        rcases keyIs_shape hk with ⟨i, t, q1, q2⟩ | ⟨x, t, q1, q2⟩
        · rw [q1, q2]
          exact .int i t
        · rw [q1, q2]
          exact .str x t
      exact ReadsAll.cons (as := []) (bs := []) rd ih
mutual
theorem Dt.reads (I : Inv X pins σ H s) (hs : SysK X.K) : ∀ (d : PyData) (v : V) (u : Value), Dt X.K H d v → RelV v u → ∃ as, Reads s.heap u d as ∧ sysModules ∉ as
  | .none, v, u, h, r => by
    cases (show v = .non from h)
    cases r
    exact ⟨[], .none, by simp⟩
  | .bool b, v, u, h, r => by
    cases (show v = .bl b from h)
    cases r
    exact ⟨[], .bool b, by simp⟩
  | .int i, v, u, h, r => by
    cases (show v = .int i from h)
    obtain ⟨t, rfl⟩ := r
    exact ⟨[], .int i t, by simp⟩
  | .str x, v, u, h, r => by
    cases (show v = .str x from h)
    obtain ⟨t, rfl⟩ := r
    exact ⟨[], .str x t, by simp⟩
  | .list ds, v, u, h, r => by
    obtain ⟨a, xs, e, q, hd⟩ := h
    subst e
    cases r
    obtain ⟨its, rv, ⟨o, n, ho, hc, _, hdt⟩, _⟩ := I.list q
    obtain ⟨as, hr, hn⟩ := Dts.reads I hs ds xs its hd rv
    refine ⟨a :: as, .list ho hc hdt hr, fun z => ?_⟩
    rcases List.mem_cons.mp z with z | z
    · exact sys_ne I hs ho hc (by decide) z
    · exact hn z
  | .tuple ds, v, u, h, r => by
    obtain ⟨a, xs, e, q, hd⟩ := h
    subst e
    cases r
    obtain ⟨its, rv, ⟨o, ho, hc, n, hdt⟩, _⟩ := I.tuple q
    obtain ⟨as, hr, hn⟩ := Dts.reads I hs ds xs its hd rv
    exact ⟨as, .tuple ho hc hdt hr, hn⟩
  | .dict kvs, v, u, h, r => by
    obtain ⟨a, kws, e, q, hd⟩ := h
    subst e
    cases r
    obtain ⟨_, hsy, vs, kv, o, es, ep, ho, ⟨hc, _, _⟩, hdt, _, hp, _⟩ := (show ObjOk X.prog X.w H s.heap a (.dK kws) from I.hok a _ q)
    obtain ⟨ek, bs, hb, hn⟩ := Dtk.reads I hs kvs kws vs es.toList hd kv hp
    have ha : a ≠ sysModules := fun z => by
      rw [z] at hsy
      cases hsy.symm.trans (beq_self_eq_true sysModules)
    refine ⟨a :: [] ++ bs, .dict ho hc hdt (keys_read hp kv ek) hb, fun z => ?_⟩
    rcases List.mem_cons.mp z with z | z
    · exact ha z.symm
    · exact hn z
theorem Dts.reads (I : Inv X pins σ H s) (hs : SysK X.K) : ∀ (ds : List PyData) (vs : List V) (us : List Value), Dts X.K H ds vs → Vals vs us → ∃ as, ReadsAll s.heap us ds as ∧ sysModules ∉ as
  | [], vs, us, h, r => by
    cases (show vs = [] from h)
    cases r
    exact ⟨[], .nil, by simp⟩
  | d :: ds, vs, us, h, r => by
    obtain ⟨x, rr, e, h1, h2⟩ := h
    subst e
    cases r with
    | cons r1 r2 =>
      obtain ⟨as, q1, n1⟩ := Dt.reads I hs d _ _ h1 r1
      obtain ⟨bs, q2, n2⟩ := Dts.reads I hs ds _ _ h2 r2
      refine ⟨as ++ bs, .cons q1 q2, fun z => ?_⟩
      rcases List.mem_append.mp z with z | z
      · exact n1 z
      · exact n2 z
theorem Dtk.reads (I : Inv X pins σ H s) (hs : SysK X.K) : ∀ (kvs : List (PyData × PyData)) (kws : List (Key × V)) (vs : List (Key × Value)) (es : List DictEntry), Dtk X.K H kvs kws → KV kws vs → Pairs (mixKind X.prog X.w) es vs →
    (kvs.map (·.1) = kws.map fun q => keyD q.1) ∧ ∃ as, ReadsAll s.heap (es.map (·.val)) (kvs.map (·.2)) as ∧ sysModules ∉ as
  | [], kws, vs, es, h, r, p => by
    cases (show kws = [] from h)
    cases r
    cases p
    exact ⟨rfl, [], .nil, by simp⟩
  | (k, d) :: ds, kws, vs, es, h, r, p => by
    obtain ⟨q, x, rr, e, ek, h1, h2⟩ := h
    subst e
    cases r with
    | cons r1 r2 =>
      cases p with
      | cons p1 p2 p3 =>
        obtain ⟨e1, e2⟩ := r1
        obtain ⟨as, q1, n1⟩ := Dt.reads I hs d _ _ h1 e2
        obtain ⟨ee, bs, q2, n2⟩ := Dtk.reads I hs ds _ _ _ h2 r2 p3
        refine ⟨by rw [List.map_cons, List.map_cons, ee, ek], as ++ bs, ?_, fun z => ?_⟩
        · refine ReadsAll.cons ?_ q2
          dsimp only
          rw [p2]
          exact q1
        · rcases List.mem_append.mp z with z | z
          · exact n1 z
          · exact n2 z
end
/-- repr(e) of data -/
def rRepr (K : PySem.W.Frag) : List V → Hp → VK → Prop := fun xs H Q => ∃ (v : V) (d : PyData), xs = [v] ∧ Dt K H d v ∧ d.showable = true ∧ d.depth ≤ 60 ∧ d.shown.length ≤ sizeLine ∧ Q (.str d.shown) H
theorem call_reprD (hs : SysK X.K) (hg : X.A.guards = some []) (hu : X.A.units + 64 < cLine) : CallR X (.builtin "repr") (rRepr X.K) := by
  intro pins s σ H xs us Q I r h
  obtain ⟨v, d, rfl, hd, sh, dp, sz, q⟩ := h
  obtain ⟨u, rfl, rv⟩ := vals1 r
  obtain ⟨as, rd, hn⟩ := Dt.reads I hs d v u hd rv
  have fin : ∀ h' tk t, (∀ b o, s.heap.get? b = some o → h'.get? b = some o) → EP X pins σ Q (.str d.shown t) { s with heap := h', toks := tk } :=
    fun h' tk t k => ⟨.str d.shown, H, I.kept k, ⟨t, rfl⟩, q⟩
  cases rd with
  | none => exact PySem.P.repr_of_none (fin s.heap _ _ fun _ _ e => e)
  | bool b => exact PySem.P.repr_of_bool (fin s.heap _ _ fun _ _ e => e)
  | int i t => exact PySem.P.repr_of_int (of_decide_eq_true sh) (fin s.heap _ _ fun _ _ e => e)
  | str x t => exact PySem.P.repr_of_str (fin s.heap _ _ fun _ _ e => e) sz
  | list h1 h2 h3 h4 => exact repr_of_reads' (.list h1 h2 h3 h4) sh (fun _ => hn) hg (by omega) (fun _ _ e => e) (fun h' u tk k => fin h' tk u k) sz
  | tuple h1 h2 h3 h4 => exact repr_of_reads' (.tuple h1 h2 h3 h4) sh (fun _ => hn) hg (by omega) (fun _ _ e => e) (fun h' u tk k => fin h' tk u k) sz
  | dict h1 h2 h3 h4 h5 => exact repr_of_reads' (.dict h1 h2 h3 h4 h5) sh (fun _ => hn) hg (by omega) (fun _ _ e => e) (fun h' u tk k => fin h' tk u k) sz
end
end L2
set_option Elab.async false
set_option linter.all false
set_option maxRecDepth 100000
set_option maxHeartbeats 4000000
/-! the head's facts with one Bool of one's own, and the table of modules -/
namespace L2
open PySem PySem.Spec PyProof.Rows
def frY (g : Addr → Option Obj) (n : Nat) : PySem.W.Frag := He.frG g (sysModules :: He.asD g n)
def sysB (K : PySem.W.Frag) : Bool := match K.lookup sysModules with
  | some ⟨.type c, _, _, _⟩ => decide (c = "dict")
  | _ => false
theorem sysB_ok {K : PySem.W.Frag} (h : sysB K = true) : SysK K := by
  unfold sysB at h
  split at h
  · rename_i c d dt sl e
    exact ⟨_, e, congrArg Value.type (of_decide_eq_true h)⟩
  · cases h
structure SaysY (fa : List He.Fa) (fn : List He.DefD) (ex : PySem.W.Frag → Bool) (K : PySem.W.Frag) : Prop where
  d : He.SaysD fa fn K
  more : ex K = true
  sys : SysK K
abbrev AlY : Type := He.AlD × Bool
def obsY (n : Nat) (fa : List He.Fa) (fn : List He.DefD) (ex : PySem.W.Frag → Bool) (g : Addr → Option Obj) : AlY :=
  (He.obsD fa fn (frY g n), ex (frY g n) && sysB (frY g n))
def hookY (n : Nat) (fa : List He.Fa) (fn : List He.DefD) (ex : PySem.W.Frag → Bool) : PySem.W.Hook where
  α := AlY
  obs := fun s => obsY n fa fn ex s.heap.get?
  val := fun _ => (He.valD fn, true)
  says := fun _ h => ∃ K : PySem.W.Frag, K.In h ∧ SaysY fa fn ex K
  of := fun _ s e => ⟨frY s.heap.get? n, He.frG_in, congrArg (fun z : AlY => z.1) e,
    (He.ba (congrArg (fun z : AlY => z.2) e)).1, sysB_ok (He.ba (congrArg (fun z : AlY => z.2) e)).2⟩
  keeps := fun _ _ _ ⟨K, hK, c⟩ k => ⟨K, PySem.W.Frag.In.keeps hK k, c⟩
theorem obsY_eq {n : Nat} {fa : List He.Fa} {fn : List He.DefD} {ex : PySem.W.Frag → Bool} {g : Addr → Option Obj} {s : Shared}
    (h : ∀ a, g a = s.heap.get? a) : obsY n fa fn ex g = (hookY n fa fn ex).obs s := by
  rw [show g = s.heap.get? from funext h]
  rfl
end L2
set_option Elab.async false
set_option linter.all false
set_option maxRecDepth 100000
set_option maxHeartbeats 4000000
/-! tuple(range(a, b)) -/
namespace PySem
namespace TR
open AutoSeq1 (wpAny_loadPart')
section
variable {prog : Program} {w : World} {A : Around} {E : Value → Shared → Prop} {s : Shared}
variable {r : Addr} {a b c : Int} {t u v : Tok} {n : Nat}
theorem collect_rng {Q : List Value → Shared → Prop} (hh : A.handled = none) (hr : IsRange s.heap r a b c t u v)
    (hsmall : Builtin.Range.small a b c = true) (hn : Builtin.Range.rangeSize a b c = n) (hlen : n ≤ 2 ^ 24)
    (hQ : ∀ h' tk acc, (∀ b o, s.heap.get? b = some o → h'.get? b = some o) → ItemsOf (fun i v => ∃ t, v = .int (a + i * c) t) acc n →
      Q acc.toList { s with heap := h', toks := tk }) : wpAny (model prog w) A (collect (.ref r)) Q E s := by
  unfold collect
  refine wpAny_bind (wpAny_runValue (codeAny_builtin F.entry_proto_collect ?_))
  rw [Around.under_plainId F.plain_proto_collect _]
  show wpAny _ A.in1 (newList [] >>= fun l => again (.builtin "list.__iadd__" ⟨[l, .ref r], []⟩)) _ _ s
  refine wpAny_bind (wpAny_newObj_type ?_)
  refine wpAny_pure ⟨plainId_quiet F.plain_list_iadd _, codeAny_builtin F.entry_list_iadd ?_⟩
  rw [Around.under_plainId F.plain_list_iadd _]
  show wpAny _ A.in1 (Builtin.List.listExtendWith (.ref s.heap.objs.size) (.ref r) (.ref s.heap.objs.size)) _ _ _
  have hS : (s.heap.push { cls := .type "list", data := .seq ([] : List Value).toArray }).get? s.heap.objs.size = some { cls := .type "list", data := .seq #[] 0 } :=
    Heap.get?_push_size _ rfl
  have fin : ∀ s' : Shared, (∃ h' tk acc c', s' = { s with heap := h', toks := tk } ∧ (∀ b o, s.heap.get? b = some o → h'.get? b = some o) ∧
      h'.get? s.heap.objs.size = some { cls := .type "list", dict := none, data := .seq acc c', slots := #[] } ∧ ItemsOf (fun i v => ∃ t, v = .int (a + i * c) t) acc n) →
      wpAny (model prog w) A (match Value.ref s.heap.objs.size with
        | Value.ref a => do
          match (← load a).data with
            | Data.seq xs _ => pure xs.toList
            | _ => unsupported "internal:collect"
        | _ => unsupported "internal:collect") Q E s' := by
    rintro s' ⟨h', tk, acc, c', rfl, hk, hS', hi⟩
    show wpAny _ A (load s.heap.objs.size >>= _) _ _ _
    exact wpAny_bind (wpAny_load hS' (wpAny_pure (hQ h' tk acc hk hi)))
  refine wpAny_mono (wpAny_extend_range (A := A) (R := fun r s' => r = .ok (.ret (.ref s.heap.objs.size)) ∧ ∃ h' tk acc c', s' = { s with heap := h', toks := tk } ∧
      (∀ b o, s.heap.get? b = some o → h'.get? b = some o) ∧ h'.get? s.heap.objs.size = some { cls := .type "list", dict := none, data := .seq acc c', slots := #[] } ∧
      ItemsOf (fun i v => ∃ t, v = .int (a + i * c) t) acc n)
    (s := { s with heap := s.heap.push { cls := .type "list", data := .seq ([] : List Value).toArray } }) hh (Heap.get?_push_of_some _ hr) hsmall hn hlen _ _ 0 hS
    fun h' tk acc c' hk hS' hi => ⟨rfl, h', tk, acc, c', rfl, fun b o e => hk b o (Nat.ne_of_lt (Heap.lt_size e)) (Heap.get?_push_of_some _ e), hS', hi⟩) (fun f s' h => ?_) (fun e s' h => ?_)
  · cases f with
    | done f =>
      obtain ⟨e, h⟩ := h
      cases e
      exact fin s' h
    | again c' => exact ⟨h.1, codeAny_mono h.2 fun r s'' hr => by
        obtain ⟨rfl, h⟩ := hr
        exact fin s'' h⟩
  · exact absurd h.1 (by simp)
end
theorem meets_tup_rng (r : Addr) (a b c : Int) (t u v : Tok) (n : Nat) (hsmall : Builtin.Range.small a b c = true) (hn : Builtin.Range.rangeSize a b c = n) (hlen : n ≤ 2 ^ 24) :
    Meets (Builtin.«tuple.__new__» ⟨[.type "tuple", .ref r], []⟩)
      (fun A R s => A.handled = none ∧ IsRange s.heap r a b c t u v ∧ ∀ (h' : Heap) (tk : Nat) (acc : Array Value), (∀ b o, s.heap.get? b = some o → h'.get? b = some o) →
        ItemsOf (fun i v => ∃ t, v = .int (a + i * c) t) acc n → R (.ok (.ret (.ref h'.objs.size))) { s with heap := h'.push { cls := .type "tuple", data := .seq acc }, toks := tk }) :=
  .of_wp fun prog w A R s h => by
    obtain ⟨hp, g, d, tk, os⟩ := s
    obtain ⟨hh, hr, h⟩ := h
    have hsub := sub_tuple_self
    have hinit := init_tuple_lookup
    have hmh := madeHere_tuple
    have hT : Shared.TypeIs ⟨hp, g, d, tk, os⟩ (.ref r) "range" := ⟨_, hr, rfl⟩
    wp_walk using wpAny_loadPart' hr, wpAny_typeOf hT, collect_rng (A := A.in1) hh hr hsmall hn hlen
    intro h' tk' acc hk hi
    show wpAny _ _ (Builtin.Tuple.tupleExact acc.toList.toArray >>= fun v => ret v) _ _ _
    unfold Builtin.Tuple.tupleExact
    refine wpAny_bind (wpAny_newObj_type ?_ (by show acc.toList.toArray.size ≤ sizeLine; rw [sizeLine_eq]; simp only [Array.toArray_toList, hi.1]; omega))
    refine wpAny_pure ⟨_, rfl, ?_⟩
    rw [show acc.toList.toArray = acc by simp]
    exact h h' tk' acc hk hi
end TR
end PySem
namespace L2
open PySem PySem.Spec PyProof.Rows
def rangeL (lo hi : Int) : List Int := (List.range (hi - lo).toNat).map fun i : Nat => lo + i
theorem vals_rng {lo : Int} : ∀ {n : Nat} {acc : Array Value}, ItemsOf (fun i v => ∃ t, v = Value.int (lo + i * 1) t) acc n → Vals ((List.range n).map fun i : Nat => V.int (lo + i)) acc.toList := by
  intro n acc h
  have key : ∀ (l : List Value) (o : Nat), (∀ j v, l[j]? = some v → ∃ t, v = Value.int (lo + ((o + j : Nat) : Int) * 1) t) → Vals ((List.range' o l.length).map fun i : Nat => V.int (lo + i)) l := by
    intro l
    induction l with
    | nil => exact fun _ _ => .nil
    | cons x l ih =>
      intro o hx
      rw [List.length_cons, List.range'_succ, List.map_cons]
      refine .cons ?_ (ih (o + 1) fun j v e => ?_)
      · obtain ⟨t, e⟩ := hx 0 x rfl
        refine ⟨t, ?_⟩
        rw [e, Nat.add_zero, Int.mul_one]
      · obtain ⟨t, e⟩ := hx (j + 1) v e
        refine ⟨t, ?_⟩
        rw [e]
        congr 3
        omega
  have z := key acc.toList 0 fun j v e => by
    obtain ⟨t, e⟩ := h.2 j v (by rw [← Array.getElem?_toList]; exact e)
    exact ⟨t, by rw [e, Nat.zero_add]⟩
  rw [Array.length_toList, h.1, ← List.range_eq_range'] at z
  exact z
section
variable {X : Cx}
def rTupR : List V → Hp → VK → Prop := fun xs H Q => ∃ (a : Addr) (lo hi : Int), xs = [.ref a] ∧ H a = some (.rng lo hi) ∧ (-(2 ^ 40) ≤ lo ∧ lo < 2 ^ 40 ∧ -(2 ^ 40) ≤ hi ∧ hi < 2 ^ 40) ∧ (hi - lo).toNat ≤ 1000 ∧
  ∀ l, H l = none → Q (.ref l) (upd H l (.tup ((rangeL lo hi).map V.int)))
theorem call_tupR (hc : X.calm = true) : CallR X (.type "tuple") rTupR := by
  intro pins s σ H xs us Q I r h
  obtain ⟨a, lo, hi, rfl, ha, ⟨b1, b2, b3, b4⟩, bl, q⟩ := h
  obtain ⟨u, rfl, rx⟩ := vals1 r
  cases rx
  obtain ⟨t1, t2, t3, hr⟩ := (show ObjOk X.prog X.w H s.heap a (.rng lo hi) from I.hok a _ ha)
  have hz : (hi - lo).toNat ≤ sizeLine := Nat.le_of_lt (small1000 bl)
  have hsm : Builtin.Range.small lo hi 1 = true := small_one (by omega) (by omega) (by omega) (by omega)
  have hn : Builtin.Range.rangeSize lo hi 1 = (((hi - lo).toNat : Nat) : Int) := by
    rw [rangeSize_one]
    split <;> omega
  refine callType_new F.called_tuple (by decide) (F.typeCall_tuple_1 _) (F.newCall_tuple_1 _) (fun obj => F.args_object_init_2 obj _) F.entry_tuple_new
    (PySem.TR.meets_tup_rng a lo hi 1 t1 t2 t3 (hi - lo).toNat hsm hn (by omega)) ⟨I.ok.hd hc, hr, fun h' tk acc hk hi' => ⟨⟨_, Heap.get?_push_size _ rfl, rfl⟩, ?_⟩⟩
  have I1 : Inv X pins σ H { s with heap := h', toks := tk } := I.kept hk
  have rv := vals_rng hi'
  have rv2 : Vals ((rangeL lo hi).map V.int) acc.toList := by
    unfold rangeL
    rw [List.map_map]
    exact rv
  have I2 : Inv X pins σ (upd H h'.objs.size (.tup ((rangeL lo hi).map V.int))) { s with heap := h'.push { cls := .type "tuple", data := .seq acc }, toks := tk } :=
    I1.laid (t' := tk) (fun b o e => Heap.get?_push_of_some _ e) (Nat.le_refl _)
      (show ObjOk X.prog X.w _ _ _ (.tup ((rangeL lo hi).map V.int)) from ⟨by rw [Vals.length rv2, Array.length_toList, hi'.1]; exact hz, acc.toList, rv2, by simpa using IsTup.new h' acc⟩)
  exact ⟨.ref h'.objs.size, _, I2, rfl, q _ (I1.hok.fresh (Nat.le_refl _))⟩
end
end L2
set_option linter.all false
/-! chains of parents, in preorder: plain mathematics -/
namespace PM
def way (ps : List Int) : Nat → Int → List Int
  | 0, _ => []
  | k + 1, a => if a < 0 then [] else a :: way ps k (ps.getD a.toNat (-1))
def W (ps : List Int) (a : Int) : List Int := way ps (a.toNat + 1) a
def Low (ps : List Int) : Prop := ∀ (i : Nat) (p : Int), ps[i]? = some p → -1 ≤ p ∧ p < i
theorem way_neg (ps : List Int) {a : Int} (h : a < 0) : ∀ k, way ps k a = []
  | 0 => rfl
  | k + 1 => by unfold way; rw [if_pos h]
theorem W_neg (ps : List Int) {a : Int} (h : a < 0) : W ps a = [] := way_neg ps h _
theorem par_of {ps : List Int} {a : Int} (h0 : 0 ≤ a) (h1 : a < ps.length) : ps[a.toNat]? = some (ps.getD a.toNat (-1)) := by
  have : a.toNat < ps.length := by omega
  rw [List.getD_eq_getElem?_getD, List.getElem?_eq_getElem this]
  rfl
theorem low_par {ps : List Int} (h : Low ps) {a : Int} (h0 : 0 ≤ a) (h1 : a < ps.length) : -1 ≤ ps.getD a.toNat (-1) ∧ ps.getD a.toNat (-1) < a := by
  have z := h _ _ (par_of h0 h1)
  omega
theorem way_fuel {ps : List Int} (h : Low ps) : ∀ (n k m : Nat) (a : Int), a.toNat ≤ n → a < ps.length → a.toNat < k → a.toNat < m → way ps k a = way ps m a
  | n, 0, _, _, _, _, hk, _ => absurd hk (Nat.not_lt_zero _)
  | n, _, 0, _, _, _, _, hm => absurd hm (Nat.not_lt_zero _)
  | n, k + 1, m + 1, a, hn, hl, hk, hm => by
    by_cases c : a < 0
    · rw [way_neg ps c, way_neg ps c]
    · unfold way
      rw [if_neg c, if_neg c]
      have z := low_par h (Int.not_lt.mp c) hl
      by_cases d : ps.getD a.toNat (-1) < 0
      · rw [way_neg ps d, way_neg ps d]
      · cases n with
        | zero => omega
        | succ n => rw [way_fuel h n k m (ps.getD a.toNat (-1)) (by omega) (by omega) (by omega) (by omega)]
theorem W_step {ps : List Int} (h : Low ps) {a : Int} (h0 : 0 ≤ a) (h1 : a < ps.length) : W ps a = a :: W ps (ps.getD a.toNat (-1)) := by
  have z := low_par h h0 h1
  have e : W ps a = a :: way ps a.toNat (ps.getD a.toNat (-1)) := by
    show (if a < 0 then [] else a :: way ps a.toNat (ps.getD a.toNat (-1))) = _
    rw [if_neg (by omega)]
  rw [e]
  by_cases d : ps.getD a.toNat (-1) < 0
  · rw [way_neg ps d, W_neg ps d]
  · unfold W
    rw [way_fuel h (ps.getD a.toNat (-1)).toNat a.toNat _ _ (Nat.le_refl _) (by omega) (by omega) (Nat.lt_succ_self _)]
theorem W_ind {ps : List Int} (h : Low ps) (P : Int → Prop) (neg : ∀ a : Int, a < 0 → P a) (step : ∀ a : Int, 0 ≤ a → a < (ps.length : Int) → P (ps.getD a.toNat (-1)) → P a) :
    ∀ a : Int, a < ps.length → P a := by
  have k : ∀ (n : Nat) (a : Int), a.toNat ≤ n → a < ps.length → P a := by
    intro n
    induction n with
    | zero =>
      intro a hn hl
      by_cases c : a < 0
      · exact neg a c
      · have z := low_par h (Int.not_lt.mp c) hl
        exact step a (by omega) hl (neg _ (by omega))
    | succ n ih =>
      intro a hn hl
      by_cases c : a < 0
      · exact neg a c
      · have z := low_par h (Int.not_lt.mp c) hl
        exact step a (by omega) hl (ih _ (by omega) (by omega))
  exact fun a hl => k a.toNat a (Nat.le_refl _) hl
theorem W_bounds {ps : List Int} (h : Low ps) : ∀ a : Int, a < ps.length → ∀ x ∈ W ps a, 0 ≤ x ∧ x ≤ a :=
  W_ind h _ (fun a c x m => by rw [W_neg ps c] at m; cases m) fun a h0 h1 ih x m => by
    rw [W_step h h0 h1] at m
    have z := low_par h h0 h1
    rcases List.mem_cons.mp m with e | m
    · omega
    · have := ih x m
      omega
theorem W_self {ps : List Int} (h : Low ps) {a : Int} (h0 : 0 ≤ a) (h1 : a < ps.length) : a ∈ W ps a := by
  rw [W_step h h0 h1]
  exact List.mem_cons_self
theorem W_suffix {ps : List Int} (h : Low ps) : ∀ a : Int, a < ps.length → ∀ x ∈ W ps a, W ps x <:+ W ps a :=
  W_ind h _ (fun a c x m => by rw [W_neg ps c] at m; cases m) fun a h0 h1 ih x m => by
    rw [W_step h h0 h1] at m
    rcases List.mem_cons.mp m with e | m
    · rw [e]
      exact List.suffix_refl _
    · rw [W_step h h0 h1]
      exact (ih x m).trans (List.suffix_cons _ _)
theorem W_trans {ps : List Int} (h : Low ps) {a x y : Int} (h1 : a < ps.length) (hx : x ∈ W ps a) (hy : y ∈ W ps x) : y ∈ W ps a :=
  (W_suffix h a h1 x hx).subset hy
theorem W_order {ps : List Int} (h : Low ps) {a x y : Int} (h1 : a < ps.length) (hx : x ∈ W ps a) (hy : y ∈ W ps a) (l : (W ps y).length ≤ (W ps x).length) : y ∈ W ps x := by
  have by_ := W_bounds h a h1 y hy
  have s := List.suffix_of_suffix_length_le (W_suffix h a h1 y hy) (W_suffix h a h1 x hx) l
  exact s.subset (W_self h by_.1 (by omega))
theorem W_len_lt {ps : List Int} (h : Low ps) {a x : Int} (h1 : a < ps.length) (hx : x ∈ W ps a) (ne : x ≠ a) : (W ps x).length < (W ps a).length := by
  have b := W_bounds h a h1 x hx
  have h0 : 0 ≤ a := by omega
  rw [W_step h h0 h1] at hx ⊢
  rcases List.mem_cons.mp hx with e | m
  · exact absurd e ne
  · have z := low_par h h0 h1
    have s := (W_suffix h _ (by omega) x m).length_le
    rw [List.length_cons]
    omega
theorem W_pos {ps : List Int} (h : Low ps) {a : Int} (h0 : 0 ≤ a) (h1 : a < ps.length) : 0 < (W ps a).length := by
  rw [W_step h h0 h1]
  exact Nat.succ_pos _
theorem getD_append_lt {ps : List Int} {q : Int} {i : Nat} (h : i < ps.length) : (ps ++ [q]).getD i (-1) = ps.getD i (-1) := by
  rw [List.getD_eq_getElem?_getD, List.getD_eq_getElem?_getD, List.getElem?_append_left h]
theorem low_snoc {ps : List Int} (h : Low ps) {q : Int} (h0 : -1 ≤ q) (h1 : q < ps.length) : Low (ps ++ [q]) := by
  intro i p e
  by_cases c : i < ps.length
  · rw [List.getElem?_append_left c] at e
    exact h i p e
  · rw [List.getElem?_append_right (by omega)] at e
    have z : i - ps.length = 0 := by
      have := (List.getElem?_eq_some_iff.mp e).1
      simp at this
      omega
    rw [z] at e
    have e' : q = p := Option.some.inj e
    omega
theorem W_snoc {ps : List Int} (h : Low ps) {q : Int} (q0 : -1 ≤ q) (q1 : q < ps.length) : ∀ a : Int, a < ps.length → W (ps ++ [q]) a = W ps a :=
  W_ind h _ (fun a c => by rw [W_neg _ c, W_neg _ c]) fun a h0 h1 ih => by
    have hl : (a : Int) < (ps ++ [q]).length := by
      rw [List.length_append]
      omega
    rw [W_step (low_snoc h q0 q1) h0 hl, W_step h h0 h1, getD_append_lt (by omega), ih]
/-- parents in preorder -/
structure Pre (ps : List Int) : Prop where
  pos : 0 < ps.length
  zero : ps[0]? = some (-1)
  low : Low ps
  pre : ∀ (i : Nat) (p : Int), ps[i + 1]? = some p → p ∈ W ps i
theorem Pre.one : Pre [-1] := ⟨Nat.succ_pos _, rfl, fun i p e => by
    cases i with
    | zero =>
      have e' : (-1 : Int) = p := Option.some.inj e
      omega
    | succ i => simp at e, fun i p e => by simp at e⟩
theorem Pre.snoc {ps : List Int} (h : Pre ps) {q : Int} (m : q ∈ W ps ((ps.length : Int) - 1)) : Pre (ps ++ [q]) := by
  have hp := h.pos
  have b := W_bounds h.low _ (by omega) q m
  refine ⟨by rw [List.length_append]; omega, by rw [List.getElem?_append_left hp]; exact h.zero, low_snoc h.low (by omega) (by omega), fun i p e => ?_⟩
  by_cases c : i + 1 < ps.length
  · rw [List.getElem?_append_left c] at e
    rw [W_snoc h.low (by omega) (by omega) _ (by omega)]
    exact h.pre i p e
  · rw [List.getElem?_append_right (by omega)] at e
    have z : i + 1 - ps.length = 0 := by
      have := (List.getElem?_eq_some_iff.mp e).1
      simp at this
      omega
    rw [z] at e
    have e' : q = p := Option.some.inj e
    rw [← e', W_snoc h.low (by omega) (by omega) _ (by omega)]
    have : ((ps.length : Int) - 1) = (i : Int) := by omega
    rw [← this]
    exact m
theorem Pre.par {ps : List Int} (h : Pre ps) {a : Int} (h0 : 0 < a) (h1 : a < ps.length) : 0 ≤ ps.getD a.toNat (-1) ∧ ps.getD a.toNat (-1) < a ∧ ps.getD a.toNat (-1) ∈ W ps (a - 1) := by
  obtain ⟨i, hi⟩ : ∃ i : Nat, a = (i : Int) + 1 := ⟨(a - 1).toNat, by omega⟩
  have e : a.toNat = i + 1 := by omega
  have z := par_of (ps := ps) (a := a) (by omega) h1
  rw [e] at z ⊢
  have m := h.pre i _ z
  have b := W_bounds h.low _ (by omega) _ m
  refine ⟨b.1, by omega, ?_⟩
  rw [hi, Int.add_sub_cancel]
  exact m
theorem Pre.root {ps : List Int} (h : Pre ps) : ps.getD 0 (-1) = -1 := by
  rw [List.getD_eq_getElem?_getD, h.zero]
  rfl
/-- every chain ends in 0 -/
theorem Pre.zero_in {ps : List Int} (h : Pre ps) : ∀ a : Int, a < ps.length → 0 ≤ a → (0 : Int) ∈ W ps a :=
  W_ind h.low _ (fun a c z => absurd z (by omega)) fun a h0 h1 ih _ => by
    by_cases c : a = 0
    · rw [c]
      exact W_self h.low (by omega) (by have := h.pos; omega)
    · rw [W_step h.low h0 h1]
      exact List.mem_cons_of_mem _ (ih (h.par (by omega) h1).1)
/-- the scopes inside s are those up to the next one that lies no deeper -/
theorem Pre.inside {ps : List Int} (h : Pre ps) {s e : Nat} (se : s < e) (en : e ≤ ps.length) (hin : ∀ i : Nat, s < i → i < e → (W ps s).length < (W ps i).length)
    (hout : e < ps.length → (W ps e).length ≤ (W ps s).length) : ∀ i : Nat, s ≤ i → i < ps.length → ((s : Int) ∈ W ps i ↔ i < e) := by
  have up : ∀ k : Nat, s + k < e → (s : Int) ∈ W ps ((s + k : Nat) : Int) := by
    intro k
    induction k with
    | zero => exact fun _ => W_self h.low (by omega) (by omega)
    | succ k ih =>
      intro hk
      have ih := ih (by omega)
      have pr := h.par (a := ((s + (k + 1) : Nat) : Int)) (by omega) (by omega)
      have m : ps.getD ((s + (k + 1) : Nat) : Int).toNat (-1) ∈ W ps ((s + k : Nat) : Int) := by
        have e1 : (((s + (k + 1) : Nat) : Int) - 1) = ((s + k : Nat) : Int) := by omega
        rw [← e1]
        exact pr.2.2
      have st := W_step h.low (a := ((s + (k + 1) : Nat) : Int)) (by omega) (by omega)
      have ln := hin (s + (k + 1)) (by omega) hk
      rw [st, List.length_cons] at ln
      rw [st]
      exact List.mem_cons_of_mem _ (W_order h.low (by omega) m ih (by omega))
  have down : ∀ k : Nat, e + k < ps.length → ¬ (s : Int) ∈ W ps ((e + k : Nat) : Int) := by
    intro k
    induction k with
    | zero =>
      intro hk z
      have l := W_len_lt h.low (by omega) z (by omega)
      have := hout (by omega)
      simp only [Nat.add_zero] at l
      omega
    | succ k ih =>
      intro hk z
      have pr := h.par (a := ((e + (k + 1) : Nat) : Int)) (by omega) (by omega)
      rw [W_step h.low (by omega) (by omega)] at z
      rcases List.mem_cons.mp z with z | z
      · omega
      · have e1 : (((e + (k + 1) : Nat) : Int) - 1) = ((e + k : Nat) : Int) := by omega
        rw [e1] at pr
        exact ih (by omega) (W_trans h.low (by omega) pr.2.2 z)
  intro i si il
  constructor
  · intro z
    by_cases c : i < e
    · exact c
    · obtain ⟨k, rfl⟩ : ∃ k, i = e + k := ⟨i - e, by omega⟩
      exact absurd z (down k il)
  · intro c
    obtain ⟨k, rfl⟩ : ∃ k, i = s + k := ⟨i - s, by omega⟩
    exact up k c
/-! ### homes -/
def homeN : List Int → Int → Nat
  | [], _ => 0
  | c :: r, d => if d < c then 0 else homeN r (d - c) + 1
def homesFrom : Nat → List Int → List Int
  | _, [] => []
  | o, c :: r => List.replicate c.toNat (o : Int) ++ homesFrom (o + 1) r
theorem homes_at : ∀ (cs : List Int) (o i : Nat) (d c : Int), (∀ c ∈ cs, 0 ≤ c) → cs[i]? = some c → (cs.take i).sum ≤ d → d < (cs.take i).sum + c → (homesFrom o cs)[d.toNat]? = some ((o + i : Nat) : Int)
  | [], o, i, d, c, _, h, _, _ => by simp at h
  | b :: r, o, 0, d, c, nn, h, h0, h1 => by
    have e : b = c := Option.some.inj h
    subst e
    simp only [List.take_zero, List.sum_nil] at h0 h1
    unfold homesFrom
    rw [List.getElem?_append_left (by rw [List.length_replicate]; omega), List.getElem?_replicate, if_pos (by omega)]
    rfl
  | b :: r, o, i + 1, d, c, nn, h, h0, h1 => by
    have b0 := nn b List.mem_cons_self
    rw [List.take_succ_cons, List.sum_cons] at h0 h1
    have tn : 0 ≤ (r.take i).sum := by
      have k : ∀ l : List Int, (∀ x ∈ l, 0 ≤ x) → 0 ≤ l.sum := by
        intro l
        induction l with
        | nil => exact fun _ => Int.le_refl _
        | cons x l ih =>
          intro hx
          rw [List.sum_cons]
          have := hx x List.mem_cons_self
          have := ih fun y hy => hx y (List.mem_cons_of_mem _ hy)
          omega
      exact k _ fun x hx => nn x (List.mem_cons_of_mem _ (List.mem_of_mem_take hx))
    have ih := homes_at r (o + 1) i (d - b) c (fun x hx => nn x (List.mem_cons_of_mem _ hx)) h (by omega) (by omega)
    unfold homesFrom
    rw [List.getElem?_append_right (by rw [List.length_replicate]; omega), List.length_replicate]
    rw [show d.toNat - b.toNat = (d - b).toNat by omega, ih]
    congr 2
    omega
end PM
set_option Elab.async false
set_option linter.all false
set_option maxRecDepth 100000
set_option maxHeartbeats 0
namespace K05
open PySem PySem.Spec PyProof.Rows L2
def topS (i : Nat) : Stmt := PySem.Challenge.pw_renamesteps_k05_lookups.main.body.getD i (.Pass ⟨0, 0, 0, 0⟩)
abbrev s_is_whole : Stmt := topS 6
abbrev s_is_number_below : Stmt := topS 7
abbrev s_check_scope : Stmt := topS 8
abbrev s_declaration_count : Stmt := topS 9
abbrev s_declarations_of : Stmt := topS 10
abbrev s_enclosing_scopes : Stmt := topS 11
abbrev s_look_up : Stmt := topS 13
abbrev s_law_hand : Stmt := topS 15
abbrev s_law_take : Stmt := topS 16
abbrev s_law_pick : Stmt := topS 17
abbrev s_law_program : Stmt := topS 18
abbrev s_law_home : Stmt := topS 19
abbrev s_law_outward : Stmt := topS 20
abbrev s_law_tables : Stmt := topS 21
abbrev s_law_right : Stmt := topS 22
abbrev slaw : Stmt := topS 23
def dD (x : Str) (i : Nat) : He.DefD := ⟨(x, none), x, x, defArgs (topS i), defBody (topS i), defScope (topS i), [], []⟩
def fn : List He.DefD := [dD "is_whole" 6, dD "is_number_below" 7, dD "check_scope" 8, dD "declaration_count" 9, dD "declarations_of" 10, dD "enclosing_scopes" 11, dD "look_up" 13, dD "_law_hand" 15, dD "_law_take" 16, dD "_law_pick" 17, dD "_law_program" 18, dD "_law_home" 19, dD "_law_outward" 20, dD "_law_tables" 21, dD "_law_right" 22, dD "law" 23]
def fa : List He.Fa := [.glo "is_whole", .glo "is_number_below", .glo "check_scope", .glo "declaration_count", .glo "declarations_of", .glo "enclosing_scopes", .glo "look_up", .glo "_law_hand", .glo "_law_take", .glo "_law_pick", .glo "_law_program", .glo "_law_home", .glo "_law_outward", .glo "_law_tables", .glo "_law_right", .glo "law", .free "abs", .free "int", .free "len", .free "range", .free "max", .free "min", .free "isinstance", .free "bool", .free "tuple", .free "sum", .free "sorted", .free "enumerate", .free "repr", .free "dict", .free "list", .free "str", .int "PARENT" 0, .int "COUNT" 1]
def ex (_ : PySem.W.Frag) : Bool := true
def loose : List Str := ["RenameError", "NoScope", "PARENT", "COUNT", "is_whole", "is_number_below", "check_scope", "declaration_count", "declarations_of", "enclosing_scopes", "look_up", "_law_hand", "_law_take", "_law_pick", "_law_program", "_law_home", "_law_outward", "_law_tables", "_law_right"]
abbrev R : PySem.W.OpenRow := PySem.W.OpenLaw.row PySem.Challenge.rw_renamesteps_k05_lookups
abbrev hk : PySem.W.Hook := hookY 5 fa fn ex
def ob (s : PySem.W.SharedT) : AlY := obsY 5 fa fn ex (HandSHeadRun.getT s)
theorem ob_eq (s : PySem.W.SharedT) : ob s = hk.obs s.abs := obsY_eq (HandSHeadRun.getT_eq s)
theorem run (w : World) : HandSHeadRun.RunEq R (PySem.W.view R.prog [23]) hk ob 8000 loose w := by
  intro os
  kernel_rfl
end K05
set_option Elab.async false
set_option linter.all false
set_option maxRecDepth 100000
set_option maxHeartbeats 1000000
namespace K05
open PySem PySem.Spec PyProof.Rows L2
abbrev FnP (K : PySem.W.Frag) (x : Str) (st : Stmt) (f : Addr) (fd : FuncData) : Prop :=
  FunD K x x (defArgs st) (defBody st) (defScope st) [] [] f fd
/-! ### the hand: a list of three numbers -/
def HandL (L : List V) (T : Int) : Prop := ∃ g m t : Int, L = [.int g, .int m, .int t] ∧ 0 ≤ g ∧ 0 ≤ m ∧ m < 2305843009213693952 ∧ 0 ≤ t ∧ t ≤ T
theorem HandL.mono {L : List V} {T U : Int} (h : HandL L T) (l : T ≤ U) : HandL L U := by
  obtain ⟨g, m, t, e, h1, h2, h3, h4, h5⟩ := h
  exact ⟨g, m, t, e, h1, h2, h3, h4, by omega⟩
def HandAt (H : Hp) (a : Addr) (T : Int) : Prop := ∃ L, H a = some (.lst L) ∧ HandL L T
theorem HandAt.mono {H : Hp} {a : Addr} {T U : Int} (h : HandAt H a T) (l : T ≤ U) : HandAt H a U := by
  obtain ⟨L, e, h⟩ := h
  exact ⟨L, e, h.mono l⟩
/-- all that stood stands, but what is at a -/
def SameX (a : Addr) (H H' : Hp) : Prop := ∀ b o, b ≠ a → H b = some o → H' b = some o
theorem SameX.trans {a : Addr} {H H1 H2 : Hp} (h : SameX a H H1) (k : SameX a H1 H2) : SameX a H H2 := fun b o n e => k b o n (h b o n e)
theorem SameX.of {a : Addr} {H H' : Hp} (h : Same H H') : SameX a H H' := fun b o _ e => h b o e
theorem SameX.upd {a : Addr} {H : Hp} {o : HO} : SameX a H (upd H a o) := fun b u n e => by
  rw [upd_ne n]
  exact e
theorem SameX.sq {K : PySem.W.Frag} {a b : Addr} {H H' : Hp} {xs : List V} (h : SameX a H H') (n : b ≠ a) (q : SqL K H b xs) : SqL K H' b xs := by
  rcases q with q | q
  · rcases q with q | ⟨u, q⟩
    · exact .inl (.inl (h b _ n q))
    · exact .inl (.inr ⟨u, h b _ n q⟩)
  · exact .inr q
theorem same_new {H : Hp} {p : Addr} {o : HO} (h : H p = none) : Same H (upd H p o) := fun b x e => by
  rw [upd_ne (ne_of_none e h)]
  exact e
def spTake : Sp := fun vs H Q _ => ∃ (a : Addr) (n T : Int), vs = [.ref a, .int n] ∧ HandAt H a T ∧ T ≤ 100000 ∧ 0 < n ∧ n < 1073741824 ∧
  ∀ (H' : Hp) (d : Int), SameX a H H' → HandAt H' a (T + 1) → 0 ≤ d → d < n → Q (.int d) H'
def primesV : List V := [.int 2147483647, .int 2147483629, .int 2147483587, .int 2147483579, .int 2147483563, .int 2147483549]
theorem primes_at {i : Int} (h0 : 0 ≤ i) (h1 : i < 6) : ∃ p : Int, atI primesV i = some (.int p) ∧ 0 < p ∧ p ≤ 2147483647 := by
  have c : i = 0 ∨ i = 1 ∨ i = 2 ∨ i = 3 ∨ i = 4 ∨ i = 5 := by omega
  rcases c with rfl | rfl | rfl | rfl | rfl | rfl
  · exact ⟨_, rfl, by decide, by decide⟩
  · exact ⟨_, rfl, by decide, by decide⟩
  · exact ⟨_, rfl, by decide, by decide⟩
  · exact ⟨_, rfl, by decide, by decide⟩
  · exact ⟨_, rfl, by decide, by decide⟩
  · exact ⟨_, rfl, by decide, by decide⟩
theorem mix_bound {m u : Int} (h0 : 0 ≤ m) (h1 : m < 2305843009213693952) (u0 : 0 ≤ u) (u1 : u ≤ 100001) :
    (-(2 ^ 64) < 65537 * u ∧ 65537 * u < 2 ^ 64) ∧ (m + 65537 * u * u + 31 * u).natAbs < 2 ^ 64 := by
  have sq : u * u ≤ 100001 * 100001 := Int.mul_le_mul u1 u1 u0 (by decide)
  have s0 : 0 ≤ u * u := Int.mul_nonneg u0 u0
  rw [Int.mul_assoc]
  generalize u * u = z at sq s0
  have e : (2 : Int) ^ 64 = 18446744073709551616 := by decide
  have e2 : (2 : Nat) ^ 64 = 18446744073709551616 := by decide
  rw [e, e2]
  omega
section
variable {P : Program} {w : World} {K : PySem.W.Frag} {mg : Str → Option Value} {base : Heap}
theorem scTake : FnScope ["_law_hand_here", "_law_many", "_law_digit", "_law_turn", "_law_prime", "_law_mixed"] ["_law_hand_here", "_law_many"] (defScope s_law_take) :=
  ⟨rfl, rfl, rfl, by decide +kernel, rfl, by decide +kernel, by decide +kernel⟩
theorem ok_take {f : Addr} {fd : FuncData} (F : FnP K "_law_take" s_law_take f fd) : FnOk P w K mg base CX0 1 f fd ["_law_hand_here", "_law_many"] spTake := by
  refine F.ok scTake (fun vs H Q E h => ?_) (fun cdv A outer s H vs Q E hr h => ?_)
  · obtain ⟨a, n, T, rfl, _⟩ := h
    rfl
  · obtain ⟨a, n, T, rfl, ⟨L, ea, g, m, t, rfl, hg, hm0, hm1, ht0, ht1⟩, hT, hn0, hn1, q⟩ := h
    refine ⟨_, PSs.nox (pss_cons
      (ps_if (pt_cmpR op_gt (pe_ix ix_list (pv 0) pe_int (fun _ _ => rfl)) pe_int (nomark _))
        (pss_cons (ps_set (i := 2) scTake.nd rfl (.inl rfl) (pe_op op_mod (pe_ix ix_list (pv 0) pe_int (fun _ _ => rfl)) (pv 1)))
        (pss_cons (ps_asg (pe_op op_fdiv (pe_ix ix_list (pv 0) pe_int (fun _ _ => rfl)) (pv 1)) (pg_sub (pv 0) pe_int set_list))
        (pss_one (ps_ret (pv 2))))) pss_nil)
      (pss_cons (ps_set (i := 3) scTake.nd rfl (.inl rfl) (pe_op op_add (pe_ix ix_list (pv 0) pe_int (fun _ _ => rfl)) pe_int))
      (pss_cons (ps_asg (pv 3) (pg_sub (pv 0) pe_int set_list))
      (pss_cons (ps_set (i := 4) scTake.nd rfl (.inl rfl)
        (pe_ix ix_list (pe_lst (pa_cons pe_int (pa_cons pe_int (pa_cons pe_int (pa_cons pe_int (pa_cons pe_int (pa_cons pe_int pa_nil)))))))
          (pe_op op_mod (pv 3) pe_int) (fun _ _ => rfl)))
      (pss_cons (ps_set (i := 5) scTake.nd rfl (.inl rfl)
        (pe_op op_mod (pe_op op_pow (pe_op op_add (pe_op op_add (pe_ix ix_list (pv 0) pe_int (fun _ _ => rfl))
          (pe_op op_mul (pe_op op_mul pe_int (pv 3)) (pv 3))) (pe_op op_mul pe_int (pv 3))) pe_int) (pv 4)))
      (pss_one (ps_ret (pe_op op_mod (pe_op op_fdiv (pe_op op_mod (pe_op op_mul (pv 5) (pe_op op_add (pe_op op_mod (pv 5) pe_int)
        (pe_op op_mul pe_int (pv 3)))) pe_int) pe_int) (pv 1))))))))), ?_⟩
    refine ⟨.ref a, rfl, a, _, 0, .int g, rfl, rfl, .of ea, rfl, g, 0, rfl, rfl, _, rfl, ite2 (fun c => ?_) (fun c => ?_)⟩
    · have gp : 0 < g := of_decide_eq_true c
      refine ⟨.ref a, rfl, a, _, 0, .int g, rfl, rfl, .of ea, rfl, .int n, rfl, g, n, rfl, rfl, hn0, ?_⟩
      refine ⟨.ref a, rfl, a, _, 0, .int g, rfl, rfl, .of ea, rfl, .int n, rfl, g, n, rfl, rfl, ⟨hn0, hn1⟩, ?_⟩
      refine ⟨.ref a, rfl, a, _, 0, 0, rfl, rfl, ea, rfl, _, rfl, ?_⟩
      exact q _ _ .upd ⟨_, upd_same, g / n, m, t, rfl, Int.ediv_nonneg hg (Int.le_of_lt hn0), hm0, hm1, ht0, by omega⟩ (Int.emod_nonneg _ (by omega)) (Int.emod_lt_of_pos _ hn0)
    · refine ⟨.ref a, rfl, a, _, 2, .int t, rfl, rfl, .of ea, rfl, t, 1, rfl, rfl, ?_⟩
      refine ⟨.int (t + 1), rfl, .ref a, rfl, a, _, 2, 2, rfl, rfl, ea, rfl, ?_⟩
      refine ⟨by show 6 ≤ sizeLine; decide, fun p np => ?_⟩
      have u0 : 0 ≤ t + 1 := by omega
      have u1 : t + 1 ≤ 100001 := by omega
      obtain ⟨pr, hpr, p0, p1⟩ := primes_at (i := (t + 1) % 6) (Int.emod_nonneg _ (by decide)) (Int.emod_lt_of_pos _ (by decide))
      obtain ⟨mb1, mb2⟩ := mix_bound (m := m) (u := t + 1) hm0 hm1 u0 u1
      refine ⟨.int (t + 1), rfl, t + 1, 6, rfl, rfl, (by show (0 : Int) < 6; decide), p, primesV, (t + 1) % 6, .int pr, rfl, rfl, .of upd_same, hpr, ?_⟩
      have nap : a ≠ p := fun z => by
        subst z
        rw [upd_same] at np
        cases np
      have ea2 : upd (upd H a (.lst ([V.int g, V.int m, V.int t].set 2 (V.int (t + 1))))) p (.lst primesV) a = some (.lst [V.int g, V.int m, V.int (t + 1)]) := by
        rw [upd_ne nap, upd_same]
        rfl
      refine ⟨.ref a, rfl, a, _, 1, .int m, rfl, rfl, .of ea2, rfl, .int (t + 1), rfl, 65537, t + 1, rfl, rfl, .inl ⟨by decide, by decide⟩,
        .int (t + 1), rfl, 65537 * (t + 1), t + 1, rfl, rfl, .inl mb1, m, 65537 * (t + 1) * (t + 1), rfl, rfl,
        .int (t + 1), rfl, 31, t + 1, rfl, rfl, .inl ⟨by decide, by decide⟩, _, _, rfl, rfl, _, 3, rfl, rfl, ⟨by decide, by decide, mb2⟩,
        .int pr, rfl, _, pr, rfl, rfl, p0, ?_⟩
      have x0 := Int.emod_nonneg ((m + 65537 * (t + 1) * (t + 1) + 31 * (t + 1)) ^ (3 : Int).toNat) (show pr ≠ 0 by omega)
      have x1 := Int.emod_lt_of_pos ((m + 65537 * (t + 1) * (t + 1) + 31 * (t + 1)) ^ (3 : Int).toNat) p0
      refine ⟨_, rfl, _, rfl, _, 10007, rfl, rfl, (by show (0 : Int) < 10007; decide), .int (t + 1), rfl, 13, t + 1, rfl, rfl, .inl ⟨by decide, by decide⟩, _, _, rfl, rfl,
        _, _, rfl, rfl, .inl ⟨Int.lt_of_lt_of_le (by decide) x0, Int.lt_trans x1 (Int.lt_of_le_of_lt p1 (by decide))⟩, _, 2305843009213693907, rfl, rfl, (by show (0 : Int) < 2305843009213693907; decide), _, 97, rfl, rfl, ⟨by decide, by decide⟩, .int n, rfl, _, n, rfl, rfl, hn0, ?_⟩
      refine q _ _ (SameX.upd.trans (.of (same_new np))) ⟨_, ea2, g, m, t + 1, rfl, hg, hm0, hm1, u0, by omega⟩ (Int.emod_nonneg _ (by omega)) (Int.emod_lt_of_pos _ hn0)
def spPick (K : PySem.W.Frag) : Sp := fun vs H Q _ => ∃ (a b : Addr) (T : Int) (xs : List V), vs = [.ref a, .ref b] ∧ HandAt H a T ∧ T ≤ 100000 ∧ SqL K H b xs ∧ xs ≠ [] ∧ xs.length < 1073741824 ∧ b ≠ a ∧
  ∀ (H' : Hp) (x : V), SameX a H H' → HandAt H' a (T + 1) → x ∈ xs → Q x H'
theorem scPick : FnScope ["_law_hand_here", "_law_items"] ["_law_hand_here", "_law_items"] (defScope s_law_pick) :=
  ⟨rfl, rfl, rfl, by decide +kernel, rfl, by decide +kernel, by decide +kernel⟩
theorem ok_pick {f fT : Addr} {fd fdT : FuncData} (F : FnP K "_law_pick" s_law_pick f fd) (FT : FnP K "_law_take" s_law_take fT fdT)
    (gT : mg "_law_take" = some (.ref fT)) (ml : mg "len" = none) : FnOk P w K mg base CX0 2 f fd ["_law_hand_here", "_law_items"] (spPick K) := by
  have GT : FnOk P w K mg base CX0 1 fT fdT ["_law_hand_here", "_law_many"] spTake := ok_take FT
  have bT : Binds K fdT ["_law_hand_here", "_law_many"] [] := FT.bindsN fun _ _ _ _ _ _ us hl => match us, hl with | [_, _], _ => rfl
  refine F.ok scPick (fun vs H Q E h => ?_) (fun cdv A outer s H vs Q E hr h => ?_)
  · obtain ⟨a, b, T, xs, rfl, _⟩ := h
    rfl
  · obtain ⟨a, b, T, xs, rfl, hA, hT, hS, hne, hlen, hab, q⟩ := h
    refine ⟨_, PSs.nox (pss_one (ps_ret (pe_ix ix_list (pv 1)
      (pe_call GT hr (by rfl) gT FT.kp bT .nil pass0 (pa_cons (pv 0) (pa_cons (pe_callB call_len_seq (by rfl) ml PySem.boot_len (pa_cons (pv 1) pa_nil)) pa_nil))) (fun _ _ => rfl)))), ?_⟩
    have l0 : 0 < xs.length := List.length_pos_iff.mpr hne
    refine ⟨.ref b, rfl, .ref a, rfl, .ref b, rfl, b, xs, rfl, .inl hS, a, (xs.length : Int), T, rfl, hA, hT, by omega, by omega, fun H' d sx ha d0 d1 => ?_⟩
    obtain ⟨j, rfl⟩ : ∃ j : Nat, d = (j : Int) := ⟨d.toNat, by omega⟩
    have hj : j < xs.length := by omega
    exact ⟨b, xs, (j : Int), xs[j], rfl, rfl, sx.sq hab hS, atI_nat (List.getElem?_eq_getElem hj), q H' _ sx ha (List.getElem_mem hj)⟩
def spHand (K : PySem.W.Frag) : Sp := fun vs H Q _ => ∃ (a : Addr) (k : Int) (ns : List Int), vs = [.ref a, .int k] ∧ SqL K H a (ns.map V.int) ∧ 0 ≤ k ∧ k ≤ 1000 ∧
  ∀ (p : Addr) (L : List V), H p = none → HandL L 0 → Q (.ref p) (upd H p (.lst L))
theorem scHand : FnScope ["_law_script", "_law_k", "_law_cell", "_law_great"] ["_law_script", "_law_k"] (defScope s_law_hand) :=
  ⟨rfl, rfl, rfl, by decide +kernel, rfl, by decide +kernel, by decide +kernel⟩
set_option exponentiation.threshold 1000 in
theorem ten60 : ((10 : Int) ^ (60 : Int).toNat).natAbs < 2 ^ 200 := by decide
def big4 : Int := 10 ^ (60 : Int).toNat * 10 ^ (60 : Int).toNat * 10 ^ (60 : Int).toNat * 10 ^ (60 : Int).toNat
theorem big4_pos : 0 < big4 := by decide
set_option exponentiation.threshold 1000 in
theorem big4_lt : big4.natAbs < 2 ^ 800 := by decide
set_option exponentiation.threshold 1000 in
theorem mod_lt (i : Int) : (i % big4).natAbs < 2 ^ 800 := wide_le (Int.emod_nonneg _ (Int.ne_of_gt big4_pos)) (Int.le_of_lt (Int.emod_lt_of_pos _ big4_pos)) big4_lt
theorem bit_lt (b : Bool) : (if b = true then (1 : Int) else 0).natAbs < 2 ^ 1 := by cases b <;> decide
theorem bit_nn (b : Bool) : 0 ≤ (if b = true then (1 : Int) else 0) := by cases b <;> decide
abbrev rAbs : List V → Hp → VK → Prop := fun xs H Q => ∃ i, xs = [.int i] ∧ Q (.int (if i < 0 then -i else i)) H
abbrev tPw : TE := tOp (rI CPow fun i j => .int (i ^ j.toNat)) (tC (.int 10)) (tC (.int 60))
abbrev rMW : R2 := rI CMulW fun i j => .int (i * j)
abbrev rM : R2 := rI CMul fun i j => .int (i * j)
abbrev rMd : R2 := rI (fun _ j => 0 < j) fun i j => .int (i % j)
abbrev rIn1 : List V → Hp → VK → Prop := fun xs H Q => (∃ i, xs = [.int i] ∧ Q (.int i) H) ∨ ∃ k, xs = [.bl k] ∧ Q (.int (if k then 1 else 0)) H
abbrev rPl : R2 := rI0 fun i j => .int (i + j)
set_option exponentiation.threshold 1000 in
theorem hand_rest {H : Hp} {D : Ends} {a : Addr} (c k : Int) (k0 : 0 ≤ k) (k1 : k ≤ 1000) (q : ∀ (p : Addr) (L : List V), H p = none → HandL L 0 → D.rt (.ref p) (upd H p (.lst L))) :
    tSeq (tAsg (tOp rMW (tOp rMd (tCB rAbs (tCons (tVar 2) tNil)) (tOp rMW (tOp rMW (tOp rMW tPw tPw) tPw) tPw))
        (tCB rIn1 (tCons (tOp (rI0 fun i j => .bl (decide (j ≤ i))) (tCB rAbs (tCons (tVar 2) tNil)) (tOp (rI CPow fun i j => .int (i ^ j.toNat)) (tC (.int 10)) (tC (.int 18)))) tNil))) (gName 3))
      (tRet (tLst (tCons (tVar 3) (tCons (tOp rMd (tOp rM (tOp rPl (tOp rPl (tOp rMd (tVar 2) (tC (.int 2305843009213693951)))
        (tOp rM (tOp rM (tC (.int 104729)) (tVar 1)) (tVar 1))) (tC (.int 29))) (tC (.int 48271))) (tC (.int 2305843009213693921))) (tCons (tC (.int 0)) tNil)))))
      D [some (.ref a), some (.int k), some (.int c), none] H := by
  refine ⟨.int c, rfl, c, rfl, 10, 60, rfl, rfl, ⟨by decide, by decide, by decide⟩, 10, 60, rfl, rfl, ⟨by decide, by decide, by decide⟩,
    _, _, rfl, rfl, wide_mul ten60 ten60 (by decide) (by decide) (by decide), 10, 60, rfl, rfl, ⟨by decide, by decide, by decide⟩,
    _, _, rfl, rfl, wide_mul (wide_lt ten60 ten60) ten60 (by decide) (by decide) (by decide), 10, 60, rfl, rfl, ⟨by decide, by decide, by decide⟩,
    _, _, rfl, rfl, wide_mul (wide_lt (wide_lt ten60 ten60) ten60) ten60 (by decide) (by decide) (by decide), _, big4, rfl, rfl, big4_pos, ?_⟩
  refine ⟨.int c, rfl, c, rfl, 10, 18, rfl, rfl, ⟨by decide, by decide, by decide⟩, _, _, rfl, rfl, .inr ⟨_, rfl, _, _, rfl, rfl, wide_mul (mod_lt _) (b := 1) (bit_lt _) (by decide) (by decide) (by decide), ?_⟩⟩
  refine ⟨_, rfl, .int c, rfl, c, 2305843009213693951, rfl, rfl, (by show (0 : Int) < 2305843009213693951; decide), .int k, rfl, 104729, k, rfl, rfl, .inl ⟨by decide, by decide⟩,
    .int k, rfl, 104729 * k, k, rfl, rfl, .inl ⟨by omega, by omega⟩, _, _, rfl, rfl, _, 29, rfl, rfl, _, 48271, rfl, rfl, .inr ⟨by decide, by decide⟩, _, 2305843009213693921, rfl, rfl,
    (by show (0 : Int) < 2305843009213693921; decide), (by show 3 ≤ sizeLine; decide), fun p np => q p _ np ⟨_, _, 0, rfl, ?_, ?_, ?_, by decide, by decide⟩⟩
  · exact Int.mul_nonneg (Int.emod_nonneg _ (Int.ne_of_gt big4_pos)) (bit_nn _)
  · exact Int.emod_nonneg _ (by decide)
  · exact Int.lt_trans (Int.emod_lt_of_pos _ (by decide)) (by decide)
theorem ok_hand {f : Addr} {fd : FuncData} (F : FnP K "_law_hand" s_law_hand f fd) (ml : mg "len" = none) (ma : mg "abs" = none) (mi : mg "int" = none) :
    FnOk P w K mg base CX0 1 f fd ["_law_script", "_law_k"] (spHand K) := by
  refine F.ok scHand (fun vs H Q E h => ?_) (fun cdv A outer s H vs Q E hr h => ?_)
  · obtain ⟨a, k, ns, rfl, _⟩ := h
    rfl
  · obtain ⟨a, k, ns, rfl, hS, k0, k1, q⟩ := h
    refine ⟨_, PSs.nox (pss_cons (ps_set (i := 2) scHand.nd rfl (.inl rfl)
        (pe_ifExp (pt_cmpR op_lt (pv 1) (pe_callB call_len_seq (by rfl) ml PySem.boot_len (pa_cons (pv 0) pa_nil)) (nomark _))
          (pe_ix ix_list (pv 0) (pv 1) (fun _ _ => rfl)) (pe_op op_add (pe_op op_mul pe_int (pv 1)) pe_int)))
      (pss_cons (ps_set (i := 3) scHand.nd rfl (.inl rfl)
        (pe_op op_mulW (pe_op op_mod (pe_callB call_abs (by rfl) ma (by decide +kernel) (pa_cons (pv 2) pa_nil))
          (pe_op op_mulW (pe_op op_mulW (pe_op op_mulW (pe_op op_pow pe_int pe_int) (pe_op op_pow pe_int pe_int)) (pe_op op_pow pe_int pe_int)) (pe_op op_pow pe_int pe_int)))
          (pe_callTy call_int1 (by rfl) mi (by decide +kernel) (pa_cons (pe_cmpR op_ge (pe_callB call_abs (by rfl) ma (by decide +kernel) (pa_cons (pv 2) pa_nil))
            (pe_op op_pow pe_int pe_int) (nomark _)) pa_nil))))
      (pss_one (ps_ret (pe_lst (pa_cons (pv 3) (pa_cons (pe_op op_mod (pe_op op_mul (pe_op op_add (pe_op op_add (pe_op op_mod (pv 2) pe_int)
        (pe_op op_mul (pe_op op_mul pe_int (pv 1)) (pv 1))) pe_int) pe_int) pe_int) (pa_cons pe_int pa_nil)))))))), ?_⟩
    refine ⟨.int k, rfl, .ref a, rfl, a, _, rfl, .inl hS, k, _, rfl, rfl, _, rfl, ite2 (fun c => ?_) (fun c => ?_)⟩
    · have hk : k < ((ns.map V.int).length : Int) := of_decide_eq_true c
      rw [List.length_map] at hk
      obtain ⟨j, rfl⟩ : ∃ j : Nat, k = (j : Int) := ⟨k.toNat, by omega⟩
      have hj : j < ns.length := by omega
      refine ⟨.ref a, rfl, .int j, rfl, a, _, (j : Int), .int ns[j], rfl, rfl, hS, atI_nat (by rw [List.getElem?_map, List.getElem?_eq_getElem hj]; rfl), ?_⟩
      refine hand_rest ns[j] j k0 k1 q
    · refine ⟨.int k, rfl, 7, k, rfl, rfl, .inl ⟨by decide, by decide⟩, _, 3, rfl, rfl, ?_⟩
      refine hand_rest (7 * k + 3) k k0 k1 q
end
/-! ### a program in the heap -/
abbrev PRow := Int × Int × List Int
def rowD (r : PRow) : PyData := .tuple [.int r.1, .int r.2.1, .tuple (r.2.2.map PyData.int)]
def pd (rs : List PRow) : PyData := .tuple (rs.map rowD)
abbrev pars (rs : List PRow) : List Int := rs.map (·.1)
abbrev cnts (rs : List PRow) : List Int := rs.map (·.2.1)
theorem dts_len {K : PySem.W.Frag} {H : Hp} : ∀ {ds : List PyData} {vs : List V}, Dts K H ds vs → vs.length = ds.length
  | [], vs, h => by
    unfold Dts at h
    rw [h]
    rfl
  | d :: ds, vs, h => by
    unfold Dts at h
    obtain ⟨x, r, e, _, h2⟩ := h
    rw [e, List.length_cons, dts_len h2]
    rfl
theorem dts_get {K : PySem.W.Frag} {H : Hp} : ∀ {ds : List PyData} {vs : List V} {i : Nat} {d : PyData}, Dts K H ds vs → ds[i]? = some d → ∃ x, vs[i]? = some x ∧ Dt K H d x
  | [], _, _, _, _, e => by simp at e
  | d :: ds, vs, 0, d', h, e => by
    unfold Dts at h
    obtain ⟨x, r, e1, h1, _⟩ := h
    have e2 : d = d' := Option.some.inj e
    subst e1 e2
    exact ⟨x, rfl, h1⟩
  | d :: ds, vs, i + 1, d', h, e => by
    unfold Dts at h
    obtain ⟨x, r, e1, _, h2⟩ := h
    subst e1
    exact dts_get (i := i) h2 e
theorem dts_take {K : PySem.W.Frag} {H : Hp} : ∀ {ds : List PyData} {vs : List V} (n : Nat), Dts K H ds vs → Dts K H (ds.take n) (vs.take n)
  | _, _, 0, _ => by
    rw [List.take_zero, List.take_zero]
    unfold Dts
    rfl
  | [], vs, n + 1, h => by
    unfold Dts at h
    subst h
    unfold Dts
    rfl
  | d :: ds, vs, n + 1, h => by
    unfold Dts at h
    obtain ⟨x, r, e, h1, h2⟩ := h
    subst e
    rw [List.take_succ_cons, List.take_succ_cons]
    unfold Dts
    exact ⟨x, _, rfl, h1, dts_take n h2⟩
theorem dts_ints {K : PySem.W.Frag} {H : Hp} : ∀ ns : List Int, Dts K H (ns.map PyData.int) (ns.map V.int)
  | [] => by unfold Dts; rfl
  | n :: r => by
    rw [List.map_cons, List.map_cons]
    unfold Dts
    exact ⟨_, _, rfl, by unfold Dt; rfl, dts_ints r⟩
theorem prog_at {K : PySem.W.Frag} {H : Hp} {rs : List PRow} {v : V} (h : Dt K H (pd rs) v) : ∃ g xs, v = .ref g ∧ SqT K H g xs ∧ Dts K H (rs.map rowD) xs ∧ xs.length = rs.length := by
  unfold pd Dt at h
  obtain ⟨g, xs, e, q, d⟩ := h
  exact ⟨g, xs, e, q, d, by rw [dts_len d, List.length_map]⟩
theorem row_at {K : PySem.W.Frag} {H : Hp} {rs : List PRow} {xs : List V} {i : Nat} {r : PRow} (h : Dts K H (rs.map rowD) xs) (hi : rs[i]? = some r) :
    ∃ b u, xs[i]? = some (.ref b) ∧ SqT K H b [.int r.1, .int r.2.1, u] ∧ Dt K H (.tuple (r.2.2.map PyData.int)) u := by
  obtain ⟨x, hx, hd⟩ := dts_get h (i := i) (d := rowD r) (by rw [List.getElem?_map, hi]; rfl)
  simp only [rowD, Dt, Dts] at hd
  obtain ⟨b, ys, e, q, x1, r1, e1, h1, x2, r2, e2, h2, x3, r3, e3, h3, e4⟩ := hd
  subst e e1 e2 e3 e4 h1 h2
  exact ⟨b, x3, hx, q, by unfold Dt; exact h3⟩
theorem SqT.same {K : PySem.W.Frag} {H H' : Hp} {a : Addr} {xs : List V} (h : SqT K H a xs) (s : Same H H') : SqT K H' a xs := s.sqT h
theorem sum_take_le : ∀ {l : List Int} (n : Nat), (∀ x ∈ l, 0 ≤ x) → 0 ≤ (l.take n).sum ∧ (l.take n).sum ≤ l.sum
  | [], n, _ => by simp
  | x :: l, 0, h => by
    have k := sum_take_le (l := l) l.length fun y hy => h y (List.mem_cons_of_mem _ hy)
    rw [List.take_length] at k
    have := h x List.mem_cons_self
    rw [List.take_zero, List.sum_cons, List.sum_nil]
    omega
  | x :: l, n + 1, h => by
    have k := sum_take_le (l := l) n fun y hy => h y (List.mem_cons_of_mem _ hy)
    have := h x List.mem_cons_self
    rw [List.take_succ_cons, List.sum_cons, List.sum_cons]
    omega
theorem sum_take_succ {l : List Int} {i : Nat} {c : Int} (h : l[i]? = some c) : (l.take (i + 1)).sum = (l.take i).sum + c := by
  rw [List.take_add_one, h]
  simp
theorem sum_at_le {l : List Int} {i : Nat} {c : Int} (nn : ∀ x ∈ l, 0 ≤ x) (h : l[i]? = some c) : 0 ≤ (l.take i).sum ∧ (l.take i).sum + c ≤ l.sum := by
  have a := sum_take_le (l := l) i nn
  have b := sum_take_le (l := l) (i + 1) nn
  rw [sum_take_succ h] at b
  exact ⟨a.1, b.2⟩
/-- what holds of a program: parents in preorder, counts -/
structure PWf (rs : List PRow) : Prop where
  pre : PM.Pre (pars rs)
  len : rs.length ≤ 100
  nn : ∀ c ∈ cnts rs, 0 ≤ c
  tot : (cnts rs).sum ≤ 100
section
variable {P : Program} {w : World} {K : PySem.W.Frag} {mg : Str → Option Value} {base : Heap}
def spWhole : Sp := fun vs H Q _ => ∃ i : Int, vs = [.int i] ∧ Q (.bl true) H
theorem scWhole : FnScope ["value"] ["value"] (defScope s_is_whole) := ⟨rfl, rfl, rfl, by decide +kernel, rfl, by decide +kernel, by decide +kernel⟩
theorem ok_whole {f : Addr} {fd : FuncData} (F : FnP K "is_whole" s_is_whole f fd) (ms : mg "isinstance" = none) (mi : mg "int" = none) (mb : mg "bool" = none) :
    FnOk P w K mg base CX0 1 f fd ["value"] spWhole := by
  refine F.ok scWhole (fun vs H Q E h => ?_) (fun cdv A outer s H vs Q E hr h => ?_)
  · obtain ⟨i, rfl, _⟩ := h
    rfl
  · obtain ⟨i, rfl, q⟩ := h
    refine ⟨_, PSs.nox (pss_one (ps_ret (pe_and (pe_callB call_isi (by rfl) ms (by decide +kernel) (pa_cons (pv 0) (pa_cons (pe_bltn (v := .ty "int") (by rfl) mi (by decide +kernel) rfl) pa_nil)))
      (pe_one (pe_not (pe_callB call_isi (by rfl) ms (by decide +kernel) (pa_cons (pv 0) (pa_cons (pe_bltn (v := .ty "bool") (by rfl) mb (by decide +kernel) rfl) pa_nil)))))))), ?_⟩
    refine ⟨.int i, rfl, .int i, .ty "int", .type "int", .type "int", true, rfl, .ty _, .base (.int i), kit_ty (by decide +kernel), true, rfl, iteT ?_⟩
    exact ⟨.int i, rfl, .int i, .ty "bool", .type "int", .type "bool", false, rfl, .ty _, .base (.int i), kit_ty (by decide +kernel), false, rfl, q⟩
def spNb : Sp := fun vs H Q _ => ∃ i n : Int, vs = [.int i, .int n] ∧ 0 ≤ i ∧ i < n ∧ Q (.bl true) H
theorem scNb : FnScope ["value", "limit"] ["value", "limit"] (defScope s_is_number_below) := ⟨rfl, rfl, rfl, by decide +kernel, rfl, by decide +kernel, by decide +kernel⟩
/-- the small defs that check a number -/
structure TxtN (K : PySem.W.Frag) (mg : Str → Option Value) (fW fN : Addr) (fdW fdN : FuncData) : Prop where
  FW : FnP K "is_whole" s_is_whole fW fdW
  FN : FnP K "is_number_below" s_is_number_below fN fdN
  gW : mg "is_whole" = some (.ref fW)
  gN : mg "is_number_below" = some (.ref fN)
  ms : mg "isinstance" = none
  mi : mg "int" = none
  mb : mg "bool" = none
  ml : mg "len" = none
  mr : mg "range" = none
  mu : mg "sum" = none
  mt : mg "tuple" = none
  mx : mg "max" = none
  gC : ∃ t, mg "COUNT" = some (.int 1 t)
  gP : ∃ t, mg "PARENT" = some (.int 0 t)
theorem ok_nb {fW fN : Addr} {fdW fdN : FuncData} (T : TxtN K mg fW fN fdW fdN) : FnOk P w K mg base CX0 2 fN fdN ["value", "limit"] spNb := by
  have GW : FnOk P w K mg base CX0 1 fW fdW ["value"] spWhole := ok_whole T.FW T.ms T.mi T.mb
  have bW : Binds K fdW ["value"] [] := T.FW.bindsN fun _ _ _ _ _ _ us hl => match us, hl with | [_], _ => rfl
  refine T.FN.ok scNb (fun vs H Q E h => ?_) (fun cdv A outer s H vs Q E hr h => ?_)
  · obtain ⟨i, n, rfl, _⟩ := h
    rfl
  · obtain ⟨i, n, rfl, h0, h1, q⟩ := h
    refine ⟨_, PSs.nox (pss_one (ps_ret (pe_and (pe_call GW hr (by rfl) T.gW T.FW.kp bW .nil pass0 (pa_cons (pv 0) pa_nil)) (pe_one (pe_chain op_le op_lt pe_int (pv 0) (pv 1)))))), ?_⟩
    refine ⟨.int i, rfl, i, rfl, true, rfl, iteT ?_⟩
    refine ⟨.int i, rfl, 0, i, rfl, rfl, _, rfl, ?_⟩
    rw [decide_eq_true h0]
    refine iteT ⟨.int n, rfl, i, n, rfl, rfl, ?_⟩
    show Q (.bl (decide (i < n))) H
    rw [decide_eq_true h1]
    exact q
/-- declaration_count -/
def spCount (K : PySem.W.Frag) : Sp := fun vs H Q _ => ∃ (v : V) (rs : List PRow), vs = [v] ∧ Dt K H (pd rs) v ∧ rs.length ≤ 1000 ∧ ∀ H', Same H H' → Q (.int (cnts rs).sum) H'
theorem scCount : FnScope ["program", "row"] ["program"] (defScope s_declaration_count) := ⟨rfl, rfl, rfl, by decide +kernel, rfl, by decide +kernel, by decide +kernel⟩
theorem ok_count {fW fN f : Addr} {fdW fdN fd : FuncData} (T : TxtN K mg fW fN fdW fdN) (F : FnP K "declaration_count" s_declaration_count f fd) : FnOk P w K mg base CX0 1 f fd ["program"] (spCount K) := by
  obtain ⟨tkC, gC⟩ := T.gC
  refine F.ok scCount (fun vs H Q E h => ?_) (fun cdv A outer s H vs Q E hr h => ?_)
  · obtain ⟨v, rs, rfl, _⟩ := h
    rfl
  · obtain ⟨v, rs, rfl, hd, hl, q⟩ := h
    have nd := scCount.nd
    refine ⟨_, PSs.nox (pss_one (ps_ret (pe_callB (cr_sum rfl) (by rfl) T.mu (by decide +kernel) (pa_cons
      (pe_lc (own := [("row", 1)]) (g := gName 1) (tt := tYes) (te := tOp (rIxT K) (tVar 1) (tC (.int 1))) rfl nd (pi_tup (pv 0)) (blkOk_by (N := ["program", "row"]) (sc := defScope s_declaration_count) (by decide +kernel))
        (fun _ _ _ _ _ => pg_name (i := 1) nd rfl (Or.inl rfl)) (fun _ _ _ _ _ => pts_nil)
        (fun _ _ _ _ _ => pe_ix ix_tup (pv 1) (pe_glob (v := .int 1) (by rfl) gC ⟨_, rfl⟩) (fun _ _ => rfl))) pa_nil)))), ?_⟩
    obtain ⟨g, xs, rfl, hq, hds, hxl⟩ := prog_at hd
    refine ⟨.ref g, rfl, g, rfl, ⟨xs, hq⟩, fun D nD => ?_⟩
    refine lc_tup (K := K) (a := g) (xs := xs) (fun i H' => Same H H' ∧ H' D = some (.lst (((cnts rs).take i).map V.int))) ⟨same_new nD, upd_same⟩ (fun i H' _ ⟨s', _⟩ => s'.sqT hq) ?_ ?_
    · rintro i x H' hx ⟨S, e⟩
      have hi : i < rs.length := by
        rw [← hxl]
        exact (List.getElem?_eq_some_iff.mp hx).1
      obtain ⟨b, u, hb, qb, _⟩ := row_at (Dts.same S _ _ hds) (List.getElem?_eq_getElem hi)
      rw [hx] at hb
      cases hb
      refine ⟨rfl, .ref b, rfl, b, _, 1, _, rfl, rfl, qb, rfl, _, e, ?_, fun b o z => ?_, ?_⟩
      · rw [List.length_map, List.length_take]
        exact Nat.lt_of_le_of_lt (Nat.min_le_left _ _) (small1000 (by omega))
      · rw [upd_ne (ne_of_none z nD)]
        exact S _ _ z
      · rw [upd_same, List.take_add_one, List.getElem?_map, List.getElem?_eq_getElem hi, List.map_append]
        rfl
    · rintro H' ⟨S, e⟩
      rw [hxl, show rs.length = (cnts rs).length by rw [List.length_map], List.take_length] at e
      exact ⟨D, _, rfl, .of e, q H' S⟩
/-- check_scope, check_declaration: nothing is raised for a number that is one -/
def spCkS (K : PySem.W.Frag) : Sp := fun vs H Q _ => ∃ (v : V) (rs : List PRow) (i : Int), vs = [v, .int i] ∧ Dt K H (pd rs) v ∧ 0 ≤ i ∧ i < rs.length ∧ Q .non H
theorem scCkS : FnScope ["program", "scope"] ["program", "scope"] (defScope s_check_scope) := ⟨rfl, rfl, rfl, by decide +kernel, rfl, by decide +kernel, by decide +kernel⟩
theorem ok_ckS {fW fN f : Addr} {fdW fdN fd : FuncData} (T : TxtN K mg fW fN fdW fdN) (F : FnP K "check_scope" s_check_scope f fd) : FnOk P w K mg base CX0 3 f fd ["program", "scope"] (spCkS K) := by
  have GN : FnOk P w K mg base CX0 2 fN fdN ["value", "limit"] spNb := ok_nb T
  have bN : Binds K fdN ["value", "limit"] [] := T.FN.bindsN fun _ _ _ _ _ _ us hl => match us, hl with | [_, _], _ => rfl
  refine F.ok scCkS (fun vs H Q E h => ?_) (fun cdv A outer s H vs Q E hr h => ?_)
  · obtain ⟨v, rs, i, rfl, _⟩ := h
    rfl
  · obtain ⟨v, rs, i, rfl, hd, h0, h1, q⟩ := h
    refine ⟨_, PSs.nox (pss_one (ps_if (pt_not (pt_val (pe_call GN hr (by rfl) T.gN T.FN.kp bN .nil pass0 (pa_cons (pv 1) (pa_cons (pe_callB call_len_seq (by rfl) T.ml PySem.boot_len (pa_cons (pv 0) pa_nil)) pa_nil)))))
      (pss_one ps_never) pss_nil)), ?_⟩
    obtain ⟨g, xs, rfl, hq, _, hxl⟩ := prog_at hd
    exact ⟨.int i, rfl, .ref g, rfl, g, xs, rfl, .inr hq, i, _, rfl, h0, by omega, true, rfl, iteF q⟩
end
theorem homes_snoc : ∀ (l : List Int) (o : Nat) (c : Int), PM.homesFrom o (l ++ [c]) = PM.homesFrom o l ++ List.replicate c.toNat ((o + l.length : Nat) : Int)
  | [], o, c => by
    show List.replicate c.toNat (o : Int) ++ [] = [] ++ List.replicate c.toNat ((o + 0 : Nat) : Int)
    rw [List.append_nil, List.nil_append, Nat.add_zero]
  | b :: l, o, c => by
    show List.replicate b.toNat (o : Int) ++ PM.homesFrom (o + 1) (l ++ [c]) = (List.replicate b.toNat (o : Int) ++ PM.homesFrom (o + 1) l) ++ _
    rw [homes_snoc l (o + 1) c, List.append_assoc, List.length_cons, show o + 1 + l.length = o + (l.length + 1) by omega]
theorem homes_len : ∀ (l : List Int) (o : Nat), (∀ c ∈ l, 0 ≤ c) → ((PM.homesFrom o l).length : Int) = l.sum
  | [], _, _ => rfl
  | c :: l, o, h => by
    have ih := homes_len l (o + 1) fun x hx => h x (List.mem_cons_of_mem _ hx)
    have := h c List.mem_cons_self
    show ((List.replicate c.toNat (o : Int) ++ PM.homesFrom (o + 1) l).length : Int) = _
    rw [List.length_append, List.length_replicate, List.sum_cons]
    omega
theorem inV_int (x : Int) (l : List Int) : inV (.int x) (l.map V.int) = decide (x ∈ l) := by
  unfold inV
  rw [List.any_map]
  by_cases c : x ∈ l
  · rw [decide_eq_true c]
    exact List.any_eq_true.mpr ⟨x, c, by show (x == x) = true; exact beq_self_eq_true x⟩
  · rw [decide_eq_false c]
    refine Bool.eq_false_iff.mpr fun z => ?_
    obtain ⟨y, hy, e⟩ := List.any_eq_true.mp z
    have e : (y == x) = true := e
    exact c (by rw [← beq_iff_eq.mp e]; exact hy)
theorem flat_ints (l : List Int) : (l.map V.int).all flatV = true := by
  rw [List.all_map]
  exact List.all_eq_true.mpr fun x _ => rfl
theorem W_zero {ps : List Int} (h : PM.Pre ps) : PM.W ps 0 = [0] := by
  have hp := h.pos
  rw [PM.W_step h.low (by omega) (by omega), show (0 : Int).toNat = 0 from rfl, h.root, PM.W_neg ps (by decide)]
theorem W_len_le {ps : List Int} (h : PM.Low ps) : ∀ a : Int, a < ps.length → (PM.W ps a).length ≤ a.toNat + 1 :=
  PM.W_ind h _ (fun a c => by rw [PM.W_neg ps c]; exact Nat.zero_le _) fun a h0 h1 ih => by
    have z := PM.low_par h h0 h1
    rw [PM.W_step h h0 h1, List.length_cons]
    by_cases c : ps.getD a.toNat (-1) < 0
    · rw [PM.W_neg ps c, List.length_nil]
      omega
    · omega
section
variable {P : Program} {w : World} {K : PySem.W.Frag} {mg : Str → Option Value} {base : Heap}
/-- declarations_of -/
def spDecls (K : PySem.W.Frag) : Sp := fun vs H Q _ => ∃ (v : V) (rs : List PRow) (c : Int) (i : Nat), vs = [v, .int (i : Int)] ∧ Dt K H (pd rs) v ∧ PWf rs ∧ (cnts rs)[i]? = some c ∧
  ∀ H' p, Same H H' → H' p = some (.tup ((rangeL ((cnts rs).take i).sum (((cnts rs).take i).sum + c)).map V.int)) → Q (.ref p) H'
theorem scDecls : FnScope ["program", "scope", "first"] ["program", "scope"] (defScope s_declarations_of) := ⟨rfl, rfl, rfl, by decide +kernel, rfl, by decide +kernel, by decide +kernel⟩
theorem cut_take (xs : List V) {i : Nat} (h : i ≤ xs.length) : cutV xs none (some (i : Int)) = xs.take i := by
  unfold cutV
  rw [HT.sIx_none, HT.sIx_nat, Nat.min_eq_left h]
  rfl
theorem ok_decls {fW fN f fC fK : Addr} {fdW fdN fd fdC fdK : FuncData} (T : TxtN K mg fW fN fdW fdN) (F : FnP K "declarations_of" s_declarations_of f fd) (FC : FnP K "declaration_count" s_declaration_count fC fdC)
    (gD : mg "declaration_count" = some (.ref fC)) (FK : FnP K "check_scope" s_check_scope fK fdK) (gK : mg "check_scope" = some (.ref fK)) :
    FnOk P w K mg base CX0 4 f fd ["program", "scope"] (spDecls K) := by
  obtain ⟨tkC, gC⟩ := T.gC
  have GK : FnOk P w K mg base CX0 3 fK fdK ["program", "scope"] (spCkS K) := ok_ckS T FK
  have GC : FnOk P w K mg base CX0 1 fC fdC ["program"] (spCount K) := ok_count T FC
  have bK : Binds K fdK ["program", "scope"] [] := FK.bindsN fun _ _ _ _ _ _ us hl => match us, hl with | [_, _], _ => rfl
  have bC : Binds K fdC ["program"] [] := FC.bindsN fun _ _ _ _ _ _ us hl => match us, hl with | [_], _ => rfl
  refine F.ok scDecls (fun vs H Q E h => ?_) (fun cdv A outer s H vs Q E hr h => ?_)
  · obtain ⟨v, rs, c, i, rfl, _⟩ := h
    rfl
  · obtain ⟨v, rs, c, i, rfl, hd, wf, hc, q⟩ := h
    refine ⟨_, PSs.nox (pss_cons (ps_expr (pe_call GK hr (by rfl) gK FK.kp bK .nil pass0 (pa_cons (pv 0) (pa_cons (pv 1) pa_nil))))
      (pss_cons (ps_set (i := 2) scDecls.nd rfl (.inl rfl) (pe_call GC (hr.mono (by decide)) (by rfl) gD FC.kp bC .nil pass0 (pa_cons (pe_slice sl_tup (pv 0) po_none (po_some (pv 1))) pa_nil)))
      (pss_one (ps_ret (pe_callTy (call_tupR rfl) (by rfl) T.mt (by decide +kernel) (pa_cons (pe_callTy cr_range2 (by rfl) T.mr (by decide +kernel) (pa_cons (pv 2) (pa_cons (pe_op op_add (pv 2)
        (pe_ix ix_tup (pe_ix ix_tup (pv 0) (pv 1) (fun _ _ => rfl)) (pe_glob (v := .int 1) (by rfl) gC ⟨_, rfl⟩) (fun _ _ => rfl))) pa_nil))) pa_nil)))))), ?_⟩
    obtain ⟨g, xs, rfl, hq, hds, hxl⟩ := prog_at hd
    have hir : i < rs.length := by
      have := (List.getElem?_eq_some_iff.mp hc).1
      rw [List.length_map] at this
      exact this
    have z := sum_at_le (l := cnts rs) wf.nn hc
    have cn : 0 ≤ c := wf.nn c (List.mem_of_getElem? hc)
    have hl := wf.len
    have ht := wf.tot
    refine ⟨.ref g, rfl, .int (i : Int), rfl, .ref g, rs, (i : Int), rfl, hd, by omega, by omega, ?_⟩
    refine ⟨.ref g, rfl, .int (i : Int), rfl, (i : Int), rfl, g, xs, rfl, hq, ?_, fun p1 n1 => ?_⟩
    · rw [HT.sIx_nat, Nat.min_eq_left (by omega)]
      omega
    rw [cut_take xs (by omega)]
    have S1 := same_new (o := .tup (xs.take i)) n1
    have e1 : upd H p1 (.tup (xs.take i)) p1 = some (.tup (xs.take i)) := upd_same
    generalize upd H p1 (.tup (xs.take i)) = H1 at S1 e1 ⊢
    refine ⟨.ref p1, rs.take i, rfl, ?_, by rw [List.length_take]; omega, fun H2 S2 => ?_⟩
    · unfold pd Dt
      refine ⟨p1, _, rfl, .of e1, ?_⟩
      rw [List.map_take]
      exact dts_take i (Dts.same S1 _ _ hds)
    rw [show cnts (rs.take i) = (cnts rs).take i from List.map_take]
    obtain ⟨b, u, hb, qb, _⟩ := row_at (Dts.same (S1.trans S2) _ _ hds) (List.getElem?_eq_getElem hir)
    have ec : rs[i].2.1 = c := by
      rw [List.getElem?_map, List.getElem?_eq_getElem hir] at hc
      exact Option.some.inj hc
    refine ⟨_, rfl, _, rfl, .ref g, rfl, .int (i : Int), rfl, g, xs, (i : Int), .ref b, rfl, rfl, (S1.trans S2).sqT hq, atI_nat hb, b, _, 1, .int c, rfl, rfl, qb, by rw [← ec]; rfl,
      _, c, rfl, rfl, _, _, rfl, fun pr nr => ?_⟩
    refine ⟨pr, _, _, rfl, upd_same, ⟨by omega, by omega, by omega, by omega⟩, by omega, fun l nl => ?_⟩
    exact q _ l ((S1.trans S2).trans ((same_new nr).trans (same_new nl))) upd_same
/-- enclosing_scopes -/
def spEnc (K : PySem.W.Frag) : Sp := fun vs H Q _ => ∃ (v : V) (rs : List PRow) (i : Int), vs = [v, .int i] ∧ Dt K H (pd rs) v ∧ PWf rs ∧ 0 ≤ i ∧ i < rs.length ∧
  ∀ H' p, Same H H' → H' p = some (.tup ((PM.W (pars rs) i).map V.int)) → Q (.ref p) H'
theorem scEnc : FnScope ["program", "scope", "around"] ["program", "scope"] (defScope s_enclosing_scopes) := ⟨rfl, rfl, rfl, by decide +kernel, rfl, by decide +kernel, by decide +kernel⟩
theorem ok_enc {fW fN f fK : Addr} {fdW fdN fd fdK : FuncData} (T : TxtN K mg fW fN fdW fdN) (F : FnP K "enclosing_scopes" s_enclosing_scopes f fd) (FK : FnP K "check_scope" s_check_scope fK fdK) (gK : mg "check_scope" = some (.ref fK)) :
    FnOk P w K mg base CX0 4 f fd ["program", "scope"] (spEnc K) := by
  obtain ⟨tkP, gP⟩ := T.gP
  have GK : FnOk P w K mg base CX0 3 fK fdK ["program", "scope"] (spCkS K) := ok_ckS T FK
  have bK : Binds K fdK ["program", "scope"] [] := FK.bindsN fun _ _ _ _ _ _ us hl => match us, hl with | [_, _], _ => rfl
  refine F.ok scEnc (fun vs H Q E h => ?_) (fun cdv A outer s H vs Q E hr h => ?_)
  · obtain ⟨v, rs, i, rfl, _⟩ := h
    rfl
  · obtain ⟨v, rs, i, rfl, hd, wf, h0, h1, q⟩ := h
    refine ⟨_, PSs.nox (pss_cons (ps_expr (pe_call GK hr (by rfl) gK FK.kp bK .nil pass0 (pa_cons (pv 0) (pa_cons (pv 1) pa_nil))))
      (pss_cons (ps_set (i := 2) scEnc.nd rfl (.inl rfl) (pe_lst (pa_cons (pv 1) pa_nil)))
      (pss_cons (ps_while PassesOwn.never (pt_cmpR op_ne (pe_ix ix_list (pv 2) (pe_un un_neg pe_int) (fun _ _ => rfl)) pe_int (nomark _))
        (pss_one (ps_expr (pe_bm PySem.F.plainAttrs_list PySem.F.slot_list_append PySem.F.type_list_append mt_append (pv 2) (pa_cons
          (pe_ix ix_tup (pe_ix ix_tup (pv 0) (pe_ix ix_list (pv 2) (pe_un un_neg pe_int) (fun _ _ => rfl)) (fun _ _ => rfl)) (pe_glob (v := .int 0) (by rfl) gP ⟨_, rfl⟩) (fun _ _ => rfl)) pa_nil)))))
      (pss_one (ps_ret (pe_callTy call_tuple_of (by rfl) T.mt (by decide +kernel) (pa_cons (pv 2) pa_nil))))))), ?_⟩
    obtain ⟨g, xs, rfl, hq, hds, hxl⟩ := prog_at hd
    have hpl : (pars rs).length = rs.length := by rw [List.length_map]
    have hl := wf.len
    have low := wf.pre.low
    refine ⟨.ref g, rfl, .int i, rfl, .ref g, rs, i, rfl, hd, h0, h1, ?_⟩
    refine ⟨.int i, rfl, by show 1 ≤ sizeLine; decide, fun ar na => ?_⟩
    refine ⟨fun m σ H' => σ = [some (.ref g), some (.int i), some (.ref ar)] ∧ Same H H' ∧ ∃ (acc : List Int) (x : Int), m = x.toNat ∧ H' ar = some (.lst ((acc ++ [x]).map V.int)) ∧ PM.W (pars rs) i = acc ++ PM.W (pars rs) x ∧ 0 ≤ x ∧ x < rs.length,
      ⟨i.toNat, rfl, same_new na, [], i, rfl, upd_same, rfl, h0, h1⟩, ?_⟩
    rintro m σ H1 ⟨rfl, S1, acc, x, rfl, e1, ew, x0, x1⟩
    have last : atI ((acc ++ [x]).map V.int) (-1) = some (.int x) := by
      rw [List.map_append]
      exact atI_last _ _
    have wl := W_len_le low i (by omega)
    have aw : acc.length < 1000 := by
      have := congrArg List.length ew
      rw [List.length_append] at this
      omega
    refine ⟨.ref ar, rfl, 1, rfl, ar, _, -1, .int x, rfl, rfl, .of e1, last, rfl, _, rfl, ?_⟩
    by_cases c : x = 0
    · subst c
      refine iteNS rfl ?_
      rw [W_zero wf.pre] at ew
      refine ⟨.ref ar, rfl, ar, _, rfl, .inl ⟨.of e1, fun l nl => ?_⟩⟩
      refine q _ l (S1.trans (same_new nl)) ?_
      rw [upd_same, ew]
    · rw [show (!decide (V.int x = V.int 0)) = true by rw [decide_eq_false (fun z => c (V.int.inj z))]; rfl]
      refine iteT ⟨fun σ' H' => σ' = [some (.ref g), some (.int i), some (.ref ar)] ∧ Same H H' ∧ ∃ (acc' : List Int) (y : Int), y.toNat < x.toNat ∧ H' ar = some (.lst ((acc' ++ [y]).map V.int)) ∧ PM.W (pars rs) i = acc' ++ PM.W (pars rs) y ∧ 0 ≤ y ∧ y < rs.length, ?_, ?_⟩
      · rintro σ' H' ⟨rfl, S', acc', y, hy, e', w', y0, y1⟩
        exact ⟨y.toNat, hy, rfl, S', acc', y, rfl, e', w', y0, y1⟩
      · obtain ⟨k, rfl⟩ : ∃ k : Nat, x = (k : Int) := ⟨x.toNat, by omega⟩
        have hk : k < rs.length := by omega
        have pr := wf.pre.par (a := (k : Int)) (by omega) (by omega)
        have st := PM.W_step low (a := (k : Int)) (by omega) (by omega)
        obtain ⟨b, u, hb, qb, _⟩ := row_at (Dts.same S1 _ _ hds) (List.getElem?_eq_getElem hk)
        have ep : (pars rs).getD (k : Int).toNat (-1) = rs[k].1 := by
          rw [List.getD_eq_getElem?_getD, List.getElem?_map, show ((k : Int)).toNat = k by omega, List.getElem?_eq_getElem hk]
          rfl
        rw [ep] at pr st
        refine ⟨.ref ar, rfl, .inl ⟨rfl, _, .of e1⟩, .ref g, rfl, .ref ar, rfl, 1, rfl, ar, _, -1, .int (k : Int), rfl, rfl, .of e1, last, g, xs, (k : Int), .ref b, rfl, rfl, S1.sqT hq, atI_nat hb,
          b, _, 0, .int rs[k].1, rfl, rfl, qb, rfl, ar, _, _, rfl, rfl, e1, ?_, ?_⟩
        · rw [List.length_map, List.length_append, List.length_singleton]
          exact small1000 (by omega)
        · refine ⟨rfl, fun b o z => ?_, acc ++ [(k : Int)], rs[k].1, by omega, ?_, ?_, pr.1, by omega⟩
          · rw [upd_ne (ne_of_none z na)]
            exact S1 _ _ z
          · rw [upd_same, List.map_append (l₂ := [rs[k].1])]
            rfl
          · rw [ew, st, List.append_assoc]
            rfl
end
theorem homeN_lt : ∀ {cs : List Int} {d : Int}, d < cs.sum → PM.homeN cs d < cs.length ∨ cs = []
  | [], _, _ => .inr rfl
  | c :: r, d, h => by
    refine .inl ?_
    unfold PM.homeN
    by_cases k : d < c
    · rw [if_pos k]
      exact Nat.succ_pos _
    · rw [if_neg k]
      rw [List.sum_cons] at h
      rcases homeN_lt (cs := r) (d := d - c) (by omega) with z | z
      · rw [List.length_cons]
        omega
      · subst z
        rw [List.sum_nil] at h
        omega
theorem homeN_skip : ∀ {cs : List Int} {k : Nat} {d : Int}, (∀ c ∈ cs, 0 ≤ c) → k ≤ cs.length → (cs.take k).sum ≤ d → PM.homeN cs d = k + PM.homeN (cs.drop k) (d - (cs.take k).sum)
  | cs, 0, d, _, _, _ => by
    rw [List.take_zero, List.sum_nil, List.drop_zero, Int.sub_zero, Nat.zero_add]
  | [], k + 1, d, _, h, _ => absurd h (by simp)
  | c :: r, k + 1, d, nn, h, hs => by
    have nr : ∀ x ∈ r, 0 ≤ x := fun x hx => nn x (List.mem_cons_of_mem _ hx)
    rw [List.take_succ_cons, List.sum_cons] at hs
    have tn := (sum_take_le (l := r) k nr).1
    rw [List.length_cons] at h
    have ih := homeN_skip (cs := r) (k := k) (d := d - c) nr (by omega) (by omega)
    rw [List.take_succ_cons, List.sum_cons, List.drop_succ_cons]
    show (if d < c then 0 else PM.homeN r (d - c) + 1) = _
    rw [if_neg (by omega), ih, show d - c - (r.take k).sum = d - (c + (r.take k).sum) by omega]
    omega
section
variable {P : Program} {w : World} {K : PySem.W.Frag} {mg : Str → Option Value} {base : Heap}
def spOut (K : PySem.W.Frag) : Sp := fun vs H Q _ => ∃ (a : Addr) (ps : List Int) (x : Int), vs = [.ref a, .int x] ∧ SqL K H a (ps.map V.int) ∧ PM.Low ps ∧ ps.length ≤ 100 ∧ x < ps.length ∧
  ∀ H' p, Same H H' → H' p = some (.lst ((PM.W ps x).map V.int)) → Q (.ref p) H'
theorem scOut : FnScope ["_law_parents", "_law_scope", "_law_found"] ["_law_parents", "_law_scope"] (defScope s_law_outward) := ⟨rfl, rfl, rfl, by decide +kernel, rfl, by decide +kernel, by decide +kernel⟩
theorem ok_out {f : Addr} {fd : FuncData} (F : FnP K "_law_outward" s_law_outward f fd) : FnOk P w K mg base CX0 1 f fd ["_law_parents", "_law_scope"] (spOut K) := by
  refine F.ok scOut (fun vs H Q E h => ?_) (fun cdv A outer s H vs Q E hr h => ?_)
  · obtain ⟨a, ps, x, rfl, _⟩ := h
    rfl
  · obtain ⟨a, ps, x0, rfl, hq, low, hpl, hx, q⟩ := h
    have nd := scOut.nd
    refine ⟨_, PSs.nox (pss_cons (ps_set (i := 2) nd rfl (.inl rfl) (pe_lst pa_nil))
      (pss_cons (ps_while PassesOwn.never (pt_cmpR op_ge (pv 1) pe_int (nomark _))
        (pss_cons (ps_expr (pe_bm PySem.F.plainAttrs_list PySem.F.slot_list_append PySem.F.type_list_append mt_append (pv 2) (pa_cons (pv 1) pa_nil)))
        (pss_one (ps_set (i := 1) nd rfl (.inl rfl) (pe_ix ix_list (pv 0) (pv 1) (fun _ _ => rfl))))))
      (pss_one (ps_ret (pv 2))))), ?_⟩
    refine ⟨Nat.zero_le _, fun fl nf => ?_⟩
    refine ⟨fun m σ H' => ∃ (acc : List Int) (x : Int), m = (x + 1).toNat ∧ σ = [some (.ref a), some (.int x), some (.ref fl)] ∧ Same H H' ∧ H' fl = some (.lst (acc.map V.int)) ∧ PM.W ps x0 = acc ++ PM.W ps x ∧ x < ps.length,
      ⟨_, [], x0, rfl, rfl, same_new nf, upd_same, rfl, hx⟩, ?_⟩
    rintro m σ H1 ⟨acc, x, rfl, rfl, S1, e1, ew, x1⟩
    refine ⟨.int x, rfl, x, 0, rfl, rfl, _, rfl, ite2 (fun c => ?_) (fun c => ?_)⟩
    · have x0' : 0 ≤ x := of_decide_eq_true c
      have st := PM.W_step low x0' x1
      have lp := PM.low_par low x0' x1
      have wl := W_len_le low x0 hx
      have al : acc.length < 1000 := by
        have := congrArg List.length ew
        rw [List.length_append] at this
        omega
      refine ⟨fun σ' H' => ∃ (acc' : List Int) (y : Int), y < x ∧ σ' = [some (.ref a), some (.int y), some (.ref fl)] ∧ Same H H' ∧ H' fl = some (.lst (acc'.map V.int)) ∧ PM.W ps x0 = acc' ++ PM.W ps y ∧ y < ps.length, ?_, ?_⟩
      · rintro σ' H' ⟨acc', y, hy, rfl, S', e', w', y1⟩
        exact ⟨(y + 1).toNat, by omega, acc', y, rfl, rfl, S', e', w', y1⟩
      · refine ⟨.ref fl, rfl, .inl ⟨rfl, _, .of e1⟩, .int x, rfl, fl, _, _, rfl, rfl, e1, by rw [List.length_map]; exact small1000 (by omega), ?_⟩
        have S2 : Same H (upd H1 fl (.lst (acc.map V.int ++ [V.int x]))) := fun b o z => by
          rw [upd_ne (ne_of_none z nf)]
          exact S1 _ _ z
        refine ⟨.ref a, rfl, .int x, rfl, a, _, x, .int (ps.getD x.toNat (-1)), rfl, rfl, S2.seq hq, ?_, ?_⟩
        · have e : x = ((x.toNat : Nat) : Int) := by omega
          have pz := PM.par_of x0' x1
          rw [e]
          exact atI_nat (by rw [List.getElem?_map, show ((x.toNat : Nat) : Int).toNat = x.toNat by omega, pz]; rfl)
        · refine ⟨acc ++ [x], ps.getD x.toNat (-1), by omega, rfl, S2, ?_, ?_, by omega⟩
          · rw [upd_same, List.map_append]
            rfl
          · rw [ew, st, List.append_assoc]
            rfl
    · have xn : x < 0 := Int.not_le.mp fun z => c (decide_eq_true z)
      rw [PM.W_neg ps xn, List.append_nil] at ew
      rw [← ew] at e1
      exact ⟨.ref fl, rfl, q H1 fl S1 e1⟩
def spLHome (K : PySem.W.Frag) : Sp := fun vs H Q _ => ∃ (a : Addr) (cs : List Int) (d : Int), vs = [.ref a, .int d] ∧ SqL K H a (cs.map V.int) ∧ (∀ c ∈ cs, 0 ≤ c) ∧ 0 ≤ d ∧ d < cs.sum ∧ Q (.int (PM.homeN cs d : Int)) H
theorem scLHome : FnScope ["_law_counts", "_law_declaration", "_law_scope"] ["_law_counts", "_law_declaration"] (defScope s_law_home) := ⟨rfl, rfl, rfl, by decide +kernel, rfl, by decide +kernel, by decide +kernel⟩
theorem sum_split (cs : List Int) (k : Nat) : cs.sum = (cs.take k).sum + (cs.drop k).sum := by
  rw [← List.sum_append, List.take_append_drop]
theorem ok_lhome {f : Addr} {fd : FuncData} (F : FnP K "_law_home" s_law_home f fd) : FnOk P w K mg base CX0 1 f fd ["_law_counts", "_law_declaration"] (spLHome K) := by
  refine F.ok scLHome (fun vs H Q E h => ?_) (fun cdv A outer s H vs Q E hr h => ?_)
  · obtain ⟨a, cs, d, rfl, _⟩ := h
    rfl
  · obtain ⟨a, cs, d, rfl, hq, nn, d0, d1, q⟩ := h
    have nd := scLHome.nd
    refine ⟨_, PSs.nox (pss_cons (ps_set (i := 2) nd rfl (.inl rfl) pe_int)
      (pss_cons (ps_while PassesOwn.never (pt_cmpR op_ge (pv 1) (pe_ix ix_list (pv 0) (pv 2) (fun _ _ => rfl)) (nomark _))
        (pss_one (ps_par (i := 1) (j := 2) (by rfl) nd rfl rfl (by decide) rfl rfl (pa_cons (pe_op op_sub (pv 1) (pe_ix ix_list (pv 0) (pv 2) (fun _ _ => rfl))) (pa_cons (pe_op op_add (pv 2) pe_int) pa_nil)) (by rfl))))
      (pss_one (ps_ret (pv 2))))), ?_⟩
    refine ⟨fun m σ H' => ∃ k : Nat, m = cs.length - k ∧ σ = [some (.ref a), some (.int (d - (cs.take k).sum)), some (.int (k : Int))] ∧ H' = H ∧ k ≤ cs.length ∧ (cs.take k).sum ≤ d,
      ⟨_, 0, rfl, by rw [List.take_zero, List.sum_nil, Int.sub_zero]; rfl, rfl, Nat.zero_le _, by rw [List.take_zero, List.sum_nil]; exact d0⟩, ?_⟩
    rintro m σ H1 ⟨k, rfl, rfl, rfl, kl, ks⟩
    have hk : k < cs.length := by
      rcases Nat.lt_or_ge k cs.length with z | z
      · exact z
      · have : cs.take k = cs := List.take_of_length_le z
        rw [this] at ks
        omega
    have gk : (cs.map V.int)[k]? = some (.int cs[k]) := by
      rw [List.getElem?_map, List.getElem?_eq_getElem hk]
      rfl
    have hc : cs[k]? = some cs[k] := List.getElem?_eq_getElem hk
    refine ⟨_, rfl, .ref a, rfl, .int (k : Int), rfl, a, _, (k : Int), .int cs[k], rfl, rfl, hq, atI_nat gk, d - (cs.take k).sum, cs[k], rfl, rfl, _, rfl, ite2 (fun c => ?_) (fun c => ?_)⟩
    · have ge : cs[k] ≤ d - (cs.take k).sum := of_decide_eq_true c
      refine ⟨fun σ' H' => ∃ k' : Nat, k' = k + 1 ∧ σ' = [some (.ref a), some (.int (d - (cs.take k').sum)), some (.int (k' : Int))] ∧ H' = H1 ∧ (cs.take k').sum ≤ d, ?_, ?_⟩
      · rintro σ' H' ⟨k', rfl, rfl, rfl, z⟩
        exact ⟨cs.length - (k + 1), by omega, k + 1, rfl, rfl, rfl, by omega, z⟩
      · refine ⟨_, rfl, .ref a, rfl, .int (k : Int), rfl, a, _, (k : Int), .int cs[k], rfl, rfl, hq, atI_nat gk, d - (cs.take k).sum, cs[k], rfl, rfl, .int (k : Int), rfl, (k : Int), 1, rfl, rfl, _, _, rfl, k + 1, rfl, ?_, rfl, ?_⟩
        · rw [sum_take_succ hc, show d - ((cs.take k).sum + cs[k]) = d - (cs.take k).sum - cs[k] by omega]
          rfl
        · rw [sum_take_succ hc]
          omega
    · have lt : d - (cs.take k).sum < cs[k] := Int.not_le.mp fun z => c (decide_eq_true z)
      have e : PM.homeN cs d = k := by
        rw [homeN_skip nn kl ks, List.drop_eq_getElem_cons hk]
        show k + (if d - (cs.take k).sum < cs[k] then 0 else _) = k
        rw [if_pos lt]
        rfl
      rw [e] at q
      exact ⟨.int (k : Int), rfl, q⟩
end
/-- the uses of a program: ascending, of declarations whose home encloses the scope -/
def UWf (rs : List PRow) : Prop := ∀ (i : Nat) (r : PRow), rs[i]? = some r → r.2.2.Pairwise (· < ·) ∧ r.2.2.length ≤ 40 ∧ ∀ d ∈ r.2.2, 0 ≤ d ∧ d < (cnts rs).sum ∧ (PM.homeN (cnts rs) d : Int) ∈ PM.W (pars rs) i
def spProg (K : PySem.W.Frag) : Sp := fun vs H Q _ => ∃ (a : Addr) (ms md mu T : Int), vs = [.ref a, .int ms, .int md, .int mu] ∧ HandAt H a T ∧ T ≤ 99000 ∧ 1 ≤ ms ∧ ms ≤ 40 ∧ 0 ≤ md ∧ md ≤ 60 ∧ 0 ≤ mu ∧ mu ≤ 40 ∧
  ∀ (H' : Hp) (v : V) (rs : List PRow), SameX a H H' → HandAt H' a (T + 400) → PWf rs → UWf rs → (rs.length : Int) ≤ ms → (cnts rs).sum ≤ md → Dt K H' (pd rs) v → Q v H'
abbrev progN : List Str := ["_law_hand_here", "_law_most_scopes", "_law_most_declared", "_law_most_uses", "_law_parents", "_law_many", "_law_ways", "_law_at", "_law_counts", "_law_turn", "_law_scope", "_law_uses", "_law_declaration", "_law_nth"]
theorem scProg : FnScope progN ["_law_hand_here", "_law_most_scopes", "_law_most_declared", "_law_most_uses"] (defScope s_law_program) := ⟨rfl, rfl, rfl, by decide +kernel, rfl, by decide +kernel, by decide +kernel⟩
/-- what the generator calls -/
structure TxtG (K : PySem.W.Frag) (mg : Str → Option Value) (fT fP fH fO : Addr) (fdT fdP fdH fdO : FuncData) : Prop where
  FT : FnP K "_law_take" s_law_take fT fdT
  FP : FnP K "_law_pick" s_law_pick fP fdP
  FH : FnP K "_law_home" s_law_home fH fdH
  FO : FnP K "_law_outward" s_law_outward fO fdO
  gT : mg "_law_take" = some (.ref fT)
  gP : mg "_law_pick" = some (.ref fP)
  gH : mg "_law_home" = some (.ref fH)
  gO : mg "_law_outward" = some (.ref fO)
  ml : mg "len" = none
  mr : mg "range" = none
  mi : mg "int" = none
  mu : mg "sum" = none
  mt : mg "tuple" = none
  md : mg "sorted" = none
theorem SameX.after {a : Addr} {H H1 H2 : Hp} {p : Addr} {o : HO} (h : SameX a H H1) (n : H p = none) (e : H2 = L2.upd H1 p o) : SameX a H H2 := fun b u nb z => by
  subst e
  rw [upd_ne (ne_of_none z n)]
  exact h b u nb z
theorem HandAt.upd {H : Hp} {a p : Addr} {T : Int} {o : HO} (h : HandAt H a T) (n : a ≠ p) : HandAt (L2.upd H p o) a T := by
  obtain ⟨L, e, h⟩ := h
  exact ⟨L, by rw [upd_ne n]; exact e, h⟩
theorem HandAt.same {H H' : Hp} {a : Addr} {T : Int} (h : HandAt H a T) (s : Same H H') : HandAt H' a T := by
  obtain ⟨L, e, h⟩ := h
  exact ⟨L, s _ _ e, h⟩
theorem HandAt.ne {H : Hp} {a p : Addr} {T : Int} (h : HandAt H a T) (n : H p = none) : p ≠ a := fun z => by
  obtain ⟨L, e, _⟩ := h
  rw [z, e] at n
  cases n
theorem rep_zero (n : Nat) : (List.replicate n [V.int 0]).flatten = (List.replicate n (0 : Int)).map V.int := by
  rw [List.flatten_replicate_singleton, List.map_replicate]
theorem sum_rep (n : Nat) : (List.replicate n (0 : Int)).sum = 0 := by
  induction n with
  | zero => rfl
  | succ n ih => rw [List.replicate_succ, List.sum_cons, ih]; rfl
theorem sum_set1 {l : List Int} {j : Nat} {z : Int} (h : l[j]? = some z) : (l.set j (z + 1)).sum = l.sum + 1 := by
  rw [L2.sum_set h]
  omega
theorem sqT_keep {K : PySem.W.Frag} {H H' : Hp} {D b : Addr} {xs ys : List V} (hD : H D = some (.lst ys)) (sx : SameX D H H') (q : SqT K H b xs) : SqT K H' b xs := by
  rcases q with q | q
  · rcases q with q | ⟨o, q⟩
    · exact .inl (.inl (sx _ _ (fun z => by rw [z, hD] at q; cases q) q))
    · exact .inl (.inr ⟨o, sx _ _ (fun z => by rw [z, hD] at q; cases q) q⟩)
  · exact .inr q
theorem ints_any {K : PySem.W.Frag} {H H' : Hp} : ∀ (l : List Int) (xs : List V), Dts K H (l.map PyData.int) xs → Dts K H' (l.map PyData.int) xs
  | [], _, h => by
    rw [List.map_nil] at h ⊢
    unfold Dts at h ⊢
    exact h
  | i :: l, xs, h => by
    rw [List.map_cons] at h ⊢
    unfold Dts Dt at h ⊢
    obtain ⟨x, r, e, h1, h2⟩ := h
    exact ⟨x, r, e, h1, ints_any l r h2⟩
theorem rows_keep {K : PySem.W.Frag} {H H' : Hp} {D : Addr} {ys : List V} (hD : H D = some (.lst ys)) (sx : SameX D H H') : ∀ (rs : List PRow) (xs : List V), Dts K H (rs.map rowD) xs → Dts K H' (rs.map rowD) xs
  | [], _, h => by
    rw [List.map_nil] at h ⊢
    unfold Dts at h ⊢
    exact h
  | r :: rs, xs, h => by
    rw [List.map_cons] at h ⊢
    unfold Dts at h ⊢
    obtain ⟨x, rest, e, h1, h2⟩ := h
    refine ⟨x, rest, e, ?_, rows_keep hD sx rs rest h2⟩
    simp only [rowD, Dt, Dts] at h1 ⊢
    obtain ⟨b, zs, e1, q1, x1, r1, e2, e3, x2, r2, e4, e5, x3, r3, e6, ⟨b2, zs2, e7, q2, d2⟩, e8⟩ := h1
    exact ⟨b, zs, e1, sqT_keep hD sx q1, x1, r1, e2, e3, x2, r2, e4, e5, x3, r3, e6, ⟨b2, zs2, e7, sqT_keep hD sx q2, ints_any _ _ d2⟩, e8⟩
theorem dts_snoc {K : PySem.W.Frag} {H : Hp} {d : PyData} {x : V} (hd : Dt K H d x) : ∀ (ds : List PyData) (xs : List V), Dts K H ds xs → Dts K H (ds ++ [d]) (xs ++ [x])
  | [], xs, h => by
    unfold Dts at h
    subst h
    show Dts K H [d] [x]
    unfold Dts Dts
    exact ⟨x, [], rfl, hd, rfl⟩
  | e :: ds, xs, h => by
    unfold Dts at h
    obtain ⟨y, r, e1, h1, h2⟩ := h
    subst e1
    show Dts K H (e :: (ds ++ [d])) (y :: (r ++ [x]))
    unfold Dts
    exact ⟨y, _, rfl, h1, dts_snoc hd ds r h2⟩
theorem map_is {α : Type} {f : PRow → α} {rs : List PRow} {l : List α} (hl : rs.length = l.length) (h : ∀ (i : Nat) (r : PRow), rs[i]? = some r → l[i]? = some (f r)) : rs.map f = l := by
  refine List.ext_getElem? fun i => ?_
  rw [List.getElem?_map]
  cases z : rs[i]? with
  | none =>
    have : rs.length ≤ i := List.getElem?_eq_none_iff.mp z
    rw [List.getElem?_eq_none (by omega)]
    rfl
  | some r => rw [h i r z]; rfl
theorem strict : ∀ {l : List Int}, l.Pairwise (· ≤ ·) → l.Nodup → l.Pairwise (· < ·)
  | [], _, _ => .nil
  | x :: l, h, n => by
    obtain ⟨h1, h2⟩ := List.pairwise_cons.mp h
    obtain ⟨n1, n2⟩ := List.nodup_cons.mp n
    refine List.pairwise_cons.mpr ⟨fun y hy => ?_, strict h2 n2⟩
    have a := h1 y hy
    have b : x ≠ y := fun e => n1 (e ▸ hy)
    omega
section
variable {P : Program} {w : World} {K : PySem.W.Frag} {mg : Str → Option Value} {base : Heap}
/-- the rows' reading -/
abbrev tRowE (K : PySem.W.Frag) : TE := tTup (tCons (tOp (rIxL K) (tVar 4) (tVar 13)) (tCons (tOp (rIxL K) (tVar 8) (tVar 13))
  (tCons (tCB (fun xs H Q => ∃ p ys, xs = [.ref p] ∧ ((SqL K H p ys ∧ ∀ l, H l = none → Q (.ref l) (upd H l (.tup ys))) ∨ (SqT K H p ys ∧ Q (.ref p) H))) (tCons (tCB (rSorted K) (tCons (tOp (rIxL K) (tVar 11) (tVar 13)) tNil)) tNil)) tNil)))
theorem ok_prog {f fT fP fH fO : Addr} {fd fdT fdP fdH fdO : FuncData} (T : TxtG K mg fT fP fH fO fdT fdP fdH fdO) (F : FnP K "_law_program" s_law_program f fd) :
    FnOk P w K mg base CX0 3 f fd ["_law_hand_here", "_law_most_scopes", "_law_most_declared", "_law_most_uses"] (spProg K) := by
  have GT : FnOk P w K mg base CX0 1 fT fdT ["_law_hand_here", "_law_many"] spTake := ok_take T.FT
  have GP : FnOk P w K mg base CX0 2 fP fdP ["_law_hand_here", "_law_items"] (spPick K) := ok_pick T.FP T.FT T.gT T.ml
  have GH : FnOk P w K mg base CX0 1 fH fdH ["_law_counts", "_law_declaration"] (spLHome K) := ok_lhome T.FH
  have GO : FnOk P w K mg base CX0 1 fO fdO ["_law_parents", "_law_scope"] (spOut K) := ok_out T.FO
  have bT : Binds K fdT ["_law_hand_here", "_law_many"] [] := T.FT.bindsN fun _ _ _ _ _ _ us hl => match us, hl with | [_, _], _ => rfl
  have bP : Binds K fdP ["_law_hand_here", "_law_items"] [] := T.FP.bindsN fun _ _ _ _ _ _ us hl => match us, hl with | [_, _], _ => rfl
  have bH : Binds K fdH ["_law_counts", "_law_declaration"] [] := T.FH.bindsN fun _ _ _ _ _ _ us hl => match us, hl with | [_, _], _ => rfl
  have bO : Binds K fdO ["_law_parents", "_law_scope"] [] := T.FO.bindsN fun _ _ _ _ _ _ us hl => match us, hl with | [_, _], _ => rfl
  refine F.ok scProg (fun vs H Q E h => ?_) (fun cdv A outer s H vs Q E hr h => ?_)
  · obtain ⟨a, ms, md, mu, T0, rfl, _⟩ := h
    rfl
  · obtain ⟨a, ms, md, mu, T0, rfl, hA, hT, ms0, ms1, md0, md1, mu0, mu1, q⟩ := h
    have nd := scProg.nd
    have hr1 : Room 1 _ := hr.mono (by decide)
    have hr2 : Room 2 _ := hr.mono (by decide)
    refine ⟨_, PSs.nox (pss_cons (ps_asg (pe_tup (pa_cons (pe_lst (pa_cons (pe_un un_neg pe_int) pa_nil)) (pa_cons (pe_op op_add pe_int (pe_call GT hr1 (by rfl) T.gT T.FT.kp bT .nil pass0 (pa_cons (pv 0) (pa_cons (pv 1) pa_nil)))) pa_nil))) (pg_tup rfl (pgs_cons (pg_name (i := 4) nd rfl (.inr rfl)) (pgs_cons (pg_name (i := 5) nd rfl (.inl rfl)) pgs_nil))))
      (pss_cons (ps_while PassesOwn.never (pt_cmpR op_lt (pe_callB call_len_seq (by rfl) T.ml PySem.boot_len (pa_cons (pv 4) pa_nil)) (pv 5) (nomark _)) (pss_cons (ps_par (i := 6) (j := 7) (by rfl) nd rfl rfl (by decide) rfl rfl (pa_cons (pe_lst pa_nil) (pa_cons (pe_op op_sub (pe_callB call_len_seq (by rfl) T.ml PySem.boot_len (pa_cons (pv 4) pa_nil)) pe_int) pa_nil)) (by rfl))
      (pss_cons (ps_while PassesOwn.never (pt_cmpR op_ge (pv 7) pe_int (nomark _)) (pss_cons (ps_expr (pe_bm PySem.F.plainAttrs_list PySem.F.slot_list_append PySem.F.type_list_append mt_append (pv 6) (pa_cons (pv 7) pa_nil)))
      (pss_one (ps_set (i := 7) nd rfl (.inl rfl) (pe_ix ix_list (pv 4) (pv 7) (fun _ _ => rfl))))))
      (pss_one (ps_expr (pe_bm PySem.F.plainAttrs_list PySem.F.slot_list_append PySem.F.type_list_append mt_append (pv 4) (pa_cons (pe_call GP hr2 (by rfl) T.gP T.FP.kp bP .nil pass0 (pa_cons (pv 0) (pa_cons (pe_lst (pa_cons (pe_ix ix_list (pv 6) pe_int (fun _ _ => rfl)) (pa_cons (pe_call GP hr2 (by rfl) T.gP T.FP.kp bP .nil pass0 (pa_cons (pv 0) (pa_cons (pv 6) pa_nil))) pa_nil))) pa_nil))) pa_nil)))))))
      (pss_cons (ps_set (i := 8) nd rfl (.inr rfl) (pe_op op_rep (pe_lst (pa_cons pe_int pa_nil)) (pv 5)))
      (pss_cons (ps_for PassesOwn.never rfl (pi_range1 (by rfl) T.mr (pa_cons (pe_call GT hr1 (by rfl) T.gT T.FT.kp bT .nil pass0 (pa_cons (pv 0) (pa_cons (pe_op op_add (pv 2) pe_int) pa_nil))) pa_nil)) (pg_name (i := 9) nd rfl (.inl rfl)) (pss_cons (ps_set (i := 10) nd rfl (.inl rfl) (pe_call GT hr1 (by rfl) T.gT T.FT.kp bT .nil pass0 (pa_cons (pv 0) (pa_cons (pv 5) pa_nil))))
      (pss_one (ps_asg (pe_op op_add (pe_ix ix_list (pv 8) (pv 10) (fun _ _ => rfl)) pe_int) (pg_sub (pv 8) (pv 10) set_list)))))
      (pss_cons (ps_set (i := 11) nd rfl (.inr rfl) (pe_lc (own := [("_law_scope", 10)]) (g := gName 10) (tt := tYes) (te := tLst tNil) rfl nd (pi_list (pv 4)) (blkOk_by (N := progN) (sc := defScope s_law_program) (by decide +kernel)) (fun _ _ _ _ _ => pg_name (i := 10) nd rfl (Or.inl rfl)) (fun _ _ _ _ _ => pts_nil) (fun _ _ _ _ _ => (pe_lst pa_nil))))
      (pss_cons (ps_for PassesOwn.never rfl (pi_range1 (by rfl) T.mr (pa_cons (pe_op op_mul (pe_call GT hr1 (by rfl) T.gT T.FT.kp bT .nil pass0 (pa_cons (pv 0) (pa_cons (pe_op op_add (pv 3) pe_int) pa_nil))) (pe_callTy call_int1 (by rfl) T.mi (by decide +kernel) (pa_cons (pe_cmpR op_gt (pe_callB (cr_sum rfl) (by rfl) T.mu (by decide +kernel) (pa_cons (pv 8) pa_nil)) pe_int (nomark _)) pa_nil))) pa_nil)) (pg_name (i := 9) nd rfl (.inl rfl)) (pss_cons (ps_par (i := 12) (j := 10) (by rfl) nd rfl rfl (by decide) rfl rfl (pa_cons (pe_call GT hr1 (by rfl) T.gT T.FT.kp bT .nil pass0 (pa_cons (pv 0) (pa_cons (pe_callB (cr_sum rfl) (by rfl) T.mu (by decide +kernel) (pa_cons (pv 8) pa_nil)) pa_nil))) (pa_cons (pe_call GT hr1 (by rfl) T.gT T.FT.kp bT .nil pass0 (pa_cons (pv 0) (pa_cons (pv 5) pa_nil))) pa_nil)) (by rfl))
      (pss_one (ps_if (PW.pt (pw_and (pt_cmpR op_in_seq (pe_call GH hr1 (by rfl) T.gH T.FH.kp bH .nil pass0 (pa_cons (pv 8) (pa_cons (pv 12) pa_nil))) (pe_call GO hr1 (by rfl) T.gO T.FO.kp bO .nil pass0 (pa_cons (pv 4) (pa_cons (pv 10) pa_nil))) (by rfl)) (pw_and1 (pt_cmpR op_notIn_seq (pv 12) (pe_ix ix_list (pv 11) (pv 10) (fun _ _ => rfl)) (by rfl))))) (pss_one (ps_expr (pe_bm PySem.F.plainAttrs_list PySem.F.slot_list_append PySem.F.type_list_append mt_append (pe_ix ix_list (pv 11) (pv 10) (fun _ _ => rfl)) (pa_cons (pv 12) pa_nil)))) pss_nil))))
      (pss_one (ps_ret (pe_callTy call_tuple_of (by rfl) T.mt (by decide +kernel) (pa_cons (pe_lc (own := [("_law_nth", 13)]) (g := gName 13) (tt := tYes) (te := tRowE K) rfl nd (pi_range1 (by rfl) T.mr (pa_cons (pv 5) pa_nil)) (blkOk_by (N := progN) (sc := defScope s_law_program) (by decide +kernel)) (fun _ _ _ _ _ => pg_name (i := 13) nd rfl (Or.inl rfl)) (fun _ _ _ _ _ => pts_nil) (fun _ _ _ _ _ => (pe_tup (pa_cons (pe_ix ix_list (pv 4) (pv 13) (fun _ _ => rfl)) (pa_cons (pe_ix ix_list (pv 8) (pv 13) (fun _ _ => rfl)) (pa_cons (pe_callTy call_tuple_of (by rfl) T.mt (by decide +kernel) (pa_cons (pe_callB cr_sorted (by rfl) T.md (by decide +kernel) (pa_cons (pe_ix ix_list (pv 11) (pv 13) (fun _ _ => rfl)) pa_nil)) pa_nil)) pa_nil)))))) pa_nil)))))))))), ?_⟩
    have nal : ∀ {p : Addr} {G : Hp} {T : Int}, HandAt G a T → G p = none → a ≠ p := fun h n z => h.ne n z.symm
    refine ⟨1, rfl, (by show 1 ≤ sizeLine; decide), fun pl npl => ?_⟩
    have apl : a ≠ pl := nal hA npl
    refine ⟨.ref a, rfl, .int ms, rfl, a, ms, T0, rfl, hA.upd apl, by omega, by omega, by omega, fun H1 d sx1 hA1 d0 d1 => ?_⟩
    refine ⟨1, d, rfl, rfl, (by show 2 ≤ sizeLine; decide), fun tp ntp => ?_⟩
    refine ⟨tp, _, rfl, .of upd_same, rfl, _, _, rfl, _, _, rfl, rfl, ?_⟩
    have P1 : H1 pl = some (.lst [V.int (-1)]) := sx1 _ _ (Ne.symm apl) upd_same
    have X2 : SameX a H (L2.upd H1 tp (.tup [V.ref pl, V.int (1 + d)])) := fun b o nb z => by
      have z1 : H1 b = some o := sx1 _ _ nb (by rw [upd_ne (ne_of_none z npl)]; exact z)
      rw [upd_ne (ne_of_none z1 ntp)]
      exact z1
    have A2 : HandAt (L2.upd H1 tp (.tup [V.ref pl, V.int (1 + d)])) a (T0 + 1) := hA1.upd (nal hA1 ntp)
    have P2 : L2.upd H1 tp (.tup [V.ref pl, V.int (1 + d)]) pl = some (.lst [V.int (-1)]) := by
      rw [upd_ne (ne_of_none P1 ntp)]
      exact P1
    generalize L2.upd H1 tp (.tup [V.ref pl, V.int (1 + d)]) = H2 at X2 A2 P2 ⊢
    refine ⟨fun m σ H' => ∃ (ps : List Int) (y6 y7 : Option V), m = (1 + d).toNat - ps.length ∧ σ = [some (.ref a), some (.int ms), some (.int md), some (.int mu), some (.ref pl), some (.int (1 + d)), y6, y7, none, none, none, none, none, none] ∧
      SameX a H H' ∧ HandAt H' a (T0 + 1 + 2 * ((ps.length : Int) - 1)) ∧ H' pl = some (.lst (ps.map V.int)) ∧ PM.Pre ps ∧ (ps.length : Int) ≤ 1 + d,
      ⟨_, [-1], none, none, rfl, rfl, X2, A2.mono (by show T0 + 1 ≤ T0 + 1 + 2 * ((1 : Int) - 1); omega), P2, PM.Pre.one, by show (1 : Int) ≤ 1 + d; omega⟩, ?_⟩
    rintro m σ H3 ⟨ps, y6, y7, rfl, rfl, X3, A3, P3, pre, pl3⟩
    have ppos := pre.pos
    refine ⟨.ref pl, rfl, pl, _, rfl, .inl (.of P3), .int (1 + d), rfl, _, _, rfl, rfl, _, rfl, ite2 (fun c => ?_) (fun c => ?_)⟩
    · have c' : (((ps.map V.int).length : Nat) : Int) < 1 + d := of_decide_eq_true c
      rw [List.length_map] at c'
      refine ⟨fun σ' H' => ∃ (ps' : List Int) (y6 y7 : Option V), ps'.length = ps.length + 1 ∧ σ' = [some (.ref a), some (.int ms), some (.int md), some (.int mu), some (.ref pl), some (.int (1 + d)), y6, y7, none, none, none, none, none, none] ∧
        SameX a H H' ∧ HandAt H' a (T0 + 1 + 2 * ((ps'.length : Int) - 1)) ∧ H' pl = some (.lst (ps'.map V.int)) ∧ PM.Pre ps', ?_, ?_⟩
      · rintro σ' H' ⟨ps', z6, z7, hl', rfl, X', A', P', pre'⟩
        exact ⟨(1 + d).toNat - ps'.length, by omega, ps', z6, z7, rfl, rfl, X', A', P', pre', by omega⟩
      · refine ⟨Nat.zero_le _, fun wl nwl => ?_⟩
        have plw : pl ≠ wl := ne_of_none P3 nwl
        have aw : a ≠ wl := nal A3 nwl
        have at4 : ∀ o : HO, L2.upd H3 wl o pl = some (.lst (ps.map V.int)) := fun o => by
          rw [upd_ne plw]
          exact P3
        refine ⟨.ref pl, rfl, pl, _, rfl, .inl (.of (at4 _)), _, 1, rfl, rfl, _, _, rfl, ?_⟩
        rw [List.length_map]
        have lst0 : ((ps.length : Int) - 1) < ps.length := by omega
        refine ⟨fun m σ H' => ∃ (acc : List Int) (x : Int), m = (x + 1).toNat ∧ σ = [some (.ref a), some (.int ms), some (.int md), some (.int mu), some (.ref pl), some (.int (1 + d)), some (.ref wl), some (.int x), none, none, none, none, none, none] ∧
          H' = L2.upd H3 wl (.lst (acc.map V.int)) ∧ PM.W ps ((ps.length : Int) - 1) = acc ++ PM.W ps x ∧ x < ps.length, ⟨_, [], (ps.length : Int) - 1, rfl, rfl, rfl, rfl, lst0⟩, ?_⟩
        rintro m σ H4 ⟨acc, x, rfl, rfl, rfl, ew, x1⟩
        refine ⟨.int x, rfl, x, 0, rfl, rfl, _, rfl, ite2 (fun cx => ?_) (fun cx => ?_)⟩
        · have x0 : 0 ≤ x := of_decide_eq_true cx
          have st := PM.W_step pre.low x0 x1
          have lp := PM.low_par pre.low x0 x1
          have wlen := W_len_le pre.low _ lst0
          have al : acc.length < 1000 := by
            have := congrArg List.length ew
            rw [List.length_append] at this
            omega
          refine ⟨fun σ' H' => ∃ (acc' : List Int) (y : Int), y < x ∧ σ' = [some (.ref a), some (.int ms), some (.int md), some (.int mu), some (.ref pl), some (.int (1 + d)), some (.ref wl), some (.int y), none, none, none, none, none, none] ∧
            H' = L2.upd H3 wl (.lst (acc'.map V.int)) ∧ PM.W ps ((ps.length : Int) - 1) = acc' ++ PM.W ps y ∧ y < ps.length, ?_, ?_⟩
          · rintro σ' H' ⟨acc', y, hy, rfl, rfl, w', y1⟩
            exact ⟨(y + 1).toNat, by omega, acc', y, rfl, rfl, rfl, w', y1⟩
          · refine ⟨.ref wl, rfl, .inl ⟨rfl, _, .of upd_same⟩, .int x, rfl, wl, _, _, rfl, rfl, upd_same, by rw [List.length_map]; exact small1000 (by omega), ?_⟩
            rw [upd_upd]
            refine ⟨.ref pl, rfl, .int x, rfl, pl, _, x, .int (ps.getD x.toNat (-1)), rfl, rfl, .of (at4 _), ?_, ?_⟩
            · have e : x = ((x.toNat : Nat) : Int) := by omega
              have pz := PM.par_of x0 x1
              rw [e]
              exact atI_nat (by rw [List.getElem?_map, show ((x.toNat : Nat) : Int).toNat = x.toNat by omega, pz]; rfl)
            · refine ⟨acc ++ [x], ps.getD x.toNat (-1), by omega, rfl, ?_, ?_, by omega⟩
              · rw [List.map_append]
                rfl
              · rw [ew, st, List.append_assoc]
                rfl
        · have xn : x < 0 := Int.not_le.mp fun z => cx (decide_eq_true z)
          rw [PM.W_neg ps xn, List.append_nil] at ew
          subst ew
          have st := PM.W_step pre.low (a := (ps.length : Int) - 1) (by omega) lst0
          have wlen := W_len_le pre.low _ lst0
          have A5 : HandAt (L2.upd H3 wl (.lst ((PM.W ps ((ps.length : Int) - 1)).map V.int))) a (T0 + 1 + 2 * ((ps.length : Int) - 1)) := A3.upd aw
          refine ⟨.ref pl, rfl, .inl ⟨rfl, _, .of (at4 _)⟩, .ref a, rfl, .ref wl, rfl, wl, _, 0, .int ((ps.length : Int) - 1), rfl, rfl, .of upd_same, ?_, ?_⟩
          · rw [st]
            exact atI_nat (j := 0) rfl
          refine ⟨.ref a, rfl, .ref wl, rfl, a, wl, _, _, rfl, A5, by omega, .of upd_same, ?_, ?_, Ne.symm aw, fun H6 xv sx6 A6 hx6 => ?_⟩
          · rw [st]
            exact fun z => nomatch z
          · rw [List.length_map]
            omega
          refine ⟨by show 2 ≤ sizeLine; decide, fun l2 n2 => ?_⟩
          have al2 : a ≠ l2 := nal A6 n2
          refine ⟨a, l2, _, _, rfl, A6.upd al2, by omega, .of upd_same, (fun z => nomatch z), (by show 2 < 1073741824; decide), Ne.symm al2, fun H7 yv sx7 A7 hy7 => ?_⟩
          obtain ⟨y, rfl, hy⟩ : ∃ y : Int, yv = .int y ∧ y ∈ PM.W ps ((ps.length : Int) - 1) := by
            rcases List.mem_cons.mp hy7 with e | e
            · refine ⟨(ps.length : Int) - 1, e, ?_⟩
              rw [st]
              exact List.mem_cons_self
            · have e : yv = xv := List.mem_singleton.mp e
              subst e
              obtain ⟨y, hy, e⟩ := List.mem_map.mp hx6
              exact ⟨y, e.symm, hy⟩
          have P6 : H6 pl = some (.lst (ps.map V.int)) := sx6 _ _ (Ne.symm apl) (at4 _)
          have P7 : H7 pl = some (.lst (ps.map V.int)) := sx7 _ _ (Ne.symm apl) (by rw [upd_ne (ne_of_none P6 n2)]; exact P6)
          refine ⟨pl, _, _, rfl, rfl, P7, by rw [List.length_map]; exact small1000 (by omega), ?_⟩
          refine ⟨ps ++ [y], _, _, by rw [List.length_append]; rfl, rfl, fun b o nb z => ?_, ?_, ?_, pre.snoc hy⟩
          · have z3 := X3 _ _ nb z
            have z6 := sx6 b o nb (by rw [upd_ne (ne_of_none z3 nwl)]; exact z3)
            have z7 := sx7 b o nb (by rw [upd_ne (ne_of_none z6 n2)]; exact z6)
            rw [upd_ne (ne_of_none z npl)]
            exact z7
          · rw [List.length_append, List.length_singleton]
            exact (A7.upd apl).mono (by omega)
          · rw [upd_same, List.map_append]
            rfl
    · have cn : ¬ ((((ps.map V.int).length : Nat) : Int) < 1 + d) := fun z => c (decide_eq_true z)
      rw [List.length_map] at cn
      have pn : (ps.length : Int) = 1 + d := by omega
      have fresh : ∀ {p : Addr} {G : Hp} {T : Int}, SameX a H G → HandAt G a T → G p = none → H p = none := fun {p G T} X A n => by
        cases z : H p with
        | none => rfl
        | some o =>
          by_cases e : p = a
          · exact absurd e (A.ne n)
          · rw [X p o e z] at n
            cases n
      refine ⟨by show 1 ≤ sizeLine; decide, fun l0 nl0 => ?_⟩
      refine ⟨.int (1 + d), rfl, l0, 1 + d, [V.int 0], rfl, rfl, upd_same, by omega, by omega, ?_, fun cl ncl => ?_⟩
      · show 1 * (1 + d).toNat ≤ sizeLine
        exact Nat.le_of_lt (small1000 (by omega))
      rw [show (1 + d).toNat = ps.length by omega, rep_zero]
      have s34 := (same_new (H := H3) (o := .lst [V.int 0]) nl0).trans (same_new (o := .lst ((List.replicate ps.length (0 : Int)).map V.int)) ncl)
      have Hcl : H3 cl = none := (same_new (H := H3) (o := .lst [V.int 0]) nl0).free ncl
      have cln : H cl = none := fresh X3 A3 Hcl
      have plc : pl ≠ cl := ne_of_none P3 Hcl
      have acl : a ≠ cl := nal A3 Hcl
      have X4 : SameX a H _ := X3.trans (.of s34)
      have A4 : HandAt _ a (T0 + 80) := (A3.same s34).mono (by omega)
      have P4 := s34 _ _ P3
      have C4 := upd_same (H := L2.upd H3 l0 (.lst [V.int 0])) (a := cl) (o := .lst ((List.replicate ps.length (0 : Int)).map V.int))
      generalize L2.upd (L2.upd H3 l0 (.lst [V.int 0])) cl (.lst ((List.replicate ps.length (0 : Int)).map V.int)) = H4 at X4 A4 P4 C4 ⊢
      clear s34
      refine ⟨.ref a, rfl, .int md, rfl, md, 1, rfl, rfl, a, md + 1, T0 + 80, rfl, A4, by omega, by omega, by omega, fun H5 k sx5 A5 k0 k1 => ?_⟩
      refine ⟨k, rfl, by omega, by omega, ?_⟩
      refine for_range (lo := 0) (fun i σ H' => ∃ (cs : List Int) (y9 y10 : Option V), σ = [some (.ref a), some (.int ms), some (.int md), some (.int mu), some (.ref pl), some (.int (1 + d)), y6, y7, some (.ref cl), y9, y10, none, none, none] ∧
        SameX a H H' ∧ HandAt H' a (T0 + 81 + i) ∧ H' pl = some (.lst (ps.map V.int)) ∧ H' cl = some (.lst (cs.map V.int)) ∧ cs.length = ps.length ∧ (∀ c ∈ cs, 0 ≤ c) ∧ cs.sum = i)
        ⟨List.replicate ps.length 0, none, none, rfl, X4.trans sx5, A5.mono (by omega), sx5 _ _ (Ne.symm apl) P4, sx5 _ _ (Ne.symm acl) C4, List.length_replicate, fun c hc => by rw [(List.mem_replicate.mp hc).2]; omega, by rw [sum_rep]; rfl⟩ ?_ ?_
      · rintro i σ G hi ⟨cs, y9, y10, rfl, XG, AG, PG, CG, csl, csn, css⟩
        refine ⟨.ref a, rfl, .int (1 + d), rfl, a, 1 + d, _, rfl, AG, by omega, by omega, by omega, fun H6 sc sx6 A6 s0 s1 => ?_⟩
        obtain ⟨j, rfl⟩ : ∃ j : Nat, sc = (j : Int) := ⟨sc.toNat, by omega⟩
        have hj : j < cs.length := by omega
        have gj : cs[j]? = some cs[j] := List.getElem?_eq_getElem hj
        have C6 := sx6 _ _ (Ne.symm acl) CG
        have P6 := sx6 _ _ (Ne.symm apl) PG
        refine ⟨.ref cl, rfl, .int (j : Int), rfl, cl, _, (j : Int), .int cs[j], rfl, rfl, .of C6, atI_nat (by rw [List.getElem?_map, gj]; rfl), _, 1, rfl, rfl, ?_⟩
        refine ⟨.ref cl, rfl, .int (j : Int), rfl, cl, _, (j : Int), j, rfl, rfl, C6, ?_, ?_⟩
        · unfold ixN
          rw [if_pos (by omega), if_pos (by rw [List.length_map]; omega)]
          rfl
        · refine ⟨cs.set j (cs[j] + 1), _, _, rfl, fun b o nb z => ?_, (A6.upd acl).mono (by omega), ?_, ?_, by rw [List.length_set]; exact csl, fun c hc => ?_, ?_⟩
          · rw [upd_ne (ne_of_none z cln)]
            exact sx6 _ _ nb (XG _ _ nb z)
          · rw [upd_ne plc]
            exact P6
          · rw [upd_same, List.map_set]
          · rcases List.mem_or_eq_of_mem_set hc with z | z
            · exact csn c z
            · have := csn _ (List.getElem_mem hj)
              omega
          · rw [sum_set1 gj, css]
            omega
      · rintro σ G ⟨cs, y9, y10, rfl, XG, AG, PG, CG, csl, csn, css⟩
        have ksum : cs.sum ≤ md := by omega
        refine ⟨.ref pl, rfl, pl, rfl, ⟨_, .of PG⟩, fun D nD => ?_⟩
        refine lc_list (K := K) (a := pl) (xs := ps.map V.int) (fun j H' => ∃ as : List Addr, Same G H' ∧ H' D = some (.lst (as.map V.ref)) ∧ as.length = j ∧ as.Nodup ∧ ∀ u ∈ as, H' u = some (.lst []) ∧ G u = none ∧ u ≠ D)
          ⟨[], same_new nD, upd_same, rfl, List.nodup_nil, fun u hu => nomatch hu⟩ (fun j H' _ ⟨_, s', _⟩ => .of (s' _ _ PG)) ?_ ?_
        · rintro j x H' hx ⟨as, S', eD, hl', hnd, hu'⟩
          have hjl : j < ps.length := by
            have := (List.getElem?_eq_some_iff.mp hx).1
            rw [List.length_map] at this
            exact this
          refine ⟨rfl, Nat.zero_le _, fun u nu => ?_⟩
          have uD : u ≠ D := fun z => by
            rw [z, eD] at nu
            cases nu
          have gu : G u = none := S'.free nu
          refine ⟨as.map V.ref, by rw [upd_ne (Ne.symm uD)]; exact eD, by rw [List.length_map]; exact small1000 (by omega), as ++ [u], fun b o z => ?_, ?_, by rw [List.length_append, hl']; rfl, ?_, fun y hy => ?_⟩
          · rw [upd_ne (ne_of_none z nD), upd_ne (ne_of_none z gu)]
            exact S' _ _ z
          · rw [upd_same, List.map_append]
            rfl
          · refine List.nodup_append.mpr ⟨hnd, (by simp), fun y hy z hz e => ?_⟩
            rw [List.mem_singleton.mp hz] at e
            have := (hu' y hy).1
            rw [e, nu] at this
            cases this
          · rcases List.mem_append.mp hy with hy | hy
            · obtain ⟨h1, h2, h3⟩ := hu' y hy
              refine ⟨?_, h2, h3⟩
              rw [upd_ne h3, upd_ne (ne_of_none h1 nu)]
              exact h1
            · rw [List.mem_singleton.mp hy]
              refine ⟨?_, gu, uD⟩
              rw [upd_ne uD, upd_same]
        · rintro G2 ⟨as, S2, eD, hl2, hnd, hu2⟩
          rw [List.length_map] at hl2
          have aG : ∀ {u}, u ∈ as → a ≠ u := fun {u} hu => nal AG (hu2 u hu).2.1
          have fG : ∀ {u}, u ∈ as → H u = none := fun {u} hu => fresh XG AG (hu2 u hu).2.1
          have nDH : H D = none := fresh XG AG nD
          have aD : a ≠ D := nal AG nD
          have pu : ∀ {u}, u ∈ as → u ≠ pl := fun {u} hu z => by
            have := (hu2 u hu).2.1
            rw [z, PG] at this
            cases this
          have cu : ∀ {u}, u ∈ as → u ≠ cl := fun {u} hu z => by
            have := (hu2 u hu).2.1
            rw [z, CG] at this
            cases this
          have X5 : SameX a H G2 := XG.trans (.of S2)
          have A5' : HandAt G2 a (T0 + 141) := (AG.same S2).mono (by omega)
          have P5 : G2 pl = some (.lst (ps.map V.int)) := S2 _ _ PG
          have C5 : G2 cl = some (.lst (cs.map V.int)) := S2 _ _ CG
          have Dpl : D ≠ pl := fun z => by
            rw [z, PG] at nD
            cases nD
          have Dcl : D ≠ cl := fun z => by
            rw [z, CG] at nD
            cases nD
          refine ⟨.ref a, rfl, .int mu, rfl, mu, 1, rfl, rfl, a, mu + 1, T0 + 141, rfl, A5', by omega, by omega, by omega, fun H6 t sx6 A6 t0 t1 => ?_⟩
          have C6 := sx6 _ _ (Ne.symm acl) C5
          refine ⟨.ref cl, rfl, cl, cs, rfl, .of C6, cs.sum, 0, rfl, rfl, .inr ⟨_, rfl, t, _, rfl, rfl, .inl ⟨by omega, by omega⟩, _, rfl, ?_, ?_, ?_⟩⟩
          · have := bit_nn (decide (0 < cs.sum))
            have := Int.mul_nonneg t0 this
            omega
          · have b01 : (if decide (0 < cs.sum) = true then (1 : Int) else 0) = 0 ∨ (if decide (0 < cs.sum) = true then (1 : Int) else 0) = 1 := by
              by_cases z : decide (0 < cs.sum) = true
              · rw [if_pos z]
                exact .inr rfl
              · rw [if_neg z]
                exact .inl rfl
            rcases b01 with z | z
            · rw [z]
              omega
            · rw [z]
              omega
          have turns : ∀ i : Nat, i < (t * (if decide (0 < cs.sum) = true then (1 : Int) else 0)).toNat → 0 < cs.sum ∧ i < 40 := fun i hi => by
            by_cases z : decide (0 < cs.sum) = true
            · rw [if_pos z, Int.mul_one] at hi
              exact ⟨of_decide_eq_true z, by omega⟩
            · rw [if_neg z, Int.mul_zero] at hi
              exact absurd hi (Nat.not_lt_zero _)
          refine for_range (lo := 0) (fun i σ H' => ∃ (us : List (List Int)) (y9 y10 y12 : Option V), σ = [some (.ref a), some (.int ms), some (.int md), some (.int mu), some (.ref pl), some (.int (1 + d)), y6, y7, some (.ref cl), y9, y10, some (.ref D), y12, none] ∧
            SameX a H H' ∧ HandAt H' a (T0 + 142 + 2 * i) ∧ H' pl = some (.lst (ps.map V.int)) ∧ H' cl = some (.lst (cs.map V.int)) ∧ H' D = some (.lst (as.map V.ref)) ∧ us.length = as.length ∧
            (∀ (j : Nat) (u : Addr) (l : List Int), as[j]? = some u → us[j]? = some l → H' u = some (.lst (l.map V.int))) ∧ (∀ (j : Nat) (l : List Int), us[j]? = some l → l.Nodup ∧ l.length ≤ i ∧ ∀ e ∈ l, 0 ≤ e ∧ e < cs.sum ∧ (PM.homeN cs e : Int) ∈ PM.W ps j))
            ⟨List.replicate as.length [], _, _, none, rfl, X5.trans sx6, A6.mono (by omega), sx6 _ _ (Ne.symm apl) P5, C6, sx6 _ _ (Ne.symm aD) eD, List.length_replicate, fun j u l hu hl => ?_, fun j l hl => ?_⟩ ?_ ?_
          · have hm := List.mem_of_getElem? hu
            have e : l = [] := by
              rw [List.getElem?_replicate] at hl
              split at hl
              · exact (Option.some.inj hl).symm
              · cases hl
            rw [e]
            exact sx6 _ _ (Ne.symm (aG hm)) (hu2 u hm).1
          · have e : l = [] := by
              rw [List.getElem?_replicate] at hl
              split at hl
              · exact (Option.some.inj hl).symm
              · cases hl
            rw [e]
            exact ⟨List.nodup_nil, Nat.zero_le _, fun e he => nomatch he⟩
          · rintro i σ G3 hi ⟨us, z9, z10, z12, rfl, X7, A7, P7, C7, D7, usl, ush, uso⟩
            obtain ⟨spos, i40⟩ := turns i hi
            refine ⟨.ref a, rfl, .ref cl, rfl, cl, cs, rfl, .of C7, a, cs.sum, _, rfl, A7, by omega, by omega, by omega, fun H8 de sx8 A8 e0 e1 => ?_⟩
            refine ⟨.ref a, rfl, .int (1 + d), rfl, a, 1 + d, _, rfl, A8, by omega, by omega, by omega, fun H9 sc sx9 A9 s0 s1 => ?_⟩
            refine ⟨_, _, rfl, ?_⟩
            have sx := sx8.trans sx9
            have C9 := sx _ _ (Ne.symm acl) C7
            have P9 := sx _ _ (Ne.symm apl) P7
            have D9 := sx _ _ (Ne.symm aD) D7
            obtain ⟨j, rfl⟩ : ∃ j : Nat, sc = (j : Int) := ⟨sc.toNat, by omega⟩
            have hj : j < as.length := by omega
            have hju : j < us.length := by omega
            have gu : as[j]? = some as[j] := List.getElem?_eq_getElem hj
            have gl : us[j]? = some us[j] := List.getElem?_eq_getElem hju
            have mu' : as[j] ∈ as := List.getElem_mem hj
            have U9 := sx _ _ (Ne.symm (aG mu')) (ush j _ _ gu gl)
            obtain ⟨lnd, lle, lok⟩ := uso j _ gl
            refine ⟨.ref cl, rfl, .int de, rfl, cl, cs, de, rfl, .of C9, csn, e0, e1, ?_⟩
            refine ⟨.ref pl, rfl, .int (j : Int), rfl, pl, ps, (j : Int), rfl, .of P9, pre.low, by omega, by omega, fun H10 p10 S10 L10 => ?_⟩
            refine ⟨p10, _, rfl, .inl (.of L10), rfl, flat_ints _, _, rfl, ?_⟩
            rw [if_neg (by decide : ¬ (false = true)), inV_int]
            have back : ∃ (us' : List (List Int)) (w9 w10 w12 : Option V), ([some (.ref a), some (.int ms), some (.int md), some (.int mu), some (.ref pl), some (.int (1 + d)), y6, y7, some (.ref cl), some (.int (0 + (i : Int))), some (.int (j : Int)), some (.ref D), some (.int de), none] : L2.St)
                = [some (.ref a), some (.int ms), some (.int md), some (.int mu), some (.ref pl), some (.int (1 + d)), y6, y7, some (.ref cl), w9, w10, some (.ref D), w12, none] ∧
                SameX a H H10 ∧ HandAt H10 a (T0 + 142 + 2 * ((i + 1 : Nat) : Int)) ∧ H10 pl = some (.lst (ps.map V.int)) ∧ H10 cl = some (.lst (cs.map V.int)) ∧ H10 D = some (.lst (as.map V.ref)) ∧ us'.length = as.length ∧
                (∀ (j : Nat) (u : Addr) (l : List Int), as[j]? = some u → us'[j]? = some l → H10 u = some (.lst (l.map V.int))) ∧ (∀ (j : Nat) (l : List Int), us'[j]? = some l → l.Nodup ∧ l.length ≤ i + 1 ∧ ∀ e ∈ l, 0 ≤ e ∧ e < cs.sum ∧ (PM.homeN cs e : Int) ∈ PM.W ps j) :=
              ⟨us, _, _, _, rfl, (X7.trans sx).trans (.of S10), (A9.same S10).mono (by omega), S10 _ _ P9, S10 _ _ C9, S10 _ _ D9, usl,
                fun j u l h1 h2 => S10 _ _ (sx _ _ (Ne.symm (aG (List.mem_of_getElem? h1))) (ush j u l h1 h2)), fun j l h => ⟨(uso j l h).1, Nat.le_succ_of_le (uso j l h).2.1, (uso j l h).2.2⟩⟩
            by_cases c1 : (PM.homeN cs de : Int) ∈ PM.W ps (j : Int)
            · rw [decide_eq_true c1]
              refine iteT ?_
              have gr : (as.map V.ref)[j]? = some (.ref as[j]) := by
                rw [List.getElem?_map, gu]
                rfl
              have D10 := S10 _ _ D9
              have U10 := S10 _ _ U9
              refine ⟨.int de, rfl, .ref D, rfl, .int (j : Int), rfl, D, _, (j : Int), .ref as[j], rfl, rfl, .of D10, atI_nat gr, as[j], _, rfl, .inl (.of U10), rfl, flat_ints _, _, rfl, ?_⟩
              rw [if_pos rfl, inV_int]
              by_cases c2 : de ∈ us[j]
              · rw [decide_eq_true c2]
                exact iteF back
              · rw [decide_eq_false c2]
                refine iteT ?_
                refine ⟨.ref D, rfl, .int (j : Int), rfl, D, _, (j : Int), .ref as[j], rfl, rfl, .of D10, atI_nat gr, .inl ⟨rfl, _, .of U10⟩, .int de, rfl, as[j], _, _, rfl, rfl, U10, by rw [List.length_map]; exact small1000 (by omega), ?_⟩
                refine ⟨us.set j (us[j] ++ [de]), _, _, _, rfl, fun b o nb z => ?_, ((A9.same S10).upd (aG mu')).mono (by omega), ?_, ?_, ?_, by rw [List.length_set]; exact usl, fun j' u l h1 h2 => ?_, fun j' l h => ?_⟩
                · rw [upd_ne (ne_of_none z (fG mu'))]
                  exact S10 _ _ (sx _ _ nb (X7 _ _ nb z))
                · rw [upd_ne (Ne.symm (pu mu'))]
                  exact S10 _ _ P9
                · rw [upd_ne (Ne.symm (cu mu'))]
                  exact S10 _ _ C9
                · rw [upd_ne (Ne.symm (hu2 _ mu').2.2)]
                  exact D10
                · by_cases e : j' = j
                  · subst e
                    rw [gu] at h1
                    have h1 := Option.some.inj h1
                    rw [List.getElem?_set_self hju] at h2
                    have h2 := Option.some.inj h2
                    rw [← h1, ← h2, upd_same, List.map_append]
                    rfl
                  · rw [List.getElem?_set_ne (Ne.symm e)] at h2
                    have nu : u ≠ as[j] := fun z => e (L2.nd_ix hnd h1 (by rw [z]; exact gu))
                    rw [upd_ne nu]
                    exact S10 _ _ (sx _ _ (Ne.symm (aG (List.mem_of_getElem? h1))) (ush j' u l h1 h2))
                · by_cases e : j' = j
                  · subst e
                    rw [List.getElem?_set_self hju] at h
                    have h := Option.some.inj h
                    rw [← h]
                    refine ⟨List.nodup_append.mpr ⟨lnd, by simp, fun y hy z hz ee => ?_⟩, by rw [List.length_append, List.length_singleton]; omega, fun e he => ?_⟩
                    · rw [List.mem_singleton.mp hz] at ee
                      exact c2 (ee ▸ hy)
                    · rcases List.mem_append.mp he with he | he
                      · exact lok e he
                      · rw [List.mem_singleton.mp he]
                        exact ⟨e0, e1, c1⟩
                  · rw [List.getElem?_set_ne (Ne.symm e)] at h
                    obtain ⟨q1, q2, q3⟩ := uso j' l h
                    exact ⟨q1, Nat.le_succ_of_le q2, q3⟩
            · rw [decide_eq_false c1]
              exact iteF (iteF back)
          · rintro σ G3 ⟨us, z9, z10, z12, rfl, X7, A7, P7, C7, D7, usl, ush, uso⟩
            have nle : (t * (if decide (0 < cs.sum) = true then (1 : Int) else 0)).toNat ≤ 40 := by
              by_cases z : decide (0 < cs.sum) = true
              · rw [if_pos z, Int.mul_one]
                omega
              · rw [if_neg z, Int.mul_zero]
                exact Nat.zero_le _
            refine ⟨.int (1 + d), rfl, 1 + d, rfl, by omega, by omega, fun D2 nD2 => ?_⟩
            refine lc_range (lo := 0) (n := (1 + d).toNat) (fun j H' => ∃ (rs : List PRow) (xs : List V), Same G3 H' ∧ H' D2 = some (.lst xs) ∧ Dts K H' (rs.map rowD) xs ∧ rs.length = j ∧
              ∀ (i : Nat) (r : PRow), rs[i]? = some r → ps[i]? = some r.1 ∧ cs[i]? = some r.2.1 ∧ ∃ l, us[i]? = some l ∧ r.2.2.Perm l ∧ r.2.2.Pairwise (· ≤ ·))
              ⟨[], [], same_new nD2, upd_same, by rw [List.map_nil]; unfold Dts; rfl, rfl, fun i r h => by simp at h⟩ ?_ ?_
            · rintro j H' hj ⟨rs, xs, S', eD2, hds, hrl, hok⟩
              have hjp : j < ps.length := by omega
              have hjc : j < cs.length := by omega
              have hja : j < as.length := by omega
              have hju : j < us.length := by omega
              have gp : (ps.map V.int)[j]? = some (.int ps[j]) := by
                rw [List.getElem?_map, List.getElem?_eq_getElem hjp]
                rfl
              have gc : (cs.map V.int)[j]? = some (.int cs[j]) := by
                rw [List.getElem?_map, List.getElem?_eq_getElem hjc]
                rfl
              have ga : (as.map V.ref)[j]? = some (.ref as[j]) := by
                rw [List.getElem?_map, List.getElem?_eq_getElem hja]
                rfl
              have gl : us[j]? = some us[j] := List.getElem?_eq_getElem hju
              have U := S' _ _ (ush j _ _ (List.getElem?_eq_getElem hja) gl)
              obtain ⟨_, lle, _⟩ := uso j _ gl
              have xl : xs.length = j := by rw [dts_len hds, List.length_map, hrl]
              have ej : (0 : Int) + (j : Int) = (j : Int) := Int.zero_add _
              refine ⟨rfl, ?_⟩
              refine ⟨.ref pl, rfl, .int (0 + j), rfl, pl, _, (j : Int), .int ps[j], rfl, by rw [ej], .of (S' _ _ P7), atI_nat gp, ?_⟩
              refine ⟨.ref cl, rfl, .int (0 + j), rfl, cl, _, (j : Int), .int cs[j], rfl, by rw [ej], .of (S' _ _ C7), atI_nat gc, ?_⟩
              refine ⟨.ref D, rfl, .int (0 + j), rfl, D, _, (j : Int), .ref as[j], rfl, by rw [ej], .of (S' _ _ D7), atI_nat ga, ?_⟩
              refine ⟨as[j], us[j], rfl, .of U, by omega, fun ns sp perm srt nsp => ?_⟩
              refine ⟨sp, _, rfl, .inl ⟨.of upd_same, fun tq ntq => ?_⟩⟩
              refine ⟨by show 3 ≤ sizeLine; decide, fun rp nrp => ?_⟩
              have Sa := (same_new (H := H') (o := .lst (ns.map V.int)) nsp).trans ((same_new (o := .tup (ns.map V.int)) ntq).trans (same_new (o := .tup [V.int ps[j], V.int cs[j], V.ref tq]) nrp))
              have Lt := same_new (o := .tup [V.int ps[j], V.int cs[j], V.ref tq]) nrp _ _ (upd_same (H := L2.upd H' sp (.lst (ns.map V.int))) (a := tq) (o := .tup (ns.map V.int)))
              have Lr := upd_same (H := L2.upd (L2.upd H' sp (.lst (ns.map V.int))) tq (.tup (ns.map V.int))) (a := rp) (o := .tup [V.int ps[j], V.int cs[j], V.ref tq])
              generalize L2.upd (L2.upd (L2.upd H' sp (.lst (ns.map V.int))) tq (.tup (ns.map V.int))) rp (.tup [V.int ps[j], V.int cs[j], V.ref tq]) = H'' at Sa Lt Lr ⊢
              have Db := Sa _ _ eD2
              have nG2 : ∀ {b : Addr} {o : HO}, G3 b = some o → b ≠ D2 := fun z => ne_of_none z nD2
              refine ⟨xs, Db, by rw [xl]; exact small1000 (by omega), rs ++ [(ps[j], cs[j], ns)], xs ++ [V.ref rp], fun b o z => ?_, upd_same, ?_, by rw [List.length_append, hrl]; rfl, fun i r h => ?_⟩
              · rw [upd_ne (nG2 z)]
                exact Sa _ _ (S' _ _ z)
              · have nl : ∀ {b : Addr} {zs : List V}, H'' b = some (.tup zs) → b ≠ D2 := fun {b zs} z e => by
                  rw [e, Db] at z
                  cases z
                rw [List.map_append]
                refine dts_snoc ?_ _ _ (rows_keep Db .upd rs xs (Dts.same Sa _ _ hds))
                simp only [rowD, Dt, Dts]
                refine ⟨rp, _, rfl, .of ?_, _, _, rfl, rfl, _, _, rfl, rfl, _, _, rfl, ⟨tq, _, rfl, .of ?_, dts_ints ns⟩, rfl⟩
                · rw [upd_ne (nl Lr)]
                  exact Lr
                · rw [upd_ne (nl Lt)]
                  exact Lt
              · by_cases e : i < rs.length
                · rw [List.getElem?_append_left e] at h
                  exact hok i r h
                · rw [List.getElem?_append_right (by omega)] at h
                  have z : i - rs.length = 0 := by
                    have := (List.getElem?_eq_some_iff.mp h).1
                    simp at this
                    omega
                  rw [z] at h
                  have h := Option.some.inj h
                  have ei : i = j := by omega
                  subst ei
                  rw [← h]
                  exact ⟨List.getElem?_eq_getElem hjp, List.getElem?_eq_getElem hjc, us[i], gl, perm, srt⟩
            · rintro H' ⟨rs, xs, S', eD2, hds, hrl, hok⟩
              have rl : rs.length = ps.length := by omega
              have ep : pars rs = ps := map_is rl fun i r h => (hok i r h).1
              have ec : cnts rs = cs := map_is (by omega) fun i r h => (hok i r h).2.1
              refine ⟨D2, xs, rfl, .inl ⟨.of eD2, fun l nl => ?_⟩⟩
              have S'' := S'.trans (same_new (o := .tup xs) nl)
              refine q _ (.ref l) rs (X7.trans (.of S'')) ((A7.same S'').mono (by omega)) ⟨by rw [ep]; exact pre, by omega, by rw [ec]; exact csn, by rw [ec]; omega⟩ (fun i r h => ?_) (by omega) (by rw [ec]; exact ksum) ?_
              · obtain ⟨_, _, l', hl', perm, srt⟩ := hok i r h
                obtain ⟨q1, q2, q3⟩ := uso i l' hl'
                rw [ep, ec]
                refine ⟨strict srt (perm.nodup_iff.mpr q1), by rw [perm.length_eq]; omega, fun e he => q3 e (perm.mem_iff.mp he)⟩
              · unfold pd Dt
                exact ⟨l, xs, rfl, .of upd_same, Dts.same (same_new nl) _ _ hds⟩

end
end K05
set_option Elab.async false
set_option linter.all false
set_option maxRecDepth 100000
set_option maxHeartbeats 4000000
/-! enumerate(tuple) -/
namespace PySem
namespace TE
open AutoSeq1 (wpAny_loadPart')
theorem meets_newT (l : Addr) (items : Array Value) :
    Meets (Builtin.«enumerate.__new__» ⟨[.type "enumerate", .ref l], []⟩) (fun _ R s => s.heap.IsTuple l items ∧
      R (.ok (.ret (.ref (s.heap.push { cls := .type "tuple_iterator", data := .fields #[.ref l, .int 0 0] }).objs.size)))
        { s with heap := (s.heap.push { cls := .type "tuple_iterator", data := .fields #[.ref l, .int 0 0] }).push { cls := .type "enumerate", data := .fields #[.none, .bool false, .ref s.heap.objs.size, rawInt 0, .none, .none] } }) :=
  .of_wp fun prog w A R s h => by
    obtain ⟨hp, g, d, tk, os⟩ := s; obtain ⟨hl, h⟩ := h
    have hsub := sub_enumerate
    have hL : Heap.IsTuple (Shared.heap ⟨hp, g, d, tk, os⟩) l items := hl
    obtain ⟨o, ho, _⟩ := id hL
    wp_walk using wpAny_loadPart' ho
    refine wpAny_stack_any fun st => wpAny_pure ?_
    split
    · rename_i c _ _ _ _ _
      cases (c == Value.type "enumerate")
      · wp_walk using wpAny_loadPart' ho, wpAny_pyIter_tuple hL
        exact ⟨_, rfl, h⟩
      · wp_walk using wpAny_loadPart' ho, wpAny_pyIter_tuple hL
        exact ⟨_, rfl, h⟩
    · wp_walk using wpAny_loadPart' ho, wpAny_pyIter_tuple hL
      exact ⟨_, rfl, h⟩
theorem call_enumT {prog : Program} {w : World} {A : Around} {E : Value → Shared → Prop} {s : Shared} {l : Addr} {items : Array Value} {Q : Value → Shared → Prop} (hL : s.heap.IsTuple l items)
    (h : ∀ h', IsEnum h' (s.heap.objs.size + 1) s.heap.objs.size 0 .none → h'.IsTupleIter s.heap.objs.size l 0 → h'.objs.size = s.heap.objs.size + 2 →
      (∀ b o, s.heap.get? b = some o → h'.get? b = some o) → Q (.ref (s.heap.objs.size + 1)) { s with heap := h' }) :
    wpAny (model prog w) A (call (.type "enumerate") [.ref l]) Q E s := by
  refine callType_new F.called_enumerate (by decide) (F.typeCall_enumerate_1 _) (F.newCall_enumerate_1 _) (fun obj => F.args_object_init_2 obj _) F.entry_enumerate_new
    (meets_newT l items) ⟨hL, ?_⟩
  have hz : (s.heap.push { cls := .type "tuple_iterator", data := .fields #[.ref l, .int 0 0] }).objs.size = s.heap.objs.size + 1 := Heap.size_push ..
  show _ ∧ _
  rw [hz]
  have he : IsEnum ((s.heap.push { cls := .type "tuple_iterator", data := .fields #[.ref l, .int 0 0] }).push
      { cls := .type "enumerate", data := .fields #[.none, .bool false, .ref s.heap.objs.size, rawInt 0, .none, .none] }) (s.heap.objs.size + 1) s.heap.objs.size 0 .none := by
    have := Heap.get?_push_size (s.heap.push { cls := .type "tuple_iterator", data := .fields #[.ref l, .int 0 0] })
      (o := { cls := .type "enumerate", data := .fields #[.none, .bool false, .ref s.heap.objs.size, rawInt 0, .none, .none] }) rfl
    rw [hz] at this; exact this
  exact ⟨⟨_, he, rfl⟩, h _ he ⟨_, Heap.get?_push_of_some _ (Heap.get?_push_size _ rfl), rfl, rfl⟩ (by rw [Heap.size_push, hz]) fun b o x => Heap.get?_push_of_some _ (Heap.get?_push_of_some _ x)⟩
end TE
end PySem
namespace L2
open PySem PySem.Spec PyProof.Rows
/-- the tuple at a, each item in a new pair -/
def IteT (K : PySem.W.Frag) (a : Addr) : It :=
  ⟨fun i H => ∃ (xs : List V) (x : V), SqT K H a xs ∧ xs[i]? = some x, fun i H v H' => ∃ T x, v = .ref T ∧ H T = none ∧ H' = upd H T (.tup [.int (i : Nat), x]) ∧ ∀ xs, SqT K H a xs → xs[i]? = some x, fun i H => ∃ xs : List V, SqT K H a xs ∧ xs.length ≤ i⟩
theorem turn_enumT {P : Program} {w : World} {K : PySem.W.Frag} {elts : List Expr} {kk : Nat} {tpos : Pos} (a e it : Addr) :
    Turn P w K (.Tuple elts kk tpos) (IteT K a) [e, it] e (fun i h => (∃ old, IsEnum h e it ((i : Nat) : Int) old) ∧ h.IsTupleIter it a i ∧ e ≠ it ∧ a ≠ it ∧ a ≠ e) where
  mem := by simp
  obj := fun i h st b hb => by
    obtain ⟨⟨old, he⟩, ⟨o, ho, hc, hd⟩, _⟩ := st
    have e' : b = e ∨ b = it := by simpa using hb
    rcases e' with z | z
    · rw [z]; exact ⟨_, he, fun v q => nomatch q⟩
    · rw [z]; exact ⟨o, ho, fun v q => by rw [hd] at q; cases q⟩
  keep := fun i h h' st k => let ⟨⟨old, he⟩, hi, hne⟩ := st; ⟨⟨old, k e (by simp) _ he⟩, hi.at fun o q => k it (by simp) o q, hne⟩
  item := by
    intro X hP hw hK hc i pins s σ H E I hf st hg
    subst hP hw hK
    obtain ⟨⟨old, he⟩, hit, hne, hai, hae⟩ := st
    obtain ⟨xs, x, hq, hx⟩ := hg
    obtain ⟨its, rv, p, hz⟩ := I.tuple hq
    obtain ⟨u, hu, ru⟩ := rv.get hx
    have hel : e < s.heap.objs.size := Heap.lt_size he
    have hil : it < s.heap.objs.size := by obtain ⟨_, q, _⟩ := hit; exact Heap.lt_size q
    have hp : s.heap.IsTuple a its.toArray := p
    have hlt : i < its.toArray.size := by
      have := (List.getElem?_eq_some_iff.mp hu).1
      simpa using this
    refine wpAny_pyNext_enum_itemD (Draws.tuple (A := X.A.in1) (I.ok.hd hc) it a hai its.toArray) he ⟨hit, hp⟩ hlt hne (by simp; exact ⟨hne, Ne.symm hae⟩) fun u' h' tk hu' ho hst' hT hsz hk => ?_
    have eu : u' = u := by
      have z : its.toArray[i]? = some u' := hu'
      rw [show its.toArray[i]? = its[i]? by simp, hu] at z
      exact (Option.some.inj z).symm
    subst eu
    refine ⟨_, rfl, wpAny_letOwnedTupleGo_enum (s := { s with heap := h', toks := tk + 1 }) ho fun h'' he' sb => ?_⟩
    have hT2 : h''.get? s.heap.objs.size = some { cls := .type "tuple", data := .seq #[.int i tk, u'] } := (sb.2 _ (Nat.ne_of_gt hel)).trans hT
    have new : ObjOk X.prog X.w (upd H s.heap.objs.size (.tup [.int (i : Nat), x])) h'' s.heap.objs.size (.tup [.int (i : Nat), x]) :=
      ⟨by show 2 ≤ sizeLine; decide, [.int i tk, u'], .cons ⟨_, rfl⟩ (.cons ru .nil), ⟨_, hT2, rfl, _, rfl⟩⟩
    have I1 : Inv X pins σ (upd H s.heap.objs.size (.tup [.int (i : Nat), x])) { s with heap := h'', toks := tk + 1 } :=
      I.turnedNew (ch := [e, it]) (fun b ob hb q => (sb.2 b (fun z => hb (by simp [z]))).trans (hk b ob (fun z => hb (by simp [z])) (fun z => hb (by simp [z])) q)) hf (Nat.le_refl _) new
    refine ⟨.ref s.heap.objs.size, _, I1, rfl, ⟨_, x, rfl, I.hok.fresh (Nat.le_refl _), rfl, fun ys hy => by rw [I.tuple_inj hy hq]; exact hx⟩, ⟨⟨u', ?_⟩, hst'.1.at fun o q => (sb.2 it (Ne.symm hne)).trans q, hne, hai, hae⟩, fun b hb => ?_⟩
    · have e1 : ((i + 1 : Nat) : Int) = (i : Int) + 1 := by omega
      rw [e1]; exact he'
    · have hb' : b < s.heap.objs.size := by
        have e' : b = e ∨ b = it := by simpa using hb
        rcases e' with z | z
        · rw [z]; exact hel
        · rw [z]; exact hil
      rw [upd_ne (Nat.ne_of_lt hb')]
      exact (hf b hb).1
  done := by
    intro X hP hw hK hc i pins s σ H E I hf st hg
    subst hP hw hK
    obtain ⟨⟨old, he⟩, hit, hne, hai, hae⟩ := st
    obtain ⟨xs, hq, hx⟩ := hg
    obtain ⟨its, rv, p, hz⟩ := I.tuple hq
    obtain ⟨f0, f1, f2, f3, f4, f5⟩ := hf it (by simp)
    have hl := rv.length
    have hT : s.TypeIs (.ref e) "enumerate" := ⟨_, he, rfl⟩
    unfold pyNext
    refine wpAny_bind (wpAny_attempt (wpAny_callSpecial?_slot (name := Str.ofString "__next__") hT F.slot_enumerate_next
      (wpAny_call_entry F.slot_enumerate_next hT F.entry_enumerate_next ?_ (F.args_enumerate_next_1 _))))
    show wpAny _ _ (field (.ref e) 2 >>= _) _ _ _
    refine wpAny_bind (wpAny_field he rfl (x := .ref it) rfl ?_)
    refine wpAny_bind (wpAny_nextOf_tuple_end (items := its.toArray) (I.ok.hd hc) hit p (by simp; omega) fun h' x he' hx' => ?_)
    obtain ⟨o, ho, hcl⟩ := hx'
    refine wpAny_bind (wpAny_isInstance (T := "StopIteration") (b := true) ⟨o, ho, hcl⟩ isSubtype_stop ?_)
    exact wpAny_pure ⟨rfl, I.turned (t' := s.toks) (fun b o hb q => he' b o hb q) f0 f1 f3 f4 f5⟩
  self := fun A i s Q E st h => let ⟨⟨_, he⟩, _⟩ := st; wpAny_pyIter_enum he h
def iEnumT (K : PySem.W.Frag) (ta : TA) : TI := fun σ H R => ta σ H fun vs H1 => ∃ a xs, vs = [.ref a] ∧ SqT K H1 a xs ∧ R (IteT K a) H1
theorem pi_enumT {X : Cx} {e : Expr} {ta : TA} {p pos tpos : Pos} {elts : List Expr} {kk : Nat} (hg : Gl X "enumerate") (hm : X.mg "enumerate" = none) (ha : PA X [e] ta) (hs : starEach [e] X.env = [(false, eval e X.env)] := by rfl) :
    PI X (.Tuple elts kk tpos) (.Call (.Name "enumerate" p) [e] [] pos) (iEnumT X.K ta) := by
  refine ⟨fun pins s σ H R I h => ?_⟩
  refine Call_ (ld_blt I hg hm boot_enumerate (PyProof.Rows.callWith_type1 (thn (ha.run pos pins s σ H _ I h) fun us s1 ⟨vs, H1, I1, r1, q1⟩ => ?_) hs rfl))
  obtain ⟨a, xs, ex, hq, q⟩ := q1
  subst ex
  cases r1 with
  | cons r rr =>
    cases rr
    cases r
    obtain ⟨its, rv, p', hz⟩ := I1.tuple hq
    have hal : a < s1.heap.objs.size := by obtain ⟨_, z, _⟩ := id p'; exact Heap.lt_size z
    refine PySem.TE.call_enumT (items := its.toArray) p' fun h' he hit hsz hk => wpAny_pyIter_enum he ?_
    have I2 : Inv X pins σ H1 { s1 with heap := h' } := I1.kept (t' := s1.toks) hk
    refine ⟨s1.heap.objs.size + 1, [s1.heap.objs.size + 1, s1.heap.objs.size], _, _, H1, rfl, I2, turn_enumT a (s1.heap.objs.size + 1) s1.heap.objs.size, ⟨⟨.none, he⟩, hit, Nat.succ_ne_self _, Nat.ne_of_lt hal, Nat.ne_of_lt (Nat.lt_succ_of_lt hal)⟩, fun b hb => ?_, q⟩
    have e' : b = s1.heap.objs.size + 1 ∨ b = s1.heap.objs.size := by simpa using hb
    have hle : s1.heap.objs.size ≤ b := by
      rcases e' with z | z
      · rw [z]; exact Nat.le_add_right _ _
      · rw [z]; exact Nat.le_refl _
    exact I1.fpOk hle (I1.hok.fresh hle)
theorem for_enumT {K : PySem.W.Frag} {a : Addr} {xs : List V} {g : TG} {tb : TS} {D : Ends} {σ : St} {H : Hp} (Pv : Nat → St → Hp → Prop) (h0 : Pv 0 σ H) (hl : ∀ i σ H, Pv i σ H → SqT K H a xs)
    (hs : ∀ (i : Nat) (x : V) (T : Addr) (σ : St) (H : Hp), xs[i]? = some x → Pv i σ H → H T = none → g (.ref T) σ (upd H T (.tup [.int (i : Nat), x])) fun σ2 H2 => tb { D with nx := Pv (i + 1), ct := Pv (i + 1), bk := D.nx } σ2 H2) (hd : ∀ σ H, Pv xs.length σ H → D.nx σ H) :
    ∃ W : Nat → Nat → St → Hp → Prop, (∃ m, W 0 m σ H) ∧ ∀ i m σ H, W i m σ H →
      ((IteT K a).stop i H ∧ D.nx σ H) ∨ ((IteT K a).go i H ∧ ∃ N : St → Hp → Prop, (∀ σ' H', N σ' H' → ∃ m', m' < m ∧ W (i + 1) m' σ' H') ∧ ∀ x H', (IteT K a).yld i H x H' → g x σ H' fun σ2 H2 => tb { D with nx := N, ct := N, bk := D.nx } σ2 H2) := by
  refine ⟨fun i m σ H => m = xs.length - i ∧ i ≤ xs.length ∧ Pv i σ H, ⟨xs.length, by simp, Nat.zero_le _, h0⟩, ?_⟩
  rintro i m σ H ⟨rfl, hi, p⟩
  have q := hl i σ H p
  by_cases hlt : i < xs.length
  · refine .inr ⟨⟨xs, xs[i], q, by simp [hlt]⟩, Pv (i + 1), fun σ' H' p' => ⟨xs.length - (i + 1), by omega, rfl, hlt, p'⟩, fun v H' y => ?_⟩
    obtain ⟨T, x, rfl, nT, rfl, fx⟩ := y
    exact hs i x T σ _ (fx xs q) p nT
  · have e : i = xs.length := by omega
    subst e
    exact .inl ⟨⟨xs, q, Nat.le_refl _⟩, hd σ H p⟩
end L2
set_option Elab.async false
set_option linter.all false
set_option maxRecDepth 100000
set_option maxHeartbeats 4000000
/-! data that repr can show: depth and length -/
namespace L2
open PySem PySem.Spec PyProof.Rows
structure Fit (d : PyData) (k n : Nat) : Prop where
  sh : d.showable = true
  dp : d.depth ≤ k
  ln : d.shown.length ≤ n
theorem Fit.mono {d : PyData} {k n k' n' : Nat} (h : Fit d k n) (a : k ≤ k') (b : n ≤ n') : Fit d k' n' := ⟨h.sh, Nat.le_trans h.dp a, Nat.le_trans h.ln b⟩
theorem Fit.none : Fit .none 0 4 := ⟨rfl, Nat.le_refl _, by decide +kernel⟩
theorem Fit.bool (b : Bool) : Fit (.bool b) 0 5 := ⟨rfl, Nat.le_refl _, by cases b <;> decide +kernel⟩
theorem Fit.int {i : Int} (h0 : -2 ≤ i) (h1 : i < 200) : Fit (.int i) 0 4 := by
  have k : ∀ j : _root_.Fin 202, (PyData.showable (.int ((j.1 : Int) - 2)) && decide ((PyData.shown (.int ((j.1 : Int) - 2))).length ≤ 4)) = true := by decide +kernel
  have z := k ⟨(i + 2).toNat, by omega⟩
  have e : (((i + 2).toNat : Nat) : Int) - 2 = i := by omega
  dsimp only at z
  rw [e] at z
  obtain ⟨z1, z2⟩ := He.ba z
  exact ⟨z1, Nat.le_refl _, of_decide_eq_true z2⟩
theorem join_le {n : Nat} : ∀ ts : List Str, (∀ t ∈ ts, t.length ≤ n) → (Str.join ", " ts).length ≤ (n + 2) * ts.length
  | [], _ => Nat.zero_le _
  | [x], h => by
    have a : x.length ≤ n := h x List.mem_cons_self
    show x.length ≤ (n + 2) * 1
    omega
  | x :: y :: r, h => by
    have ih := join_le (y :: r) fun t ht => h t (List.mem_cons_of_mem _ ht)
    have a : x.length ≤ n := h x List.mem_cons_self
    show (x ++ ", " ++ Str.join ", " (y :: r)).length ≤ _
    have e2 : ((", " : String) : Str).length = 2 := rfl
    rw [strLen_append, strLen_append, e2, List.length_cons (a := x), Nat.mul_add]
    omega
theorem showAll {ds : List PyData} (h : ∀ d ∈ ds, d.showable = true) : PyData.showableAll ds = true := by
  induction ds with
  | nil => rfl
  | cons d ds ih =>
    unfold PyData.showableAll
    rw [h d List.mem_cons_self, ih fun e he => h e (List.mem_cons_of_mem _ he)]
    rfl
theorem depAll {k : Nat} {ds : List PyData} (h : ∀ d ∈ ds, d.depth ≤ k) : PyData.depthAll ds ≤ k := by
  induction ds with
  | nil => exact Nat.zero_le _
  | cons d ds ih =>
    unfold PyData.depthAll
    exact Nat.max_le.mpr ⟨h d List.mem_cons_self, ih fun e he => h e (List.mem_cons_of_mem _ he)⟩
theorem shownAll_map (ds : List PyData) : PyData.shownAll ds = ds.map PyData.shown := by
  induction ds with
  | nil => rfl
  | cons d ds ih =>
    unfold PyData.shownAll
    rw [ih]
    rfl
theorem Fit.tup {ds : List PyData} {k n m : Nat} (h : ∀ d ∈ ds, Fit d k n) (hm : ds.length ≤ m) : Fit (.tuple ds) (k + 1) ((n + 2) * m + 3) := by
  refine ⟨?_, ?_, ?_⟩
  · unfold PyData.showable
    exact showAll fun d hd => (h d hd).sh
  · unfold PyData.depth
    exact Nat.succ_le_succ (depAll fun d hd => (h d hd).dp)
  · unfold PyData.shown
    unfold tupleText
    rw [strLen_append, strLen_append, shownAll_map]
    have j := join_le (n := n) (ds.map PyData.shown) fun t ht => by
      obtain ⟨d, hd, e⟩ := List.mem_map.mp ht
      rw [← e]
      exact (h d hd).ln
    have e1 : ((if (ds.map PyData.shown).length == 1 then ",)" else ")" : String) : Str).length ≤ 2 := by
      split
      · decide +kernel
      · decide +kernel
    have e0 : ((("(" : Str))).length = 1 := rfl
    rw [List.length_map] at j
    have mm : (n + 2) * ds.length ≤ (n + 2) * m := Nat.mul_le_mul_left _ hm
    rw [List.length_map] at e1 ⊢
    omega
theorem Fit.ints {l : List Int} {m : Nat} (h : ∀ i ∈ l, -2 ≤ i ∧ i < 200) (hm : l.length ≤ m) : Fit (.tuple (l.map PyData.int)) 1 (6 * m + 3) :=
  Fit.tup (k := 0) (n := 4) (fun d hd => by
    obtain ⟨i, hi, e⟩ := List.mem_map.mp hd
    rw [← e]
    exact Fit.int (h i hi).1 (h i hi).2) (by rw [List.length_map]; exact hm)
theorem Fit.d60 {d : PyData} {k n : Nat} (f : Fit d k n) (hk : k ≤ 60 := by decide) : d.depth ≤ 60 := Nat.le_trans f.dp hk
theorem Fit.sz {d : PyData} {k n : Nat} (f : Fit d k n) (hn : n ≤ 16777216 := by decide) : d.shown.length ≤ sizeLine := by
  rw [sizeLine_eq]
  exact Nat.le_trans f.ln hn
/-- what rRepr asks -/
theorem rep_of {K : PySem.W.Frag} {v : V} {d : PyData} {H : Hp} {Q : VK} {k n : Nat} (hd : Dt K H d v) (f : Fit d k n) (q : Q (.str d.shown) H) (hk : k ≤ 60 := by decide) (hn : n ≤ 16777216 := by decide) : rRepr K [v] H Q :=
  ⟨v, d, rfl, hd, f.sh, Nat.le_trans f.dp hk, by rw [sizeLine_eq]; exact Nat.le_trans f.ln hn, q⟩
theorem rangeL_mem {lo hi x : Int} (h : x ∈ rangeL lo hi) : lo ≤ x ∧ x < hi := by
  unfold rangeL at h
  obtain ⟨j, hj, e⟩ := List.mem_map.mp h
  have := List.mem_range.mp hj
  omega
theorem rangeL_len (lo hi : Int) : (rangeL lo hi).length = (hi - lo).toNat := by
  unfold rangeL
  rw [List.length_map, List.length_range]
end L2
set_option Elab.async false
set_option linter.all false
set_option maxRecDepth 100000
set_option maxHeartbeats 4000000
/-! d.update(e); what a merged table tells; isinstance of data -/
namespace L2
open PySem PySem.Spec PyProof.Rows
def tDUpd (td ty : TE) : TE := fun σ H Q => td σ H fun x H1 => ∃ a, x = .ref a ∧ IsD H1 a ∧ ty σ H1 fun y H2 => ∃ (b : Addr) (kvs more : List (Key × V)), y = .ref b ∧ a ≠ b ∧ H2 a = some (.dK kvs) ∧ H2 b = some (.dK more) ∧
  kvs.length + more.length ≤ sizeLine ∧ Q .non (upd H2 a (.dK (mergeK kvs more)))
theorem pe_dupd {X : Cx} {o e : Expr} {td ty : TE} {apos cpos : Pos} (ho : PE X o td) (he : PE X e ty) (m : M1 X o "update" apos e cpos) : PE X (.Call (.Attribute o "update" apos) [e] [] cpos) (tDUpd td ty) := by
  refine ⟨fun pins s σ H Q I h => ?_⟩
  refine wpAny_Call_method m.base m.few m.line PySem.F.plainAttrs_dict PySem.F.slot_dict_update PySem.F.type_dict_update (thn (ho.run pins s σ H _ I h) fun u s1 ⟨x, H1, I1, rx, a, ex, d, q1⟩ => ?_)
  subst ex
  obtain rfl : u = Value.ref a := rx
  obtain ⟨t1, t2, _⟩ := isD_at I1 d
  refine ⟨t1, t2, ?_⟩
  rw [m.trees]
  refine Calls.callWith_builtin rfl (Calls.evalArgs_plain (Calls.spliced_cons (thn (he.run pins s1 σ H1 _ I1 q1) fun iv s2 ⟨y, H2, I2, ry, b, kvs, more, ey, hne, ea, eb, hl, q2⟩ => Calls.spliced_nil ?_)))
  subst ey
  obtain rfl : iv = Value.ref b := ry
  obtain ⟨z1, hd1, vs1, rel1, dd1⟩ := dk_of I2.hok ea
  obtain ⟨z2, hd2, vs2, rel2, dd2⟩ := dk_of I2.hok eb
  refine call_meetsIn PySem.F.slot_dict_update dd1.typeIs PySem.F.entry_dict_update (PySem.F.args_dict_update_2 _ _) (meets_dict_update (mixKind X.prog X.w) a b hne hd2)
    ⟨vs1, vs2, dd1, dd2, by rw [← rel1.length, ← rel2.length]; exact hl, fun h' dd' _ hs => ?_⟩
  have hl2 : (mergeK kvs more).length ≤ sizeLine := Nat.le_trans (length_mergeK more kvs) hl
  have hq : ∃ q, h'.get? a = some q := let ⟨q, _, _, hq, _⟩ := dd'; ⟨q, hq⟩
  exact ⟨.non, _, d_write (t' := s2.toks) I2 (by rw [ea]; exact True.intro) hs hq (dk_new hl2 hd1 (KV.merge rel2 rel1) dd'), rfl, q2⟩
theorem valV_none {kvs : List (Key × V)} {k : Key} (h : k ∉ kvs.map (·.1)) : valV kvs k = none := by
  cases q : valV kvs k with
  | none => rfl
  | some v =>
    unfold valV at q
    obtain ⟨p, hp, _⟩ := Option.map_eq_some_iff.mp q
    have a := List.find?_some hp
    have b := List.mem_of_find?_eq_some hp
    exact absurd (List.mem_map.mpr ⟨p, b, of_decide_eq_true a⟩) h
theorem putK_nodup {kvs : List (Key × V)} {k : Key} {v : V} (h : (kvs.map (·.1)).Nodup) : ((putK kvs k v).map (·.1)).Nodup := by
  unfold putK
  by_cases c : (kvs.any fun kv => decide (kv.1 = k)) = true
  · rw [if_pos c, List.map_map]
    have e : kvs.map ((·.1) ∘ fun kv : Key × V => if kv.1 = k then (kv.1, v) else kv) = kvs.map (·.1) := by
      refine List.map_congr_left fun p _ => ?_
      show (if p.1 = k then (p.1, v) else p).1 = p.1
      split <;> rfl
    rw [e]
    exact h
  · rw [if_neg c, List.map_append]
    refine List.nodup_append.mpr ⟨h, by simp, fun x hx y hy e => c ?_⟩
    obtain ⟨p, hp, ep⟩ := List.mem_map.mp hx
    have hy : y = k := List.mem_singleton.mp hy
    exact List.any_eq_true.mpr ⟨p, hp, decide_eq_true (by rw [ep, e, hy])⟩
theorem mergeK_nodup : ∀ {more kvs : List (Key × V)}, (kvs.map (·.1)).Nodup → ((mergeK kvs more).map (·.1)).Nodup
  | [], _, h => h
  | p :: r, kvs, h => mergeK_nodup (more := r) (putK_nodup (k := p.1) (v := p.2) h)
theorem mergeK_val : ∀ {more kvs : List (Key × V)} {j : Key}, (more.map (·.1)).Nodup → valV (mergeK kvs more) j = (valV more j).or (valV kvs j)
  | [], _, _, _ => rfl
  | p :: r, kvs, j, h => by
    rw [List.map_cons, List.nodup_cons] at h
    have ih := mergeK_val (more := r) (kvs := putK kvs p.1 p.2) (j := j) h.2
    show valV (mergeK (putK kvs p.1 p.2) r) j = _
    rw [ih, valV_put]
    by_cases c : j = p.1
    · subst c
      rw [valV_none h.1, valV_pos rfl, if_pos rfl]
      rfl
    · rw [if_neg c, valV_neg (fun z => c z.symm)]
/-! ### the type of data -/
def tyD : PyData → String
  | .none => "NoneType"
  | .bool _ => "bool"
  | .int _ => "int"
  | .str _ => "str"
  | .list _ => "list"
  | .tuple _ => "tuple"
  | .dict _ => "dict"
theorem Dt.ty {K : PySem.W.Frag} {H : Hp} : ∀ {d : PyData} {v : V}, Dt K H d v → TyX K H v (.type (tyD d))
  | .none, v, h => by
    unfold Dt at h
    subst h
    exact .base .non
  | .bool b, v, h => by
    unfold Dt at h
    subst h
    exact .base (.bl b)
  | .int i, v, h => by
    unfold Dt at h
    subst h
    exact .base (.int i)
  | .str x, v, h => by
    unfold Dt at h
    subst h
    exact .base (.str x)
  | .list ds, v, h => by
    unfold Dt at h
    obtain ⟨a, xs, e, q, _⟩ := h
    subst e
    rcases q with q | ⟨o, its, n, q, c, _⟩
    · rcases q with q | ⟨o, q⟩
      · exact .base (.lst q)
      · exact .base (.frz q)
    · exact .kList q c
  | .tuple ds, v, h => by
    unfold Dt at h
    obtain ⟨a, xs, e, q, _⟩ := h
    subst e
    rcases q with q | ⟨o, its, n, q, c, _⟩
    · rcases q with q | ⟨o, q⟩
      · exact .base (.tup q)
      · exact .fTuple q
    · exact .kTuple q c
  | .dict ds, v, h => by
    unfold Dt at h
    obtain ⟨a, xs, e, q, _⟩ := h
    subst e
    exact .base (.dK q)
/-- isinstance(v, T) of data -/
def isT (d : PyData) (T : String) : Bool := decide (tyD d = T) || (decide (tyD d = "bool") && decide (T = "int"))
theorem isT_kit {K : PySem.W.Frag} {d : PyData} {T : String} (h : T ∈ ["int", "bool", "str", "list", "tuple", "dict"]) : PySem.W.kitOne K (.type (tyD d)) (.type T) = some (isT d T) := by
  have k : ∀ a ∈ ["NoneType", "bool", "int", "str", "list", "tuple", "dict"], ∀ T ∈ ["int", "bool", "str", "list", "tuple", "dict"], kitB a T = some (decide (a = T) || (decide (a = "bool") && decide (T = "int"))) := by decide +kernel
  exact kit_ty (k (tyD d) (by cases d <;> simp [tyD]) T h)
def rIsD (K : PySem.W.Frag) (T : String) : List V → Hp → VK → Prop := fun xs H Q => ∃ (v : V) (d : PyData), xs = [v, .ty T] ∧ Dt K H d v ∧ Q (.bl (isT d T)) H
theorem call_isD {X : Cx} {T : String} (h : T ∈ ["int", "bool", "str", "list", "tuple", "dict"]) : CallR X (.builtin "isinstance") (rIsD X.K T) := by
  intro pins s σ H xs us Q I r hq
  obtain ⟨v, d, e, hd, q⟩ := hq
  exact call_isi pins s σ H xs us Q I r ⟨v, .ty T, _, _, _, e, .ty T, hd.ty, isT_kit h, q⟩
end L2
set_option Elab.async false
set_option linter.all false
set_option maxRecDepth 100000
set_option maxHeartbeats 4000000
/-! readings that lay data of a known kind, over what stood at H0 -/
namespace L2
open PySem PySem.Spec PyProof.Rows
theorem sameNew {H : Hp} {p : Addr} {o : HO} (h : H p = none) : Same H (upd H p o) := fun b x e => by
  rw [upd_ne (ne_of_none e h)]
  exact e
/-- t lays the data d: N' is what it stands on, and nothing of N' but N was there before -/
def Ly (K : PySem.W.Frag) (σ : L2.St) (H0 : Hp) (d : PyData) (t : TE) : Prop := ∀ (N H : Hp) (Q : VK), Same H0 N → Same N H →
  (∀ v N' H', Same N N' → Same N' H' → Same H H' → (∀ b, N' b ≠ none → N b ≠ none ∨ H b = none) → Dt K N' d v → Q v H') → t σ H Q
def LyA (K : PySem.W.Frag) (σ : L2.St) (H0 : Hp) (ds : List PyData) (t : TA) : Prop := ∀ (N H : Hp) (Q : List V → Hp → Prop), Same H0 N → Same N H →
  (∀ vs N' H', Same N N' → Same N' H' → Same H H' → (∀ b, N' b ≠ none → N b ≠ none ∨ H b = none) → Dts K N' ds vs → Q vs H') → t σ H Q
def off (p : Addr) (H : Hp) : Hp := fun b => if b = p then none else H b
theorem off_same {p : Addr} {H : Hp} : Same (off p H) H := fun b o e => by
  unfold off at e
  split at e
  · cases e
  · exact e
theorem off_at {p : Addr} {H : Hp} : off p H p = none := if_pos rfl
theorem off_ne {p b : Addr} {H : Hp} (h : b ≠ p) : off p H b = H b := if_neg h
theorem Same.updBoth {N H : Hp} {p : Addr} {o : HO} (s : Same N H) : Same (upd N p o) (upd H p o) := fun b x e => by
  by_cases c : b = p
  · subst c
    rw [upd_same] at e ⊢
    exact e
  · rw [upd_ne c] at e ⊢
    exact s _ _ e
theorem fresh_trans {N N1 H H1 N2 : Hp} (s : Same H H1) (f1 : ∀ b, N1 b ≠ none → N b ≠ none ∨ H b = none) (f2 : ∀ b, N2 b ≠ none → N1 b ≠ none ∨ H1 b = none) : ∀ b, N2 b ≠ none → N b ≠ none ∨ H b = none := fun b z => by
  rcases f2 b z with z | z
  · exact f1 b z
  · exact .inr (s.free z)
theorem fresh_upd {N H : Hp} {p : Addr} {o : HO} (h : H p = none) : ∀ b, upd N p o b ≠ none → N b ≠ none ∨ H b = none := fun b z => by
  by_cases c : b = p
  · subst c
    exact .inr h
  · rw [upd_ne c] at z
    exact .inl z
theorem dtsLen {K : PySem.W.Frag} {H : Hp} : ∀ {ds : List PyData} {vs : List V}, Dts K H ds vs → vs.length = ds.length
  | [], vs, h => by
    unfold Dts at h
    rw [h]
    rfl
  | d :: ds, vs, h => by
    unfold Dts at h
    obtain ⟨x, r, e, _, h2⟩ := h
    rw [e, List.length_cons, dtsLen h2]
    rfl
theorem dtsMem {K : PySem.W.Frag} {H : Hp} : ∀ {ds : List PyData} {vs : List V} {x : V}, Dts K H ds vs → x ∈ vs → ∃ d ∈ ds, Dt K H d x
  | [], vs, x, h, m => by
    unfold Dts at h
    rw [h] at m
    cases m
  | d :: ds, vs, x, h, m => by
    unfold Dts at h
    obtain ⟨y, r, e, h1, h2⟩ := h
    subst e
    rcases List.mem_cons.mp m with z | z
    · subst z
      exact ⟨d, List.mem_cons_self, h1⟩
    · obtain ⟨d', m', q⟩ := dtsMem h2 z
      exact ⟨d', List.mem_cons_of_mem _ m', q⟩
section
variable {K : PySem.W.Frag} {σ : L2.St} {H0 : Hp}
theorem l_nil : LyA K σ H0 [] tNil := fun N H Q _ sN k => k [] N H (Same.refl N) sN (Same.refl H) (fun _ z => .inl z) (by unfold Dts; rfl)
theorem l_cons {d : PyData} {ds : List PyData} {t : TE} {u : TA} (h : Ly K σ H0 d t) (r : LyA K σ H0 ds u) : LyA K σ H0 (d :: ds) (tCons t u) := fun N H Q s0 sN k =>
  h N H _ s0 sN fun v N1 H1 a1 b1 c1 f1 d1 => r N1 H1 _ (s0.trans a1) b1 fun vs N2 H2 a2 b2 c2 f2 d2 =>
    k (v :: vs) N2 H2 (a1.trans a2) b2 (c1.trans c2) (fresh_trans c1 f1 f2) (by unfold Dts; exact ⟨v, vs, rfl, Dt.same a2 d v d1, d2⟩)
theorem l_non : Ly K σ H0 .none (tC .non) := fun N H Q _ sN k => k _ N H (Same.refl N) sN (Same.refl H) (fun _ z => .inl z) (by unfold Dt; rfl)
theorem l_bl {b : Bool} : Ly K σ H0 (.bool b) (tC (.bl b)) := fun N H Q _ sN k => k _ N H (Same.refl N) sN (Same.refl H) (fun _ z => .inl z) (by unfold Dt; rfl)
theorem l_int {i : Int} : Ly K σ H0 (.int i) (tC (.int i)) := fun N H Q _ sN k => k _ N H (Same.refl N) sN (Same.refl H) (fun _ z => .inl z) (by unfold Dt; rfl)
theorem l_str {x : Str} : Ly K σ H0 (.str x) (tC (.str x)) := fun N H Q _ sN k => k _ N H (Same.refl N) sN (Same.refl H) (fun _ z => .inl z) (by unfold Dt; rfl)
theorem l_neg {i : Int} : Ly K σ H0 (.int (-i)) (tUn (rU fun i => .int (-i)) (tC (.int i))) := fun N H Q _ sN k => ⟨i, rfl, k _ N H (Same.refl N) sN (Same.refl H) (fun _ z => .inl z) (by unfold Dt; rfl)⟩
theorem l_var {i : Nat} {v : V} {d : PyData} (e : σ[i]? = some (some v)) (h : Dt K H0 d v) : Ly K σ H0 d (tVar i) := fun N H Q s0 sN k => ⟨v, e, k v N H (Same.refl N) sN (Same.refl H) (fun _ z => .inl z) (Dt.same s0 d v h)⟩
theorem l_tup {ds : List PyData} {t : TA} (h : LyA K σ H0 ds t) (l : ds.length ≤ 1000 := by decide) : Ly K σ H0 (.tuple ds) (tTup t) := fun N H Q s0 sN k =>
  h N H _ s0 sN fun vs N1 H1 a1 b1 c1 f1 d1 => ⟨by rw [dtsLen d1]; exact Nat.le_of_lt (small1000 l), fun p np => k _ (upd N1 p (.tup vs)) _ (a1.trans (sameNew (b1.free np))) b1.updBoth (c1.trans (sameNew np)) (fresh_trans c1 f1 (fresh_upd np)) (by
    unfold Dt
    exact ⟨p, vs, rfl, .of upd_same, Dts.same (sameNew (b1.free np)) ds vs d1⟩)⟩
theorem l_lst {ds : List PyData} {t : TA} (h : LyA K σ H0 ds t) (l : ds.length ≤ 1000 := by decide) : Ly K σ H0 (.list ds) (tLst t) := fun N H Q s0 sN k =>
  h N H _ s0 sN fun vs N1 H1 a1 b1 c1 f1 d1 => ⟨by rw [dtsLen d1]; exact Nat.le_of_lt (small1000 l), fun p np => k _ (upd N1 p (.lst vs)) _ (a1.trans (sameNew (b1.free np))) b1.updBoth (c1.trans (sameNew np)) (fresh_trans c1 f1 (fresh_upd np)) (by
    unfold Dt
    exact ⟨p, vs, rfl, .of upd_same, Dts.same (sameNew (b1.free np)) ds vs d1⟩)⟩
theorem l_dict : Ly K σ H0 (.dict []) tDNewK := fun N H Q _ sN k p np => k _ (upd N p (.dK [])) _ (sameNew (sN.free np)) sN.updBoth (sameNew np) (fresh_upd np) (by
  unfold Dt Dtk
  exact ⟨p, [], rfl, upd_same, rfl⟩)
theorem llst_top {ds : List PyData} {t : TA} {N H : Hp} {Q : VK} (h : LyA K σ N ds t) (sN : Same N H) (l : ds.length ≤ 1000)
    (k : ∀ (p : Addr) (xs : List V) (N' H' : Hp), Same N N' → Same N' H' → Same H H' → (∀ b, N' b ≠ none → N b ≠ none ∨ H b = none) → H p = none → N' p = some (.lst xs) → Dts K N' ds xs → Q (.ref p) H') : tLst t σ H Q :=
  h N H _ (Same.refl N) sN fun vs N1 H1 a1 b1 c1 f1 d1 => ⟨by rw [dtsLen d1]; exact Nat.le_of_lt (small1000 l), fun p np => k p vs (upd N1 p (.lst vs)) _ (a1.trans (sameNew (b1.free np))) b1.updBoth (c1.trans (sameNew np)) (fresh_trans c1 f1 (fresh_upd np)) (c1.free np) upd_same (Dts.same (sameNew (b1.free np)) ds vs d1)⟩
theorem set_llst {ds : List PyData} {t : TA} {g : TG} {u : TS} {D : Ends} {N H : Hp} (h : LyA K σ N ds t) (sN : Same N H) (l : ds.length ≤ 1000)
    (k : ∀ (p : Addr) (xs : List V) (N' H' : Hp), Same N N' → Same N' H' → Same H H' → (∀ b, N' b ≠ none → N b ≠ none ∨ H b = none) → H p = none → N' p = some (.lst xs) → Dts K N' ds xs → g (.ref p) σ H' (u D)) : tSeq (tAsg (tLst t) g) u D σ H :=
  show tLst t σ H (fun x H1 => g x σ H1 (u D)) from llst_top h sN l k
end
theorem for_enumL {K : PySem.W.Frag} {a : Addr} {xs : List V} {g : TG} {tb : TS} {D : Ends} {σ : St} {H : Hp} (Pv : Nat → St → Hp → Prop) (h0 : Pv 0 σ H) (hl : ∀ i σ H, Pv i σ H → SqL K H a xs)
    (hs : ∀ (i : Nat) (x : V) (T : Addr) (σ : St) (H : Hp), xs[i]? = some x → Pv i σ H → H T = none → g (.ref T) σ (upd H T (.tup [.int (i : Nat), x])) fun σ2 H2 => tb { D with nx := Pv (i + 1), ct := Pv (i + 1), bk := D.nx } σ2 H2) (hd : ∀ σ H, Pv xs.length σ H → D.nx σ H) :
    ∃ W : Nat → Nat → St → Hp → Prop, (∃ m, W 0 m σ H) ∧ ∀ i m σ H, W i m σ H →
      ((Ite K a).stop i H ∧ D.nx σ H) ∨ ((Ite K a).go i H ∧ ∃ N : St → Hp → Prop, (∀ σ' H', N σ' H' → ∃ m', m' < m ∧ W (i + 1) m' σ' H') ∧ ∀ x H', (Ite K a).yld i H x H' → g x σ H' fun σ2 H2 => tb { D with nx := N, ct := N, bk := D.nx } σ2 H2) := by
  refine ⟨fun i m σ H => m = xs.length - i ∧ i ≤ xs.length ∧ Pv i σ H, ⟨xs.length, by simp, Nat.zero_le _, h0⟩, ?_⟩
  rintro i m σ H ⟨rfl, hi, p⟩
  have q := hl i σ H p
  by_cases hlt : i < xs.length
  · refine .inr ⟨⟨xs, xs[i], q, by simp [hlt]⟩, Pv (i + 1), fun σ' H' p' => ⟨xs.length - (i + 1), by omega, rfl, hlt, p'⟩, fun v H' y => ?_⟩
    obtain ⟨T, x, rfl, nT, rfl, fx⟩ := y
    exact hs i x T σ _ (fx xs q) p nT
  · have e : i = xs.length := by omega
    subst e
    exact .inl ⟨⟨xs, q, Nat.le_refl _⟩, hd σ H p⟩
theorem strs_dts {K : PySem.W.Frag} {H : Hp} : ∀ {nm : List Str} {xs : List V}, Dts K H (nm.map PyData.str) xs → xs = nm.map V.str
  | [], xs, h => by
    rw [List.map_nil] at h
    unfold Dts at h
    exact h
  | x :: nm, xs, h => by
    rw [List.map_cons] at h
    unfold Dts Dt at h
    obtain ⟨v, r, e, e1, h2⟩ := h
    rw [e, e1, strs_dts h2, List.map_cons]
theorem dts_strs {K : PySem.W.Frag} {H : Hp} : ∀ (nm : List Str), Dts K H (nm.map PyData.str) (nm.map V.str)
  | [] => by
    rw [List.map_nil, List.map_nil]
    unfold Dts
    rfl
  | x :: nm => by
    rw [List.map_cons, List.map_cons]
    unfold Dts Dt
    exact ⟨_, _, rfl, rfl, dts_strs nm⟩
theorem strsAt {K : PySem.W.Frag} {H : Hp} {nm : List Str} {v : V} (h : Dt K H (.tuple (nm.map PyData.str)) v) : ∃ a, v = .ref a ∧ SqT K H a (nm.map V.str) := by
  unfold Dt at h
  obtain ⟨a, xs, e, q, d⟩ := h
  rw [strs_dts d] at q
  exact ⟨a, e, q⟩
theorem peI {X : Cx} {e : Expr} {t u : TE} (h : PE X e t) (k : ∀ σ H Q, u σ H Q → t σ H Q) : PE X e u :=
  ⟨fun pins s σ H Q I hw => h.run pins s σ H Q I (k σ H Q hw)⟩
theorem iteS {c A B : Prop} [Decidable c] (hc : c) (h : A) : if decide c = true then A else B := by
  rw [decide_eq_true hc]
  exact iteT h
theorem dt_int {K : PySem.W.Frag} {H : Hp} (i : Int) : Dt K H (.int i) (.int i) := by
  unfold Dt
  rfl
theorem dt_str {K : PySem.W.Frag} {H : Hp} (x : Str) : Dt K H (.str x) (.str x) := by
  unfold Dt
  rfl
theorem dt_non {K : PySem.W.Frag} {H : Hp} : Dt K H .none .non := by
  unfold Dt
  rfl
theorem dt_bl {K : PySem.W.Frag} {H : Hp} (b : Bool) : Dt K H (.bool b) (.bl b) := by
  unfold Dt
  rfl
end L2
set_option Elab.async false
set_option linter.all false
set_option maxRecDepth 100000
set_option maxHeartbeats 1000000
namespace K05
open PySem PySem.Spec PyProof.Rows L2
/-! ### looking up -/
def nmAt (nm : List Str) (d : Int) : Str := nm.getD d.toNat ""
def dcl (rs : List PRow) (s : Nat) : List Int := rangeL ((cnts rs).take s).sum (((cnts rs).take s).sum + (cnts rs).getD s 0)
def ownF (rs : List PRow) (nm : List Str) (s : Nat) (x : Str) : Option Int := (dcl rs s).find? fun d => decide (nmAt nm d = x)
def seek (rs : List PRow) (nm : List Str) (l : List Int) (x : Str) : Option Int := l.findSome? fun s => ownF rs nm s.toNat x
def optV : Option Int → V
  | none => .non
  | some d => .int d
def lookD (rs : List PRow) (nm : List Str) (i : Int) : PyData → Option Int
  | .str x => seek rs nm (PM.W (pars rs) i) x
  | _ => none
theorem split_at {α : Type} {l : List α} {j : Nat} {d : α} (h : l[j]? = some d) : l = l.take j ++ d :: l.drop (j + 1) := by
  obtain ⟨hj, e⟩ := List.getElem?_eq_some_iff.mp h
  rw [← e, List.getElem_cons_drop, List.take_append_drop]
theorem find_at {α : Type} {l : List α} {p : α → Bool} {j : Nat} {d : α} (h : l[j]? = some d) (no : ∀ e ∈ l.take j, p e = false) (yes : p d = true) : l.find? p = some d := by
  rw [split_at h, List.find?_append, List.find?_eq_none.mpr fun e he => by rw [no e he]; decide, List.find?_cons_of_pos yes]
  rfl
theorem findSome_at {α β : Type} {l : List α} {f : α → Option β} {j : Nat} {s : α} {d : β} (h : l[j]? = some s) (no : ∀ e ∈ l.take j, f e = none) (yes : f s = some d) : l.findSome? f = some d := by
  rw [split_at h, List.findSome?_append, List.findSome?_eq_none_iff.mpr no, List.findSome?_cons, yes]
  rfl
theorem take_succ_mem {α : Type} {l : List α} {j : Nat} {d e : α} (h : l[j]? = some d) (m : e ∈ l.take (j + 1)) : e ∈ l.take j ∨ e = d := by
  rw [List.take_add_one, h] at m
  rcases List.mem_append.mp m with z | z
  · exact .inl z
  · exact .inr (List.mem_singleton.mp z)
theorem isT_str (d : PyData) : isT d "str" = match d with | .str _ => true | _ => false := by
  cases d <;> simp [isT, tyD]
theorem dcl_bd {rs : List PRow} (wf : PWf rs) {s : Nat} {d : Int} (h : d ∈ dcl rs s) : 0 ≤ d ∧ d < (cnts rs).sum := by
  unfold dcl at h
  have m := rangeL_mem h
  cases q : (cnts rs)[s]? with
  | none =>
    rw [List.getD_eq_getElem?_getD, q] at m
    have z : ((none : Option Int).getD 0) = 0 := rfl
    rw [z] at m
    omega
  | some c =>
    rw [List.getD_eq_getElem?_getD, q] at m
    have z : ((some c : Option Int).getD 0) = c := rfl
    rw [z] at m
    have a := sum_at_le (l := cnts rs) wf.nn q
    omega
theorem nm_get {nm : List Str} {d : Int} (h0 : 0 ≤ d) (h1 : d < nm.length) : (nm.map V.str)[d.toNat]? = some (.str (nmAt nm d)) := by
  unfold nmAt
  have l : d.toNat < nm.length := by omega
  rw [List.getElem?_map, List.getD_eq_getElem?_getD, List.getElem?_eq_getElem l]
  rfl
section
variable {P : Program} {w : World} {K : PySem.W.Frag} {mg : Str → Option Value} {base : Heap}
def spLook (K : PySem.W.Frag) : Sp := fun vs H Q _ => ∃ (vp vn vx : V) (rs : List PRow) (nm : List Str) (i : Nat) (d : PyData), vs = [vp, vn, .int (i : Int), vx] ∧ Dt K H (pd rs) vp ∧ PWf rs ∧ Dt K H (.tuple (nm.map PyData.str)) vn ∧ (nm.length : Int) = (cnts rs).sum ∧ i < rs.length ∧ Dt K H d vx ∧
  ∀ H', Same H H' → Q (optV (lookD rs nm i d)) H'
abbrev lookN : List Str := ["program", "naming", "scope", "name", "around", "outer", "declaration"]
theorem scLook : FnScope lookN ["program", "naming", "scope", "name"] (defScope s_look_up) := ⟨rfl, rfl, rfl, by decide +kernel, rfl, by decide +kernel, by decide +kernel⟩
theorem ok_look {fW fN f fC fKS fDe fE : Addr} {fdW fdN fd fdC fdKS fdDe fdE : FuncData} (T : TxtN K mg fW fN fdW fdN) (F : FnP K "look_up" s_look_up f fd) (FC : FnP K "declaration_count" s_declaration_count fC fdC) (gC : mg "declaration_count" = some (.ref fC))
    (FKS : FnP K "check_scope" s_check_scope fKS fdKS) (gKS : mg "check_scope" = some (.ref fKS)) (FDe : FnP K "declarations_of" s_declarations_of fDe fdDe) (gDe : mg "declarations_of" = some (.ref fDe)) (FE : FnP K "enclosing_scopes" s_enclosing_scopes fE fdE) (gE : mg "enclosing_scopes" = some (.ref fE))
    (mst : mg "str" = none) : FnOk P w K mg base CX0 5 f fd ["program", "naming", "scope", "name"] (spLook K) := by
  have GDe : FnOk P w K mg base CX0 4 fDe fdDe ["program", "scope"] (spDecls K) := ok_decls T FDe FC gC FKS gKS
  have GE : FnOk P w K mg base CX0 4 fE fdE ["program", "scope"] (spEnc K) := ok_enc T FE FKS gKS
  have bDe : Binds K fdDe ["program", "scope"] [] := FDe.bindsN fun _ _ _ _ _ _ us hl => match us, hl with | [_, _], _ => rfl
  have bE : Binds K fdE ["program", "scope"] [] := FE.bindsN fun _ _ _ _ _ _ us hl => match us, hl with | [_, _], _ => rfl
  refine F.ok scLook (fun vs H Q E h => ?_) (fun cdv A outer s H vs Q E hr h => ?_)
  · obtain ⟨vp, vn, vx, rs, nm, i, d, rfl, _⟩ := h
    rfl
  · obtain ⟨vp, vn, vx, rs, nm, i, d, rfl, hp, wf, hn, nl, hi, hx, q⟩ := h
    have nd := scLook.nd
    have hl := wf.len
    refine ⟨_, PSs.nox (pss_cons (ps_set (i := 4) nd rfl (.inl rfl) (pe_call GE hr (by rfl) gE FE.kp bE .nil pass0 (pa_cons (pv 0) (pa_cons (pv 2) pa_nil))))
      (pss_cons (ps_if (pt_not (pt_val (pe_callB (call_isD (T := "str") (by decide)) (by rfl) T.ms (by decide +kernel) (pa_cons (pv 3) (pa_cons (pe_bltn (v := .ty "str") (by rfl) mst (by decide +kernel) rfl) pa_nil))))) (pss_one (ps_ret pe_non)) pss_nil)
      (pss_cons (ps_for PassesOwn.never rfl (pi_tup (pv 4)) (pg_name (i := 5) nd rfl (.inl rfl)) (pss_one (ps_for PassesOwn.never rfl (pi_tup (pe_call GDe hr (by rfl) gDe FDe.kp bDe .nil pass0 (pa_cons (pv 0) (pa_cons (pv 5) pa_nil)))) (pg_name (i := 6) nd rfl (.inl rfl)) (pss_one (ps_if (pt_cmpR op_eq (pe_ix ix_tup (pv 1) (pv 6) (fun _ _ => rfl)) (pv 3) (nomark _)) (pss_one (ps_ret (pv 6))) pss_nil)))))
      (pss_one (ps_ret pe_non))))), ?_⟩
    refine ⟨vp, rfl, .int (i : Int), rfl, vp, rs, (i : Int), rfl, hp, wf, by omega, by omega, fun H1 p1 S1 e1 => ?_⟩
    refine ⟨vx, rfl, vx, d, rfl, Dt.same S1 _ _ hx, _, rfl, ?_⟩
    rw [isT_str]
    obtain ⟨a, rfl, hq⟩ := strsAt hn
    cases d with
    | str x =>
      refine iteF ?_
      unfold Dt at hx
      subst hx
      refine ⟨.ref p1, rfl, p1, rfl, ⟨_, .of e1⟩, ?_⟩
      refine for_tup (K := K) (a := p1) (xs := (PM.W (pars rs) (i : Int)).map V.int) (fun k σ H' => ∃ y5 y6, σ = [some vp, some (.ref a), some (.int (i : Int)), some (.str x), some (.ref p1), y5, y6] ∧ Same H1 H' ∧ ∀ s ∈ (PM.W (pars rs) (i : Int)).take k, ownF rs nm s.toNat x = none)
        ⟨_, _, rfl, Same.refl H1, fun s hs => by simp at hs⟩ (fun k σ H' _ ⟨_, _, _, S', _⟩ => .of (S' _ _ e1)) ?_ ?_
      · rintro k v σ H2 hv ⟨y5, y6, rfl, S2, no⟩
        rw [List.getElem?_map] at hv
        obtain ⟨sc, hsc, rfl⟩ := Option.map_eq_some_iff.mp hv
        have sb := PM.W_bounds wf.pre.low (i : Int) (by rw [List.length_map]; omega) sc (List.mem_of_getElem? hsc)
        obtain ⟨j, rfl⟩ : ∃ j : Nat, sc = (j : Int) := ⟨sc.toNat, by omega⟩
        have hj : j < rs.length := by omega
        have hc : (cnts rs)[j]? = some rs[j].2.1 := by
          rw [List.getElem?_map, List.getElem?_eq_getElem hj]
          rfl
        have ed : dcl rs j = rangeL ((cnts rs).take j).sum (((cnts rs).take j).sum + rs[j].2.1) := by
          unfold dcl
          rw [List.getD_eq_getElem?_getD, hc]
          rfl
        refine ⟨vp, rfl, .int (j : Int), rfl, vp, rs, rs[j].2.1, j, rfl, Dt.same (S1.trans S2) _ _ hp, wf, hc, fun H3 p3 S3 e3 => ?_⟩
        rw [← ed] at e3
        refine ⟨p3, rfl, ⟨_, .of e3⟩, ?_⟩
        refine for_tup (K := K) (a := p3) (xs := (dcl rs j).map V.int) (fun m σ H' => ∃ y6, σ = [some vp, some (.ref a), some (.int (i : Int)), some (.str x), some (.ref p1), some (.int (j : Int)), y6] ∧ Same H3 H' ∧ ∀ e ∈ (dcl rs j).take m, decide (nmAt nm e = x) = false)
          ⟨_, rfl, Same.refl H3, fun s hs => by simp at hs⟩ (fun k σ H' _ ⟨_, _, S', _⟩ => .of (S' _ _ e3)) ?_ ?_
        · rintro m v σ H4 hv ⟨y6, rfl, S4, no2⟩
          rw [List.getElem?_map] at hv
          obtain ⟨e, he, rfl⟩ := Option.map_eq_some_iff.mp hv
          have eb := dcl_bd wf (List.mem_of_getElem? he)
          have ge := nm_get (nm := nm) (d := e) eb.1 (by omega)
          have ee : e = ((e.toNat : Nat) : Int) := by omega
          have S5 : Same H H4 := ((S1.trans S2).trans S3).trans S4
          refine ⟨.ref a, rfl, .int e, rfl, a, _, e, .str (nmAt nm e), rfl, rfl, S5.sqT hq, ?_, .str x, rfl, rfl, _, rfl, ite2 (fun c => ?_) (fun c => ?_)⟩
          · have z := atI_nat ge
            rw [← ee] at z
            exact z
          · have c : nmAt nm e = x := V.str.inj (of_decide_eq_true c)
            refine ⟨.int e, rfl, ?_⟩
            have z : lookD rs nm (i : Int) (.str x) = some e := findSome_at hsc no (find_at he no2 (decide_eq_true c))
            have q := q H4 S5
            rw [z] at q
            exact q
          · have c : ¬ nmAt nm e = x := fun z => c (decide_eq_true (by rw [z]))
            refine ⟨_, rfl, S4, fun u hu => ?_⟩
            rcases take_succ_mem he hu with z | z
            · exact no2 u z
            · rw [z]
              exact decide_eq_false c
        · rintro σ H4 ⟨y6, rfl, S4, no2⟩
          rw [List.length_map, List.take_length] at no2
          refine ⟨_, _, rfl, (S2.trans S3).trans S4, fun u hu => ?_⟩
          rcases take_succ_mem hsc hu with z | z
          · exact no u z
          · rw [z]
            exact List.find?_eq_none.mpr fun e he => by rw [show ((j : Int)).toNat = j by omega] at he; rw [no2 e he]; decide
      · rintro σ H2 ⟨y5, y6, rfl, S2, no⟩
        rw [List.length_map, List.take_length] at no
        have z : lookD rs nm (i : Int) (.str x) = none := List.findSome?_eq_none_iff.mpr no
        have q := q H2 (S1.trans S2)
        rw [z] at q
        exact q
    | none => exact iteT (q H1 S1)
    | bool b => exact iteT (q H1 S1)
    | int n => exact iteT (q H1 S1)
    | list ds => exact iteT (q H1 S1)
    | tuple ds => exact iteT (q H1 S1)
    | dict kvs => exact iteT (q H1 S1)
end
end K05
set_option Elab.async false
set_option linter.all false
set_option maxRecDepth 100000
set_option maxHeartbeats 1000000
namespace K05
open PySem PySem.Spec PyProof.Rows L2
/-! ### the law's own tables -/
/-- the table of scope j -/
def GoodT (rs : List PRow) (nm : List Str) (kvs : List (Key × V)) (j : Nat) : Prop := (kvs.map (·.1)).Nodup ∧ (kvs.length : Int) ≤ ((cnts rs).take (j + 1)).sum ∧ ∀ x : Str, valV kvs (.inr x) = (seek rs nm (PM.W (pars rs) (j : Int)) x).map V.int
theorem seek_cons (rs : List PRow) (nm : List Str) (j : Nat) (l : List Int) (x : Str) : seek rs nm ((j : Int) :: l) x = (ownF rs nm j x).or (seek rs nm l x) := by
  unfold seek
  rw [List.findSome?_cons, show ((j : Int)).toNat = j by omega]
  cases ownF rs nm j x <;> rfl
theorem map_or (a b : Option Int) : (a.or b).map V.int = (a.map V.int).or (b.map V.int) := by
  cases a <;> rfl
/-- {} or a copy of the parent's table -/
def tNm (K : PySem.W.Frag) : TE := fun σ H Q => ∃ (fl : Addr) (p : Int) (kvs : List (Key × V)), σ[2]? = some (some (.ref fl)) ∧ σ[4]? = some (some (.int p)) ∧
  ((p < 0 ∧ kvs = []) ∨ (0 ≤ p ∧ ∃ (xs : List V) (t : Addr), H fl = some (.lst xs) ∧ xs[p.toNat]? = some (.ref t) ∧ H t = some (.dK kvs))) ∧
  ∀ H' t, Same H H' → H t = none → H' t = some (.dK (mergeK [] kvs)) → Q (.ref t) H'
theorem paired_mono {α β : Type} {F G : α → β → Prop} (h : ∀ a b, F a b → G a b) : ∀ {xs : List α} {ys : List β}, Paired F xs ys → Paired G xs ys
  | _, _, .nil => .nil
  | _, _, .cons p r => .cons (h _ _ p) (paired_mono h r)
section
variable {P : Program} {w : World} {K : PySem.W.Frag} {mg : Str → Option Value} {base : Heap}
def spTab (K : PySem.W.Frag) : Sp := fun vs H Q _ => ∃ (vp vn : V) (rs : List PRow) (nm : List Str), vs = [vp, vn] ∧ Dt K H (pd rs) vp ∧ PWf rs ∧ Dt K H (.tuple (nm.map PyData.str)) vn ∧ (nm.length : Int) = (cnts rs).sum ∧
  ∀ (H' : Hp) (p : Addr) (ts : List Addr), Same H H' → H p = none → H' p = some (.lst (ts.map V.ref)) → ts.length = rs.length → (∀ (j : Nat) (t : Addr), ts[j]? = some t → ∃ kvs, H' t = some (.dK kvs) ∧ GoodT rs nm kvs j) → Q (.ref p) H'
abbrev tabN : List Str := ["_law_program_here", "_law_naming", "_law_found", "_law_first", "_law_parent", "_law_count", "_law_uses", "_law_names", "_law_own", "_law_declaration"]
theorem scTab : FnScope tabN ["_law_program_here", "_law_naming"] (defScope s_law_tables) := ⟨rfl, rfl, rfl, by decide +kernel, rfl, by decide +kernel, by decide +kernel⟩
theorem ok_tab {f : Addr} {fd : FuncData} (F : FnP K "_law_tables" s_law_tables f fd) (mr : mg "range" = none) (mdi : mg "dict" = none) (mli : mg "list" = none) : FnOk P w K mg base CX0 1 f fd ["_law_program_here", "_law_naming"] (spTab K) := by
  refine F.ok scTab (fun vs H Q E h => ?_) (fun cdv A outer s H vs Q E hr h => ?_)
  · obtain ⟨vp, vn, rs, nm, rfl, _⟩ := h
    rfl
  · obtain ⟨vp, vn, rs, nm, rfl, hp, wf, hn, nl, q⟩ := h
    have nd := scTab.nd
    have names : ∀ (σ : L2.St) (H : Hp) (Q : VK), tNm K σ H Q → (tIf (tTest (tOp (rI0 fun i j => .bl (decide (i < j))) (tVar 4) (tC (.int 0)))) tDNewK (tCB (fun xs H Q => ∃ (a : Addr) (ps : List Addr) (kvs : List (Key × V)), xs = [.ref a] ∧ SqL K H a (ps.map V.ref) ∧ Paired (fun p kv => SqT K H p [kV kv.1, kv.2]) ps kvs ∧ ∀ p, H p = none → Q (.ref p) (upd H p (.dK (mergeK [] kvs)))) (tCons (LiI.tListItems (tOp (rIxL K) (tVar 2) (tVar 4))) tNil))) σ H Q := by
      rintro σ H Q ⟨fl, p, kvs, s2, s4, hk, q⟩
      refine ⟨.int p, s4, p, 0, rfl, rfl, _, rfl, ite2 (fun c => ?_) (fun c => ?_)⟩
      · have c : p < 0 := of_decide_eq_true c
        rcases hk with ⟨_, rfl⟩ | ⟨z, _⟩
        · exact fun t nt => q _ t (same_new nt) nt upd_same
        · omega
      · have c : 0 ≤ p := Int.not_lt.mp fun z => c (decide_eq_true z)
        rcases hk with ⟨z, _⟩ | ⟨_, xs, t, hfl, hx, ht⟩
        · omega
        refine ⟨.ref fl, s2, .int p, s4, fl, xs, p, .ref t, rfl, rfl, .of hfl, ?_, ?_⟩
        · have z := atI_nat hx
          rw [show ((p.toNat : Nat) : Int) = p by omega] at z
          exact z
        refine ⟨t, kvs, rfl, ht, fun H1 l ts S1 nl nts nlt e1 pr => ?_⟩
        refine ⟨l, ts, kvs, rfl, .of e1, paired_mono (fun a b h => .of h) pr, fun t' nt' => ?_⟩
        refine q _ t' (Same.trans S1 (same_new nt')) ?_ upd_same
        exact Same.free (H' := H1) S1 nt'
    refine ⟨_, PSs.nox (pss_cons (ps_par (i := 2) (j := 3) (by rfl) nd rfl rfl (by decide) rfl rfl (pa_cons (pe_lst pa_nil) (pa_cons pe_int pa_nil)) (by rfl))
      (pss_cons (ps_for PassesOwn.never rfl (pi_tup (pv 0)) (pg_tup rfl (pgs_cons (pg_name (i := 4) nd rfl (.inl rfl)) (pgs_cons (pg_name (i := 5) nd rfl (.inl rfl)) (pgs_cons (pg_name (i := 6) nd rfl (.inl rfl)) pgs_nil)))) (pss_cons (ps_set (i := 7) nd rfl (.inl rfl) (peI (pe_ifExp (pt_cmpR op_lt (pv 4) pe_int (nomark _)) pe_dnewK (pe_callTy (call_dictP rfl) (by rfl) mdi (by decide +kernel) (pa_cons (LiI.pe_listItems rfl (pe_ix ix_list (pv 2) (pv 4) (fun _ _ => rfl)) (by rfl) mli (by decide +kernel)) pa_nil))) names))
      (pss_cons (ps_set (i := 8) nd rfl (.inl rfl) pe_dnewK)
      (pss_cons (ps_for PassesOwn.never rfl (pi_range2 (by rfl) mr (pa_cons (pv 3) (pa_cons (pe_op op_add (pv 3) (pv 5)) pa_nil))) (pg_name (i := 9) nd rfl (.inl rfl)) (pss_one (ps_expr (pe_dsetd (pv 8) (pe_ix ix_tup (pv 1) (pv 9) (fun _ _ => rfl)) (pv 9) ⟨rfl, rfl, rfl, rfl⟩))))
      (pss_cons (ps_expr (pe_dupd (pv 7) (pv 8) ⟨rfl, rfl, rfl, rfl⟩))
      (pss_cons (ps_expr (pe_bm PySem.F.plainAttrs_list PySem.F.slot_list_append PySem.F.type_list_append mt_append (pv 2) (pa_cons (pv 7) pa_nil)))
      (pss_one (ps_set (i := 3) nd rfl (.inl rfl) (pe_op op_add (pv 3) (pv 5))))))))))
      (pss_one (ps_ret (pv 2))))), ?_⟩
    obtain ⟨g, xs, rfl, hq, hds, hxl⟩ := prog_at hp
    obtain ⟨a, rfl, hnq⟩ := strsAt hn
    have hl := wf.len
    have ht := wf.tot
    refine ⟨Nat.zero_le _, fun fl nf => ?_⟩
    refine ⟨_, _, rfl, ?_⟩
    refine ⟨.ref g, rfl, g, rfl, ⟨xs, (same_new nf).sqT hq⟩, ?_⟩
    refine for_tup (K := K) (a := g) (xs := xs) (fun i σ H' => ∃ y4 y5 y6 y7 y8 y9, σ = [some (.ref g), some (.ref a), some (.ref fl), some (.int ((cnts rs).take i).sum), y4, y5, y6, y7, y8, y9] ∧ Same H H' ∧
      ∃ ts : List Addr, H' fl = some (.lst (ts.map V.ref)) ∧ ts.length = i ∧ ∀ (j : Nat) (t : Addr), ts[j]? = some t → ∃ kvs, H' t = some (.dK kvs) ∧ GoodT rs nm kvs j)
      ⟨_, _, _, _, _, _, rfl, same_new nf, [], upd_same, rfl, fun j t h => by simp at h⟩ (fun i σ H' _ ⟨_, _, _, _, _, _, _, S', _⟩ => S'.sqT hq) ?_ ?_
    · rintro i x σ H1 hx ⟨y4, y5, y6, y7, y8, y9, rfl, S1, ts, e1, tl, good⟩
      have hi : i < rs.length := by
        rw [← hxl]
        exact (List.getElem?_eq_some_iff.mp hx).1
      obtain ⟨b, u, hb, qb, _⟩ := row_at (Dts.same S1 _ _ hds) (List.getElem?_eq_getElem hi)
      rw [hx] at hb
      cases hb
      have hc : (cnts rs)[i]? = some rs[i].2.1 := by
        rw [List.getElem?_map, List.getElem?_eq_getElem hi]
        rfl
      have sl := sum_at_le (l := cnts rs) wf.nn hc
      have cb : 0 ≤ rs[i].2.1 := wf.nn _ (List.mem_of_getElem? hc)
      have st : PM.W (pars rs) (i : Int) = (i : Int) :: PM.W (pars rs) rs[i].1 := by
        have z := PM.W_step wf.pre.low (a := (i : Int)) (by omega) (by rw [List.length_map]; omega)
        rw [List.getD_eq_getElem?_getD, List.getElem?_map, show ((i : Int)).toNat = i by omega, List.getElem?_eq_getElem hi] at z
        exact z
      have lp := wf.pre.low i rs[i].1 (by rw [List.getElem?_map, List.getElem?_eq_getElem hi]; rfl)
      -- the parent's table
      obtain ⟨kvs0, hk0, nd0, len0, val0⟩ : ∃ kvs0 : List (Key × V), ((rs[i].1 < 0 ∧ kvs0 = []) ∨ (0 ≤ rs[i].1 ∧ ∃ (xs : List V) (t : Addr), H1 fl = some (.lst xs) ∧ xs[rs[i].1.toNat]? = some (.ref t) ∧ H1 t = some (.dK kvs0))) ∧ (kvs0.map (·.1)).Nodup ∧
          (kvs0.length : Int) ≤ ((cnts rs).take i).sum ∧ ∀ x : Str, valV kvs0 (.inr x) = (seek rs nm (PM.W (pars rs) rs[i].1) x).map V.int := by
        by_cases c : rs[i].1 < 0
        · refine ⟨[], .inl ⟨c, rfl⟩, List.nodup_nil, sl.1, fun x => ?_⟩
          rw [PM.W_neg _ c]
          rfl
        · have hpt : rs[i].1.toNat < ts.length := by omega
          obtain ⟨kvs, hk, g1, g2, g3⟩ := good _ _ (List.getElem?_eq_getElem hpt)
          refine ⟨kvs, .inr ⟨by omega, _, _, e1, by rw [List.getElem?_map, List.getElem?_eq_getElem hpt]; rfl, hk⟩, g1, ?_, fun x => ?_⟩
          · have z : ((cnts rs).take (rs[i].1.toNat + 1)).sum ≤ ((cnts rs).take i).sum := by
              have z := sum_take_le (l := (cnts rs).take i) (rs[i].1.toNat + 1) fun c hc => wf.nn c (List.mem_of_mem_take hc)
              rw [List.take_take, Nat.min_eq_left (by omega)] at z
              exact z.2
            omega
          · rw [g3 x, show ((rs[i].1.toNat : Nat) : Int) = rs[i].1 by omega]
      refine ⟨b, _, rfl, qb, rfl, .int rs[i].1, _, rfl, .int rs[i].2.1, _, rfl, u, [], rfl, rfl, ?_⟩
      refine ⟨fl, rs[i].1, kvs0, rfl, rfl, hk0, fun H2 t S2 nt et => ?_⟩
      intro o no
      have ot : t ≠ o := ne_of_none et no
      have no1 : H1 o = none := S2.free no
      -- own names
      refine ⟨.int ((cnts rs).take i).sum, rfl, .int ((cnts rs).take i).sum, rfl, .int rs[i].2.1, rfl, _, _, rfl, rfl, _, _, rfl, ⟨by omega, by omega, by omega, by omega⟩, ?_⟩
      have ecn : (((cnts rs).take i).sum + rs[i].2.1 - ((cnts rs).take i).sum).toNat = rs[i].2.1.toNat := by omega
      refine for_range (lo := ((cnts rs).take i).sum) (fun j σ H' => ∃ y9, σ = [some (.ref g), some (.ref a), some (.ref fl), some (.int ((cnts rs).take i).sum), some (.int rs[i].1), some (.int rs[i].2.1), some u, some (.ref t), some (.ref o), y9] ∧ SameX o H2 H' ∧
        ∃ kvo : List (Key × V), H' o = some (.dK kvo) ∧ (kvo.map (·.1)).Nodup ∧ kvo.length ≤ j ∧ ∀ x : Str, valV kvo (.inr x) = (((List.range j).map fun k : Nat => ((cnts rs).take i).sum + (k : Int)).find? fun d => decide (nmAt nm d = x)).map V.int)
        ⟨_, rfl, .of (same_new no), [], upd_same, List.nodup_nil, Nat.le_refl _, fun x => rfl⟩ ?_ ?_
      · rintro j σ H3 hj ⟨z9, rfl, X3, kvo, eo, ndo, lno, valo⟩
        have hj : j < rs[i].2.1.toNat := by omega
        have S3a : SqT K H3 a (nm.map V.str) := by
          have z : SqT K H2 a (nm.map V.str) := (S1.trans S2).sqT hnq
          rcases z with z | z
          · rcases z with z | ⟨ob, z⟩
            · exact .inl (.inl (X3 _ _ (ne_of_none z no) z))
            · exact .inl (.inr ⟨ob, X3 _ _ (ne_of_none z no) z⟩)
          · exact .inr z
        have ge := nm_get (nm := nm) (d := ((cnts rs).take i).sum + (j : Int)) (by omega) (by omega)
        have za := atI_nat ge
        rw [show (((((cnts rs).take i).sum + (j : Int)).toNat : Nat) : Int) = ((cnts rs).take i).sum + (j : Int) by omega] at za
        refine ⟨.ref o, rfl, o, rfl, .inl ⟨_, .inl eo⟩, .ref a, rfl, .int (((cnts rs).take i).sum + (j : Int)), rfl, a, _, _, _, rfl, rfl, S3a, za, .int (((cnts rs).take i).sum + (j : Int)), rfl, kvo, .inr (nmAt nm (((cnts rs).take i).sum + (j : Int))), eo, rfl, small1000 (by omega), fun v hv => ?_, fun hv => ?_⟩
        · refine ⟨_, rfl, X3, kvo, eo, ndo, Nat.le_succ_of_le lno, fun x => ?_⟩
          rw [valo, List.range_succ, List.map_append, List.find?_append]
          rw [valo] at hv
          by_cases c : nmAt nm (((cnts rs).take i).sum + (j : Int)) = x
          · subst c
            obtain ⟨d, hd, _⟩ := Option.map_eq_some_iff.mp hv
            rw [hd]
            rfl
          · rw [List.map_singleton, List.find?_cons_of_neg (by rw [decide_eq_false c]; decide), List.find?_nil, Option.or_none]
        · refine ⟨_, rfl, X3.trans .upd, _, upd_same, putK_nodup ndo, ?_, fun x => ?_⟩
          · have := length_putK kvo (.inr (nmAt nm (((cnts rs).take i).sum + (j : Int)))) (V.int (((cnts rs).take i).sum + (j : Int)))
            omega
          · rw [valV_put, valo, List.range_succ, List.map_append, List.find?_append, List.map_singleton]
            by_cases c : nmAt nm (((cnts rs).take i).sum + (j : Int)) = x
            · subst c
              rw [if_pos rfl, List.find?_cons_of_pos (by exact decide_eq_true rfl)]
              rw [valo] at hv
              rw [Option.map_eq_none_iff.mp hv]
              rfl
            · rw [if_neg (fun z => c (Sum.inr.inj z).symm), List.find?_cons_of_neg (by rw [decide_eq_false c]; decide), List.find?_nil, Option.or_none]
      · rintro σ H3 ⟨z9, rfl, X3, kvo, eo, ndo, lno, valo⟩
        rw [ecn] at lno valo
        have ef : H3 fl = some (.lst (ts.map V.ref)) := X3 _ _ (ne_of_none (S2 _ _ e1) no) (S2 _ _ e1)
        have et3 : H3 t = some (.dK (mergeK [] kvs0)) := X3 _ _ ot et
        have tf : t ≠ fl := fun z => by
          rw [z, e1] at nt
          cases nt
        have ml : (mergeK [] kvs0).length ≤ kvs0.length := by
          have := length_mergeK kvs0 []
          rw [List.length_nil] at this
          omega
        refine ⟨.ref t, rfl, t, rfl, .inl ⟨_, .inl et3⟩, .ref o, rfl, o, _, _, rfl, ot, et3, eo, Nat.le_of_lt (small1000 (by omega)), ?_⟩
        have ef4 : L2.upd H3 t (.dK (mergeK (mergeK [] kvs0) kvo)) fl = some (.lst (ts.map V.ref)) := by
          rw [upd_ne (Ne.symm tf)]
          exact ef
        refine ⟨.ref fl, rfl, .inl ⟨rfl, _, .of ef4⟩, .ref t, rfl, fl, _, _, rfl, rfl, ef4, by rw [List.length_map]; exact small1000 (by omega), ?_⟩
        refine ⟨.int ((cnts rs).take i).sum, rfl, .int rs[i].2.1, rfl, _, _, rfl, rfl, ?_⟩
        have es : (V.int (((cnts rs).take i).sum + rs[i].2.1)) = V.int ((cnts rs).take (i + 1)).sum := by rw [sum_take_succ hc]
        have keep : ∀ {c : Addr} {ob : HO}, H1 c = some ob → c ≠ fl → L2.upd (L2.upd H3 t (.dK (mergeK (mergeK [] kvs0) kvo))) fl (.lst (ts.map V.ref ++ [.ref t])) c = some ob := fun {c ob} z n => by
          rw [upd_ne n, upd_ne (ne_of_none z nt)]
          exact X3 _ _ (ne_of_none z no1) (S2 _ _ z)
        refine ⟨some (.int rs[i].1), some (.int rs[i].2.1), some u, some (.ref t), some (.ref o), z9, ?_, fun c ob z => ?_, ts ++ [t], ?_, by rw [List.length_append, tl]; rfl, fun j t' h => ?_⟩
        · rw [← es]
          rfl
        · exact keep (S1 _ _ z) (ne_of_none z nf)
        · rw [upd_same, List.map_append]
          rfl
        · by_cases c : j < ts.length
          · rw [List.getElem?_append_left c] at h
            obtain ⟨kvs, hk, gd⟩ := good j t' h
            refine ⟨kvs, keep hk fun z => ?_, gd⟩
            rw [z, e1] at hk
            cases hk
          · rw [List.getElem?_append_right (by omega)] at h
            have z : j - ts.length = 0 := by
              have := (List.getElem?_eq_some_iff.mp h).1
              simp at this
              omega
            rw [z] at h
            have h := Option.some.inj h
            have ej : j = i := by omega
            rw [← h, ej]
            refine ⟨_, by rw [upd_ne tf, upd_same], mergeK_nodup (mergeK_nodup (kvs := []) List.nodup_nil), ?_, fun x => ?_⟩
            · have := length_mergeK kvo (mergeK [] kvs0)
              rw [sum_take_succ hc]
              omega
            · have eown : (((List.range rs[i].2.1.toNat).map fun k : Nat => ((cnts rs).take i).sum + (k : Int)).find? fun d => decide (nmAt nm d = x)) = ownF rs nm i x := by
                unfold ownF dcl rangeL
                rw [List.getD_eq_getElem?_getD, hc]
                show _ = (List.map _ (List.range (((cnts rs).take i).sum + rs[i].2.1 - ((cnts rs).take i).sum).toNat)).find? _
                rw [ecn]
              rw [mergeK_val ndo, mergeK_val nd0, valo, eown, val0, st, seek_cons, map_or, valV_nil, Option.or_none]
    · rintro σ H1 ⟨y4, y5, y6, y7, y8, y9, rfl, S1, ts, e1, tl, good⟩
      exact ⟨.ref fl, rfl, q H1 fl ts S1 nf e1 (by omega) good⟩
end
end K05
set_option Elab.async false
set_option linter.all false
set_option maxRecDepth 100000
set_option maxHeartbeats 1000000
namespace K05
open PySem PySem.Spec PyProof.Rows L2
/-! ### right -/
theorem offX {p : Addr} {H : Hp} : SameX p H (off p H) := fun b o n e => by
  rw [off_ne n]
  exact e
theorem keepN {N H H' : Hp} {p : Addr} (n : N p = none) (s : Same N H) (sx : SameX p H H') : Same N H' := fun b o e => sx b o (ne_of_none e n) (s b o e)
theorem pd_keep {K : PySem.W.Frag} {H H' : Hp} {D : Addr} {ys : List V} (hD : H D = some (.lst ys)) (sx : SameX D H H') {rs : List PRow} {v : V} (h : Dt K H (pd rs) v) : Dt K H' (pd rs) v := by
  unfold pd Dt at h ⊢
  obtain ⟨g, xs, e, q, d⟩ := h
  exact ⟨g, xs, e, sqT_keep hD sx q, rows_keep hD sx rs xs d⟩
theorem nm_keep {K : PySem.W.Frag} {H H' : Hp} {D : Addr} {ys : List V} (hD : H D = some (.lst ys)) (sx : SameX D H H') {nm : List Str} {v : V} (h : Dt K H (.tuple (nm.map PyData.str)) v) : Dt K H' (.tuple (nm.map PyData.str)) v := by
  obtain ⟨a, e, q⟩ := strsAt h
  unfold Dt
  exact ⟨a, _, e, sqT_keep hD sx q, dts_strs nm⟩
theorem HandAt.lst {H : Hp} {a : Addr} {T : Int} (h : HandAt H a T) : ∃ L, H a = some (.lst L) := let ⟨L, e, _⟩ := h; ⟨L, e⟩
def UFit (rs : List PRow) : Prop := ∀ r ∈ rs, r.2.2.length ≤ 40 ∧ ∀ d ∈ r.2.2, 0 ≤ d ∧ d < 100
theorem UWf.fit {rs : List PRow} (h : UWf rs) (wf : PWf rs) : UFit rs := by
  intro r hr
  obtain ⟨i, hi, e⟩ := List.mem_iff_getElem.mp hr
  obtain ⟨_, h2, h3⟩ := h i r (by rw [List.getElem?_eq_getElem hi, e])
  refine ⟨h2, fun d hd => ?_⟩
  obtain ⟨a, b, _⟩ := h3 d hd
  have := wf.tot
  exact ⟨a, by omega⟩
theorem cnt_bd {rs : List PRow} (wf : PWf rs) {r : PRow} (hr : r ∈ rs) : 0 ≤ r.2.1 ∧ r.2.1 ≤ 100 := by
  obtain ⟨i, hi, e⟩ := List.mem_iff_getElem.mp hr
  have z := sum_at_le (l := cnts rs) (i := i) (c := r.2.1) wf.nn (by rw [List.getElem?_map, List.getElem?_eq_getElem hi, e]; rfl)
  have n := wf.nn r.2.1 (List.mem_map.mpr ⟨r, hr, rfl⟩)
  have := wf.tot
  omega
theorem par_bd {rs : List PRow} (wf : PWf rs) {r : PRow} (hr : r ∈ rs) : -1 ≤ r.1 ∧ r.1 < 100 := by
  obtain ⟨i, hi, e⟩ := List.mem_iff_getElem.mp hr
  have z := wf.pre.low i r.1 (by rw [List.getElem?_map, List.getElem?_eq_getElem hi, e]; rfl)
  have := wf.len
  omega
theorem fit_pd {rs : List PRow} (wf : PWf rs) (u : UFit rs) : Fit (pd rs) 3 100000 := by
  refine (Fit.tup (k := 2) (n := 746) (m := 100) (fun d hd => ?_) (by rw [List.length_map]; exact wf.len)).mono (by decide) (by decide)
  obtain ⟨r, hr, e⟩ := List.mem_map.mp hd
  rw [← e]
  obtain ⟨u1, u2⟩ := u r hr
  have c := cnt_bd wf hr
  have p := par_bd wf hr
  have f3 : Fit (.tuple (r.2.2.map PyData.int)) 1 243 := (Fit.ints (m := 40) (fun i hi => by have := u2 i hi; omega) u1).mono (by decide) (by decide)
  have f1 : Fit (.int r.1) 1 243 := (Fit.int (by omega) (by omega)).mono (by decide) (by decide)
  have f2 : Fit (.int r.2.1) 1 243 := (Fit.int (by omega) (by omega)).mono (by decide) (by decide)
  refine (Fit.tup (k := 1) (n := 243) (m := 3) (fun d hd => ?_) (Nat.le_refl _)).mono (by decide) (by decide)
  rcases List.mem_cons.mp hd with z | hd
  · rw [z]; exact f1
  rcases List.mem_cons.mp hd with z | hd
  · rw [z]; exact f2
  rcases List.mem_cons.mp hd with z | hd
  · rw [z]; exact f3
  · cases hd
def abcd : List Str := ["a", "b", "c", "d"]
theorem abcd_fit {x : Str} (h : x ∈ abcd) : Fit (.str x) 0 3 := by
  have k : (abcd.all fun x => decide ((PyData.shown (.str x)).length ≤ 3)) = true := by decide +kernel
  exact ⟨rfl, Nat.le_refl _, of_decide_eq_true (List.all_eq_true.mp k x h)⟩
theorem fit_nm {nm : List Str} (h : ∀ x ∈ nm, x ∈ abcd) (l : nm.length ≤ 100) : Fit (.tuple (nm.map PyData.str)) 3 100000 := by
  refine (Fit.tup (k := 0) (n := 3) (m := 100) (fun d hd => ?_) (by rw [List.length_map]; exact l)).mono (by decide) (by decide)
  obtain ⟨x, hx, e⟩ := List.mem_map.mp hd
  rw [← e]
  exact abcd_fit (h x hx)
def both (rs : List PRow) (nm : List Str) : PyData := .tuple [pd rs, .tuple (nm.map PyData.str)]
theorem fit_both {rs : List PRow} {nm : List Str} (a : Fit (pd rs) 3 100000) (b : Fit (.tuple (nm.map PyData.str)) 3 100000) : Fit (both rs nm) 4 300000 := by
  refine (Fit.tup (k := 3) (n := 100000) (m := 2) (fun d hd => ?_) (Nat.le_refl _)).mono (by decide) (by decide)
  rcases List.mem_cons.mp hd with z | hd
  · rw [z]; exact a
  rcases List.mem_cons.mp hd with z | hd
  · rw [z]; exact b
  · cases hd
theorem dt_both {K : PySem.W.Frag} {H : Hp} {p : Addr} {rs : List PRow} {nm : List Str} {vp vn : V} (e : H p = some (.tup [vp, vn])) (a : Dt K H (pd rs) vp) (b : Dt K H (.tuple (nm.map PyData.str)) vn) : Dt K H (both rs nm) (.ref p) := by
  unfold both Dt Dts Dts Dts
  exact ⟨p, _, rfl, .of e, vp, _, rfl, a, vn, _, rfl, b, rfl⟩
def dOpt : Option Int → PyData
  | none => .none
  | some d => .int d
theorem dt_opt {K : PySem.W.Frag} {H : Hp} (o : Option Int) : Dt K H (dOpt o) (optV o) := by
  cases o with
  | none => exact dt_non
  | some d => exact dt_int d
theorem optV_get (o : Option Int) : (o.map V.int).getD .non = optV o := by cases o <;> rfl
theorem seek_bd {rs : List PRow} {nm : List Str} (wf : PWf rs) {l : List Int} {x : Str} {d : Int} (h : seek rs nm l x = some d) : 0 ≤ d ∧ d < (cnts rs).sum := by
  obtain ⟨s, _, hs⟩ := List.exists_of_findSome?_eq_some h
  exact dcl_bd wf (List.mem_of_find?_eq_some hs)
theorem opt_fit {rs : List PRow} {nm : List Str} (wf : PWf rs) (l : List Int) (x : Str) : Fit (dOpt (seek rs nm l x)) 0 5 := by
  cases q : seek rs nm l x with
  | none => exact Fit.none.mono (Nat.le_refl _) (by decide)
  | some d =>
    have b := seek_bd wf q
    have := wf.tot
    exact (Fit.int (by omega) (by omega)).mono (Nat.le_refl _) (by decide)
/-- a name that no declaration has is not found -/
theorem seek_other {rs : List PRow} {nm : List Str} (wf : PWf rs) (nl : (nm.length : Int) = (cnts rs).sum) (ok : ∀ x ∈ nm, x ∈ abcd) {x : Str} (hx : x ∉ abcd) (l : List Int) : seek rs nm l x = none := by
  refine List.findSome?_eq_none_iff.mpr fun s _ => List.find?_eq_none.mpr fun d hd => ?_
  have b := dcl_bd wf hd
  have ld : d.toNat < nm.length := by omega
  have e : nmAt nm d = nm[d.toNat] := by
    unfold nmAt
    rw [List.getD_eq_getElem?_getD, List.getElem?_eq_getElem ld]
    rfl
  rw [decide_eq_false fun z => hx (by rw [← z, e]; exact ok _ (List.getElem_mem ld))]
  decide
def odd (nm : List Str) : List PyData := [.none, .bool true, .int 0, .str "", .str "zz", .str "A", .tuple [], .list [], .dict [], .tuple [.str "a"], .list [.str "a"], .tuple (nm.map PyData.str)]
theorem odd_none {rs : List PRow} {nm : List Str} (wf : PWf rs) (nl : (nm.length : Int) = (cnts rs).sum) (ok : ∀ x ∈ nm, x ∈ abcd) (i : Int) : ∀ d ∈ odd nm, lookD rs nm i d = none := by
  intro d hd
  unfold odd at hd
  have k : ∀ x ∈ (["", "zz", "A"] : List Str), x ∉ abcd := by decide
  simp only [List.mem_cons, List.not_mem_nil, or_false] at hd
  rcases hd with z | z | z | z | z | z | z | z | z | z | z | z <;> subst z <;> first | rfl | exact seek_other wf nl ok (k _ (by decide)) _
abbrev rightN : List Str := ["_law_hand_here", "_law_program_here", "_law_naming", "_law_held", "_law_tables_here", "_law_odd", "_law_scope", "_law_names", "_law_name"]
theorem scRight : FnScope rightN ["_law_hand_here", "_law_program_here", "_law_naming"] (defScope s_law_right) := ⟨rfl, rfl, rfl, by decide +kernel, rfl, by decide +kernel, by decide +kernel⟩
def spRight (K : PySem.W.Frag) : Sp := fun vs H Q _ => ∃ (p : Addr) (vp vn : V) (rs : List PRow) (nm : List Str) (T : Int), vs = [.ref p, vp, vn] ∧ HandAt H p T ∧ T ≤ 90000 ∧ Dt K H (pd rs) vp ∧ PWf rs ∧ UFit rs ∧ Dt K H (.tuple (nm.map PyData.str)) vn ∧ (nm.length : Int) = (cnts rs).sum ∧
  (∀ x ∈ nm, x ∈ abcd) ∧ ∀ H', SameX p H H' → HandAt H' p (T + 100) → Q (.bl true) H'
structure TxtL (K : PySem.W.Frag) (mg : Str → Option Value) (fC fKS fDe fE fL fTb fT fP : Addr) (fdC fdKS fdDe fdE fdL fdTb fdT fdP : FuncData) : Prop where
  FC : FnP K "declaration_count" s_declaration_count fC fdC
  FKS : FnP K "check_scope" s_check_scope fKS fdKS
  FDe : FnP K "declarations_of" s_declarations_of fDe fdDe
  FE : FnP K "enclosing_scopes" s_enclosing_scopes fE fdE
  FL : FnP K "look_up" s_look_up fL fdL
  FTb : FnP K "_law_tables" s_law_tables fTb fdTb
  FT : FnP K "_law_take" s_law_take fT fdT
  FP : FnP K "_law_pick" s_law_pick fP fdP
  gC : mg "declaration_count" = some (.ref fC)
  gKS : mg "check_scope" = some (.ref fKS)
  gDe : mg "declarations_of" = some (.ref fDe)
  gE : mg "enclosing_scopes" = some (.ref fE)
  gL : mg "look_up" = some (.ref fL)
  gTb : mg "_law_tables" = some (.ref fTb)
  gT : mg "_law_take" = some (.ref fT)
  gP : mg "_law_pick" = some (.ref fP)
  mst : mg "str" = none
  mdi : mg "dict" = none
  mli : mg "list" = none
  mp : mg "repr" = none
  me : mg "enumerate" = none
section
variable {P : Program} {w : World} {K : PySem.W.Frag} {mg : Str → Option Value} {base : Heap}
theorem ok_right {f fW fN fC fKS fDe fE fL fTb fT fP : Addr} {fd fdW fdN fdC fdKS fdDe fdE fdL fdTb fdT fdP : FuncData} (T : TxtN K mg fW fN fdW fdN) (U : TxtL K mg fC fKS fDe fE fL fTb fT fP fdC fdKS fdDe fdE fdL fdTb fdT fdP)
    (F : FnP K "_law_right" s_law_right f fd) (hsy : SysK K) : FnG P w K mg base CX0 6 f fd ["_law_hand_here", "_law_program_here", "_law_naming"] (spRight K) := by
  have GL : FnOk P w K mg base CX0 5 fL fdL ["program", "naming", "scope", "name"] (spLook K) := ok_look T U.FL U.FC U.gC U.FKS U.gKS U.FDe U.gDe U.FE U.gE U.mst
  have GTb : FnOk P w K mg base CX0 1 fTb fdTb ["_law_program_here", "_law_naming"] (spTab K) := ok_tab U.FTb T.mr U.mdi U.mli
  have GP : FnOk P w K mg base CX0 2 fP fdP ["_law_hand_here", "_law_items"] (spPick K) := ok_pick U.FP U.FT U.gT T.ml
  have bL : Binds K fdL ["program", "naming", "scope", "name"] [] := U.FL.bindsN fun _ _ _ _ _ _ us hl => match us, hl with | [_, _, _, _], _ => rfl
  have bTb : Binds K fdTb ["_law_program_here", "_law_naming"] [] := U.FTb.bindsN fun _ _ _ _ _ _ us hl => match us, hl with | [_, _], _ => rfl
  have bP : Binds K fdP ["_law_hand_here", "_law_items"] [] := U.FP.bindsN fun _ _ _ _ _ _ us hl => match us, hl with | [_, _], _ => rfl
  refine F.okG scRight (fun vs H Q E h => ?_) (fun cdv A outer s H vs Q E hr hgd h => ?_)
  · obtain ⟨p, vp, vn, rs, nm, T, rfl, _⟩ := h
    rfl
  · obtain ⟨p, vp, vn, rs, nm, T0, rfl, hA, hT, hp0, wf, uf, hn0, nl, ok, q⟩ := h
    have nd := scRight.nd
    have hr1 : Room 1 _ := hr.mono (by decide)
    have hr2 : Room 2 _ := hr.mono (by decide)
    have hl := wf.len
    have ht := wf.tot
    have bf := fit_both (fit_pd wf uf) (fit_nm ok (by omega))
    obtain ⟨L0, eL0⟩ := hA.lst
    have hp : Dt K (off p H) (pd rs) vp := pd_keep eL0 offX hp0
    have hn : Dt K (off p H) (.tuple (nm.map PyData.str)) vn := nm_keep eL0 offX hn0
    refine ⟨_, PSs.nox (pss_cons (ps_par (i := 3) (j := 4) (by rfl) nd rfl rfl (by decide) rfl rfl (pa_cons (pe_callB (call_reprD hsy hgd hr.units) (by rfl) U.mp (by decide +kernel) (pa_cons (pe_tup (pa_cons (pv 1) (pa_cons (pv 2) pa_nil))) pa_nil)) (pa_cons (pe_call GTb hr1 (by rfl) U.gTb U.FTb.kp bTb .nil pass0 (pa_cons (pv 1) (pa_cons (pv 2) pa_nil))) pa_nil)) (by rfl))
      (pss_cons (ps_set (i := 5) nd rfl (.inl rfl) (pe_lst (pa_cons pe_non (pa_cons pe_bl (pa_cons pe_int (pa_cons pe_str (pa_cons pe_str (pa_cons pe_str (pa_cons (pe_tup pa_nil) (pa_cons (pe_lst pa_nil) (pa_cons pe_dnewK (pa_cons (pe_tup (pa_cons pe_str pa_nil)) (pa_cons (pe_lst (pa_cons pe_str pa_nil)) (pa_cons (pv 2) pa_nil))))))))))))))
      (pss_cons (ps_for PassesOwn.never rfl (pi_enum (by rfl) U.me (pa_cons (pv 4) pa_nil)) (pg_tup rfl (pgs_cons (pg_name (i := 6) nd rfl (.inl rfl)) (pgs_cons (pg_name (i := 7) nd rfl (.inl rfl)) pgs_nil))) (pss_cons (ps_for PassesOwn.never rfl (pi_tup (pe_tup (pa_cons pe_str (pa_cons pe_str (pa_cons pe_str (pa_cons pe_str pa_nil)))))) (pg_name (i := 8) nd rfl (.inl rfl)) (pss_one (ps_if (pt_cmpR op_ne (pe_callB (call_reprD hsy hgd hr.units) (by rfl) U.mp (by decide +kernel) (pa_cons (pe_call GL hr (by rfl) U.gL U.FL.kp bL .nil pass0 (pa_cons (pv 1) (pa_cons (pv 2) (pa_cons (pv 6) (pa_cons (pv 8) pa_nil))))) pa_nil)) (pe_callB (call_reprD hsy hgd hr.units) (by rfl) U.mp (by decide +kernel) (pa_cons (pe_dget2 (hu_of hr) (pv 7) (pv 8) pe_non ⟨rfl, rfl, rfl, rfl⟩) pa_nil)) (nomark _)) (pss_one (ps_ret pe_bl)) pss_nil)))
      (pss_one (ps_if (pt_cmp (pc_notN (pe_call GL hr (by rfl) U.gL U.FL.kp bL .nil pass0 (pa_cons (pv 1) (pa_cons (pv 2) (pa_cons (pv 6) (pa_cons (pe_call GP hr2 (by rfl) U.gP U.FP.kp bP .nil pass0 (pa_cons (pv 0) (pa_cons (pv 5) pa_nil))) pa_nil))))))) (pss_one (ps_ret pe_bl)) pss_nil))))
      (pss_one (ps_ret (pe_cmpR op_eq (pe_callB (call_reprD hsy hgd hr.units) (by rfl) U.mp (by decide +kernel) (pa_cons (pe_tup (pa_cons (pv 1) (pa_cons (pv 2) pa_nil))) pa_nil)) (pv 3) (nomark _))))))), ?_⟩
    refine ⟨vp, rfl, vn, rfl, by show 2 ≤ sizeLine; decide, fun q1 n1 => ?_⟩
    have s1 := same_new (o := .tup [vp, vn]) n1
    refine ⟨.ref q1, both rs nm, rfl, dt_both upd_same (Dt.same (off_same.trans s1) _ _ hp) (Dt.same (off_same.trans s1) _ _ hn), bf.sh, bf.d60, bf.sz, ?_⟩
    refine ⟨vp, rfl, vn, rfl, vp, vn, rs, nm, rfl, Dt.same (off_same.trans s1) _ _ hp, wf, Dt.same (off_same.trans s1) _ _ hn, nl, fun H2 tb ts S2 ntb e2 tl good => ?_⟩
    refine ⟨_, _, rfl, ?_⟩
    have SH : Same H H2 := s1.trans S2
    have hA2 := hA.same SH
    -- the odd values
    refine set_llst (K := K) (N := off p H) (ds := odd nm) (l_cons l_non (l_cons l_bl (l_cons l_int (l_cons l_str (l_cons l_str (l_cons l_str (l_cons (l_tup l_nil) (l_cons (l_lst l_nil) (l_cons l_dict (l_cons (l_tup (l_cons l_str l_nil)) (l_cons (l_lst (l_cons l_str l_nil)) (l_cons (l_var rfl hn) l_nil)))))))))))) (off_same.trans SH) (by show 12 ≤ 1000; decide) fun so xs N H3 a3 b3 S3 f3 nso eN dxs => ?_
    have Np : N p = none := by
      cases z : N p with
      | none => rfl
      | some o =>
        rcases f3 p (by rw [z]; simp) with y | y
        · exact absurd off_at y
        · obtain ⟨L2', e2'⟩ := hA2.lst
          rw [e2'] at y
          cases y
    have hA3 := hA2.same S3
    have eso := b3 _ _ eN
    have sop : so ≠ p := fun z => by
      rw [z, Np] at eN
      cases eN
    have xl : xs.length = 12 := dtsLen dxs
    have hpN := Dt.same a3 _ _ hp
    have hnN := Dt.same a3 _ _ hn
    refine ⟨.ref tb, rfl, tb, _, rfl, .of (S3 _ _ e2), ?_⟩
    have tbp : tb ≠ p := (hA.same s1).ne ntb
    refine for_enumL (K := K) (a := tb) (xs := ts.map V.ref) (fun i σ H' => ∃ y6 y7 y8, σ = [some (.ref p), some vp, some vn, some (.str (both rs nm).shown), some (.ref tb), some (.ref so), y6, y7, y8] ∧ SameX p H3 H' ∧ HandAt H' p (T0 + i))
      ⟨_, _, _, rfl, .of (Same.refl H3), hA3.mono (by omega)⟩ (fun i σ H' ⟨_, _, _, _, X', _⟩ => .of (X' _ _ tbp (S3 _ _ e2))) ?_ ?_
    · rintro i x tp σ H4 hx ⟨y6, y7, y8, rfl, X4, hA4⟩ ntp
      rw [List.getElem?_map] at hx
      obtain ⟨t, ht', rfl⟩ := Option.map_eq_some_iff.mp hx
      have il : i < rs.length := by
        have := (List.getElem?_eq_some_iff.mp ht').1
        omega
      obtain ⟨kvs, ek, gd⟩ := good i t ht'
      have tp' : t ≠ p := fun z => by
        obtain ⟨L2', e2'⟩ := hA2.lst
        rw [z, e2'] at ek
        cases ek
      have S5 := same_new (o := .tup [.int (i : Nat), .ref t]) ntp
      have e5 := upd_same (H := H4) (a := tp) (o := .tup [.int (i : Nat), .ref t])
      have X5 : SameX p H3 (L2.upd H4 tp (.tup [.int (i : Nat), .ref t])) := X4.trans (.of S5)
      have hA5 := hA4.same S5
      generalize L2.upd H4 tp (.tup [.int (i : Nat), .ref t]) = H5 at S5 e5 X5 hA5 ⊢
      refine ⟨tp, _, rfl, .of e5, rfl, .int (i : Nat), _, rfl, .ref t, [], rfl, rfl, ?_⟩
      refine ⟨by show 4 ≤ sizeLine; decide, fun cc ncc => ?_⟩
      have S6 := same_new (o := .tup [.str "a", .str "b", .str "c", .str "d"]) ncc
      have e6 := upd_same (H := H5) (a := cc) (o := .tup [.str "a", .str "b", .str "c", .str "d"])
      have X6 : SameX p H3 (L2.upd H5 cc (.tup [.str "a", .str "b", .str "c", .str "d"])) := X5.trans (.of S6)
      have hA6 := hA5.same S6
      generalize L2.upd H5 cc (.tup [.str "a", .str "b", .str "c", .str "d"]) = H6 at S6 e6 X6 hA6 ⊢
      refine ⟨cc, rfl, ⟨_, .of e6⟩, ?_⟩
      refine for_tup (K := K) (a := cc) (xs := abcd.map V.str) (fun j σ H' => ∃ y8, σ = [some (.ref p), some vp, some vn, some (.str (both rs nm).shown), some (.ref tb), some (.ref so), some (.int (i : Nat)), some (.ref t), y8] ∧ Same H6 H')
        ⟨_, rfl, Same.refl H6⟩ (fun j σ H' _ ⟨_, _, S'⟩ => .of (S' _ _ e6)) ?_ ?_
      · rintro j v σ H7 hv ⟨z8, rfl, S7⟩
        rw [List.getElem?_map] at hv
        obtain ⟨nmx, hnx, rfl⟩ := Option.map_eq_some_iff.mp hv
        have X7 : SameX p H3 H7 := X6.trans (.of S7)
        have sN := keepN Np b3 X7
        have of := opt_fit (nm := nm) wf (PM.W (pars rs) (i : Int)) nmx
        refine ⟨vp, rfl, vn, rfl, .int (i : Nat), rfl, .str nmx, rfl, vp, vn, .str nmx, rs, nm, i, .str nmx, rfl, Dt.same sN _ _ hpN, wf, Dt.same sN _ _ hnN, nl, il, dt_str nmx, fun H8 S8 => ?_⟩
        refine ⟨_, dOpt (seek rs nm (PM.W (pars rs) (i : Int)) nmx), rfl, dt_opt _, of.sh, of.d60, of.sz, ?_⟩
        have ek8 : H8 t = some (.dK kvs) := S8 _ _ (X7 _ _ tp' (S3 _ _ ek))
        refine ⟨.ref t, rfl, t, rfl, .inl ⟨_, .inl ek8⟩, .str nmx, rfl, _, DGet.k (k := .inr nmx) ek8, ?_⟩
        rw [gd.2.2 nmx, optV_get]
        refine ⟨_, dOpt (seek rs nm (PM.W (pars rs) (i : Int)) nmx), rfl, dt_opt _, of.sh, of.d60, of.sz, ?_⟩
        refine ⟨rfl, _, rfl, iteNS rfl ?_⟩
        exact ⟨_, rfl, S7.trans S8⟩
      · rintro σ H7 ⟨z8, rfl, S7⟩
        have X7 : SameX p H3 H7 := X6.trans (.of S7)
        have hA7 := hA6.same S7
        refine ⟨vp, rfl, vn, rfl, .int (i : Nat), rfl, .ref p, rfl, .ref so, rfl, p, so, _, xs, rfl, hA7, by omega, .of (X7 _ _ sop eso), fun z => ?_, by omega, sop, fun H8 x sx8 hA8 hx => ?_⟩
        · rw [z] at xl
          cases xl
        have X8 := X7.trans sx8
        have sN := keepN Np b3 X8
        obtain ⟨d, hdm, hdt⟩ := dtsMem dxs hx
        refine ⟨vp, vn, x, rs, nm, i, d, rfl, Dt.same sN _ _ hpN, wf, Dt.same sN _ _ hnN, nl, il, Dt.same sN _ _ hdt, fun H9 S9 => ?_⟩
        rw [odd_none wf nl ok (i : Int) d hdm]
        refine ⟨_, rfl, iteNS rfl ?_⟩
        exact ⟨_, _, _, rfl, X8.trans (.of S9), (hA8.same S9).mono (by omega)⟩
    · rintro σ H4 ⟨y6, y7, y8, rfl, X4, hA4⟩
      have sN := keepN Np b3 X4
      refine ⟨vp, rfl, vn, rfl, by show 2 ≤ sizeLine; decide, fun q2 n2 => ?_⟩
      have s2 := same_new (o := .tup [vp, vn]) n2
      refine ⟨.ref q2, both rs nm, rfl, dt_both upd_same (Dt.same (sN.trans s2) _ _ hpN) (Dt.same (sN.trans s2) _ _ hnN), bf.sh, bf.d60, bf.sz, ?_⟩
      refine ⟨.str (both rs nm).shown, rfl, rfl, ?_⟩
      rw [decide_eq_true rfl]
      rw [List.length_map] at hA4
      exact q _ ((SameX.of (SH.trans S3)).trans (X4.trans (.of s2))) ((hA4.same s2).mono (by omega))
end
end K05
set_option Elab.async false
set_option linter.all false
set_option maxRecDepth 100000
set_option maxHeartbeats 1000000
namespace K05
open PySem PySem.Spec PyProof.Rows L2
theorem cutNat (xs : List V) {i : Nat} (h : i ≤ xs.length) : cutV xs none (some (i : Int)) = xs.take i := cut_take xs h
abbrev lawN : List Str := ["_law_script", "_law_k", "_law_hand_here", "_law_turn", "_law_is_great", "_law_program_here", "_law_names", "_law_naming", "_law_once", "_law_part"]
theorem scLaw : FnScope lawN ["_law_script"] (defScope slaw) := ⟨rfl, rfl, rfl, by decide +kernel, rfl, by decide +kernel, by decide +kernel⟩
def spLaw (K : PySem.W.Frag) : Sp := fun vs H Q _ => ∃ (a : Addr) (ns : List Int), vs = [.ref a] ∧ SqL K H a (ns.map V.int) ∧ ∀ H', Q (.bl true) H'
def tPr (K : PySem.W.Frag) : TE := fun σ H Q => ∃ (p : Addr) (b : Bool) (T : Int), σ[2]? = some (some (.ref p)) ∧ σ[4]? = some (some (.bl b)) ∧ HandAt H p T ∧ T ≤ 90000 ∧
  ∀ H' v rs, SameX p H H' → HandAt H' p (T + 400) → PWf rs → UWf rs → Dt K H' (pd rs) v → Q v H'
section
variable {P : Program} {w : World} {K : PySem.W.Frag} {mg : Str → Option Value} {base : Heap}
theorem ok_law {f fR fHd fG fW fN fC fKS fDe fE fL fTb fT fP fH fO : Addr} {fd fdR fdHd fdG fdW fdN fdC fdKS fdDe fdE fdL fdTb fdT fdP fdH fdO : FuncData} (T : TxtN K mg fW fN fdW fdN) (U : TxtL K mg fC fKS fDe fE fL fTb fT fP fdC fdKS fdDe fdE fdL fdTb fdT fdP)
    (TG : TxtG K mg fT fP fH fO fdT fdP fdH fdO) (F : FnP K "law" slaw f fd) (FR : FnP K "_law_right" s_law_right fR fdR) (gR : mg "_law_right" = some (.ref fR)) (FHd : FnP K "_law_hand" s_law_hand fHd fdHd) (gHd : mg "_law_hand" = some (.ref fHd))
    (FG : FnP K "_law_program" s_law_program fG fdG) (gG : mg "_law_program" = some (.ref fG)) (ma : mg "abs" = none) (mn : mg "min" = none) (hsy : SysK K) : FnG P w K mg base CX0 7 f fd ["_law_script"] (spLaw K) := by
  have GR : FnG P w K mg base CX0 6 fR fdR ["_law_hand_here", "_law_program_here", "_law_naming"] (spRight K) := ok_right T U FR hsy
  have GHd : FnOk P w K mg base CX0 1 fHd fdHd ["_law_script", "_law_k"] (spHand K) := ok_hand FHd T.ml ma T.mi
  have GT : FnOk P w K mg base CX0 1 fT fdT ["_law_hand_here", "_law_many"] spTake := ok_take TG.FT
  have GP : FnOk P w K mg base CX0 2 fP fdP ["_law_hand_here", "_law_items"] (spPick K) := ok_pick U.FP U.FT U.gT T.ml
  have GG : FnOk P w K mg base CX0 3 fG fdG ["_law_hand_here", "_law_most_scopes", "_law_most_declared", "_law_most_uses"] (spProg K) := ok_prog TG FG
  have bR : Binds K fdR ["_law_hand_here", "_law_program_here", "_law_naming"] [] := FR.bindsN fun _ _ _ _ _ _ us hl => match us, hl with | [_, _, _], _ => rfl
  have bHd : Binds K fdHd ["_law_script", "_law_k"] [] := FHd.bindsN fun _ _ _ _ _ _ us hl => match us, hl with | [_, _], _ => rfl
  have bT : Binds K fdT ["_law_hand_here", "_law_many"] [] := TG.FT.bindsN fun _ _ _ _ _ _ us hl => match us, hl with | [_, _], _ => rfl
  have bP : Binds K fdP ["_law_hand_here", "_law_items"] [] := U.FP.bindsN fun _ _ _ _ _ _ us hl => match us, hl with | [_, _], _ => rfl
  have bG : Binds K fdG ["_law_hand_here", "_law_most_scopes", "_law_most_declared", "_law_most_uses"] [] := FG.bindsN fun _ _ _ _ _ _ us hl => match us, hl with | [_, _, _, _], _ => rfl
  refine F.okG scLaw (fun vs H Q E h => ?_) (fun cdv A outer s H vs Q E hr hgd h => ?_)
  · obtain ⟨a, ns, rfl, _⟩ := h
    rfl
  · obtain ⟨a, ns, rfl, hS, q⟩ := h
    have nd := scLaw.nd
    have hr1 : Room 1 _ := hr.mono (by decide)
    have hr2 : Room 2 _ := hr.mono (by decide)
    have hr3 : Room 3 _ := hr.mono (by decide)
    have pr : ∀ (σ : L2.St) (H : Hp) (Q : VK), tPr K σ H Q → (tIf (tB (tVar 4)) (tCall (spProg K) [] E0 (tCons (tVar 2) (tCons (tC (.int 40)) (tCons (tC (.int 60)) (tCons (tC (.int 4)) tNil))))) (tCall (spProg K) [] E0 (tCons (tVar 2) (tCons (tC (.int 8)) (tCons (tC (.int 12)) (tCons (tC (.int 4)) tNil)))))) σ H Q := by
      rintro σ H Q ⟨p, b, T0, s2, s4, hA, hT, q⟩
      refine ⟨.bl b, s4, b, rfl, ?_⟩
      cases b
      · exact iteF ⟨.ref p, s2, p, 8, 12, 4, T0, rfl, hA, by omega, by decide, by decide, by decide, by decide, by decide, by decide, fun H' v rs sx A' wf uw _ _ dt => q H' v rs sx A' wf uw dt⟩
      · exact iteT ⟨.ref p, s2, p, 40, 60, 4, T0, rfl, hA, by omega, by decide, by decide, by decide, by decide, by decide, by decide, fun H' v rs sx A' wf uw _ _ dt => q H' v rs sx A' wf uw dt⟩
    refine ⟨_, PSs.nox (pss_cons (ps_for PassesOwn.never rfl (pi_range1 (by rfl) T.mr (pa_cons (pe_callB (call_max2 rfl) (by rfl) T.mx (by decide +kernel) (pa_cons pe_int (pa_cons (pe_callB (call_min2 rfl) (by rfl) mn (by decide +kernel) (pa_cons pe_int (pa_cons (pe_callB call_len_seq (by rfl) T.ml PySem.boot_len (pa_cons (pv 0) pa_nil)) pa_nil))) pa_nil))) pa_nil)) (pg_name (i := 1) nd rfl (.inl rfl)) (pss_cons (ps_set (i := 2) nd rfl (.inr rfl) (pe_call GHd hr1 (by rfl) gHd FHd.kp bHd .nil pass0 (pa_cons (pv 0) (pa_cons (pv 1) pa_nil))))
      (pss_one (ps_for PassesOwn.never rfl (pi_range1 (by rfl) T.mr (pa_cons pe_int pa_nil)) (pg_name (i := 3) nd rfl (.inl rfl)) (pss_cons (ps_set (i := 4) nd rfl (.inl rfl) (pe_and (pe_cmpR op_eq (pv 3) pe_int (nomark _)) (pe_one (pe_cmpR op_eq (pv 1) pe_int (nomark _)))))
      (pss_cons (ps_set (i := 5) nd rfl (.inl rfl) (peI (pe_ifExp (pt_val (pv 4)) (pe_call GG hr3 (by rfl) gG FG.kp bG .nil pass0 (pa_cons (pv 2) (pa_cons pe_int (pa_cons pe_int (pa_cons pe_int pa_nil))))) (pe_call GG hr3 (by rfl) gG FG.kp bG .nil pass0 (pa_cons (pv 2) (pa_cons pe_int (pa_cons pe_int (pa_cons pe_int pa_nil)))))) pr))
      (pss_cons (ps_set (i := 6) nd rfl (.inr rfl) (pe_slice sl_list (pe_lst (pa_cons pe_str (pa_cons pe_str (pa_cons pe_str (pa_cons pe_str pa_nil))))) po_none (po_some (pe_op op_add pe_int (pe_call GT hr1 (by rfl) TG.gT TG.FT.kp bT .nil pass0 (pa_cons (pv 2) (pa_cons pe_int pa_nil)))))))
      (pss_cons (ps_set (i := 7) nd rfl (.inl rfl) (pe_callTy call_tuple_of (by rfl) T.mt (by decide +kernel) (pa_cons (pe_lc (own := [("_law_once", 8)]) (g := gName 8) (tt := tYes) (te := tCall (spPick K) [] E0 (tCons (tVar 2) (tCons (tVar 6) tNil))) rfl nd (pi_range1 (by rfl) T.mr (pa_cons (pe_callB (cr_sum rfl) (by rfl) T.mu (by decide +kernel) (pa_cons (pe_lc (own := [("_law_part", 9)]) (g := gName 9) (tt := tYes) (te := tOp (rIxT K) (tVar 9) (tC (.int 1))) rfl nd (pi_tup (pv 5)) (blkOk_by (N := lawN) (sc := defScope slaw) (by decide +kernel)) (fun _ _ _ _ _ => pg_name (i := 9) nd rfl (Or.inl rfl)) (fun _ _ _ _ _ => pts_nil) (fun _ _ _ _ _ => (pe_ix ix_tup (pv 9) pe_int (fun _ _ => rfl)))) pa_nil)) pa_nil)) (blkOk_by (N := lawN) (sc := defScope slaw) (by decide +kernel)) (fun _ _ _ _ _ => pg_name (i := 8) nd rfl (Or.inl rfl)) (fun _ _ _ _ _ => pts_nil) (fun _ _ _ _ _ => (pe_call GP hr2 (by rfl) U.gP U.FP.kp bP .nil pass0 (pa_cons (pv 2) (pa_cons (pv 6) pa_nil))))) pa_nil)))
      (pss_one (ps_if (pt_not (pt_val (pe_callG GR hr hgd (by rfl) gR FR.kp bR pass0 (pa_cons (pv 2) (pa_cons (pv 5) (pa_cons (pv 7) pa_nil)))))) (pss_one (ps_ret pe_bl)) pss_nil))))))))))
      (pss_one (ps_ret pe_bl))), ?_⟩
    have hJ : ∀ x : Int, 0 ≤ x → (1 ≤ (if (if x < 3 then x else 3) > 1 then (if x < 3 then x else 3) else 1) ∧ (if (if x < 3 then x else 3) > 1 then (if x < 3 then x else 3) else 1) ≤ 3) := by
      intro x h0
      by_cases c : x < 3
      · rw [if_pos c]
        by_cases c2 : x > 1
        · rw [if_pos c2]
          omega
        · rw [if_neg c2]
          omega
      · rw [if_neg c, if_pos (by decide)]
        omega
    obtain ⟨j0, j1⟩ := hJ ((ns.map V.int).length : Int) (by omega)
    refine ⟨.ref a, rfl, a, _, rfl, .inl hS, 3, _, rfl, 1, _, rfl, _, rfl, by omega, by omega, ?_⟩
    refine for_range (lo := 0) (fun i σ G' => ∃ y1 y2 y3 y4 y5 y6 y7, σ = [some (.ref a), y1, y2, y3, y4, y5, y6, y7, none, none] ∧ Same H G') ⟨_, _, _, _, _, _, _, rfl, Same.refl H⟩ ?_ ?_
    · rintro i σ G1 hi ⟨y1, y2, y3, y4, y5, y6, y7, rfl, S1⟩
      refine ⟨.ref a, rfl, .int (0 + i), rfl, a, 0 + i, ns, rfl, S1.seq hS, by omega, by omega, fun p L np hL => ?_⟩
      have A1 : HandAt (L2.upd G1 p (.lst L)) p 0 := ⟨L, upd_same, hL⟩
      have fr : ∀ {H' : Hp}, SameX p (L2.upd G1 p (.lst L)) H' → Same G1 H' := fun sx b o z => sx b o (ne_of_none z np) (by rw [upd_ne (ne_of_none z np)]; exact z)
      generalize L2.upd G1 p (.lst L) = G2 at A1 fr ⊢
      refine ⟨5, rfl, by decide, by decide, ?_⟩
      refine for_range (lo := 0) (n := 5) (fun t σ H' => ∃ z3 z4 z5 z6 z7, σ = [some (.ref a), some (.int (0 + (i : Int))), some (.ref p), z3, z4, z5, z6, z7, none, none] ∧ SameX p G2 H' ∧ HandAt H' p (700 * t)) ⟨_, _, _, _, _, rfl, .of (Same.refl G2), A1.mono (by omega)⟩ ?_ ?_
      · rintro t σ H1 ht ⟨z3, z4, z5, z6, z7, rfl, X1, hA1⟩
        -- is it great
        have great : ∀ (Q : VK), (∀ b, Q (.bl b) H1) → (tAndV (tOp rEq (tVar 3) (tC (.int 4))) (tOp rEq (tVar 1) (tC (.int 0)))) [some (.ref a), some (.int (0 + (i : Int))), some (.ref p), some (.int (0 + (t : Int))), z4, z5, z6, z7, none, none] H1 Q := by
          intro Q q
          refine ⟨.int (0 + t), rfl, rfl, _, rfl, ite2 (fun c => ?_) (fun c => ?_)⟩
          · exact ⟨.int (0 + i), rfl, rfl, q _⟩
          · exact q _
        refine great _ fun b => ?_
        refine ⟨p, b, _, rfl, rfl, hA1, by omega, fun H2 vp rs sx2 hA2 wf uw hp2 => ?_⟩
        have uf := uw.fit wf
        have hl := wf.len
        have htot := wf.tot
        have sum0 : 0 ≤ (cnts rs).sum := by
          have z := (sum_take_le (l := cnts rs) (cnts rs).length wf.nn).1
          rw [List.take_length] at z
          exact z
        -- the names
        refine ⟨by show 4 ≤ sizeLine; decide, fun l0 n0 => ?_⟩
        have S3 := same_new (o := .lst [.str "a", .str "b", .str "c", .str "d"]) n0
        have hA3 := hA2.same S3
        refine ⟨.ref p, rfl, p, 4, _, rfl, hA3, by omega, by decide, by decide, fun H4 d sx4 hA4 d0 d1 => ?_⟩
        refine ⟨1, d, rfl, rfl, 1 + d, rfl, ?_⟩
        have lp : l0 ≠ p := hA2.ne n0
        have e4 : H4 l0 = some (.lst (abcd.map V.str)) := sx4 _ _ lp upd_same
        refine ⟨l0, _, rfl, .of e4, fun ln nln => ?_⟩
        obtain ⟨k, ek⟩ : ∃ k : Nat, 1 + d = (k : Int) := ⟨(1 + d).toNat, by omega⟩
        rw [ek, cutNat _ (by show k ≤ 4; omega), ← List.map_take]
        have k1 : 1 ≤ k := by omega
        have S5 := same_new (o := .lst ((abcd.take k).map V.str)) nln
        have e5 := upd_same (H := H4) (a := ln) (o := .lst ((abcd.take k).map V.str))
        have X5 : SameX p H2 (L2.upd H4 ln (.lst ((abcd.take k).map V.str))) := (SameX.of S3).trans (sx4.trans (.of S5))
        have hA5 := hA4.same S5
        have lnp : ln ≠ p := hA4.ne nln
        generalize L2.upd H4 ln (.lst ((abcd.take k).map V.str)) = H5 at e5 X5 hA5 ⊢
        obtain ⟨L2', eL2⟩ := hA2.lst
        have hp5 := pd_keep eL2 X5 hp2
        -- the counts
        obtain ⟨g, xs, rfl, hq, hds, hxl⟩ := prog_at hp5
        refine ⟨.ref g, rfl, g, rfl, ⟨xs, hq⟩, fun D nD => ?_⟩
        refine lc_tup (K := K) (a := g) (xs := xs) (fun j H' => Same H5 H' ∧ H' D = some (.lst (((cnts rs).take j).map V.int))) ⟨same_new nD, upd_same⟩ (fun j H' _ ⟨s', _⟩ => s'.sqT hq) ?_ ?_
        · rintro j x H' hx ⟨S, e⟩
          have hj : j < rs.length := by
            rw [← hxl]
            exact (List.getElem?_eq_some_iff.mp hx).1
          obtain ⟨b, u, hb, qb, _⟩ := row_at (Dts.same S _ _ hds) (List.getElem?_eq_getElem hj)
          rw [hx] at hb
          cases hb
          refine ⟨rfl, .ref b, rfl, b, _, 1, _, rfl, rfl, qb, rfl, _, e, ?_, fun b o z => ?_, ?_⟩
          · rw [List.length_map, List.length_take]
            exact Nat.lt_of_le_of_lt (Nat.min_le_left _ _) (small1000 (by omega))
          · rw [upd_ne (ne_of_none z nD)]
            exact S _ _ z
          · rw [upd_same, List.take_add_one, List.getElem?_map, List.getElem?_eq_getElem hj, List.map_append]
            rfl
        rintro H6 ⟨S6, e6⟩
        rw [hxl, show rs.length = (cnts rs).length by rw [List.length_map], List.take_length] at e6
        refine ⟨D, _, rfl, .of e6, _, rfl, by omega, by omega, fun D2 nD2 => ?_⟩
        have hA6 := hA5.same S6
        have D2p : D2 ≠ p := hA6.ne nD2
        -- the naming
        refine lc_range (lo := 0) (n := (cnts rs).sum.toNat) (fun j H' => ∃ ys : List Str, SameX p H6 H' ∧ HandAt H' p (700 * t + 400 + 1 + j) ∧ H' D2 = some (.lst (ys.map V.str)) ∧ ys.length = j ∧ ∀ y ∈ ys, y ∈ abcd)
          ⟨[], .of (same_new nD2), (hA6.same (same_new nD2)).mono (by omega), upd_same, rfl, fun y hy => nomatch hy⟩ ?_ ?_
        · rintro j H' hj ⟨ys, SX, HA, eD, yl, yok⟩
          refine ⟨rfl, .ref p, rfl, .ref ln, rfl, p, ln, _, (abcd.take k).map V.str, rfl, HA, by omega, .of (SX _ _ lnp (S6 _ _ e5)), fun z => ?_, ?_, lnp, fun H'' x sx3 A3 hx => ?_⟩
          · have z := congrArg List.length z
            rw [List.length_map, List.length_take] at z
            have z : min k 4 = 0 := z
            omega
          · rw [List.length_map, List.length_take]
            exact Nat.lt_of_le_of_lt (Nat.min_le_right _ _) (by decide)
          · obtain ⟨y, hy, rfl⟩ := List.mem_map.mp hx
            refine ⟨_, sx3 _ _ D2p eD, by rw [List.length_map, yl]; exact small1000 (by omega), ys ++ [y], fun b o nb z => ?_, ?_, ?_, by rw [List.length_append, yl]; rfl, fun u hu => ?_⟩
            · rw [upd_ne (ne_of_none z nD2)]
              exact sx3 _ _ nb (SX _ _ nb z)
            · exact (A3.upd (Ne.symm D2p)).mono (by omega)
            · rw [upd_same, List.map_append]
              rfl
            · rcases List.mem_append.mp hu with z | z
              · exact yok u z
              · rw [List.mem_singleton.mp z]
                exact List.mem_of_mem_take hy
        · rintro H7 ⟨ys, SX, HA, eD, yl, yok⟩
          refine ⟨D2, _, rfl, .inl ⟨.of eD, fun ln2 nln2 => ?_⟩⟩
          have S8 := same_new (o := .tup (ys.map V.str)) nln2
          obtain ⟨L6, eL6⟩ := hA6.lst
          have hp8 : Dt K (L2.upd H7 ln2 (.tup (ys.map V.str))) (pd rs) (.ref g) := Dt.same S8 _ _ (pd_keep eL6 SX (Dt.same S6 _ _ hp5))
          have hn8 : Dt K (L2.upd H7 ln2 (.tup (ys.map V.str))) (.tuple (ys.map PyData.str)) (.ref ln2) := by
            unfold Dt
            exact ⟨ln2, _, rfl, .of upd_same, dts_strs ys⟩
          have hA8 := HA.same S8
          have X8 : SameX p G2 (L2.upd H7 ln2 (.tup (ys.map V.str))) := X1.trans (sx2.trans (X5.trans ((SameX.of S6).trans (SX.trans (.of S8)))))
          generalize L2.upd H7 ln2 (.tup (ys.map V.str)) = H8 at hp8 hn8 hA8 X8 ⊢
          refine ⟨.ref p, rfl, .ref g, rfl, .ref ln2, rfl, p, .ref g, .ref ln2, rs, ys, _, rfl, hA8, by omega, hp8, wf, uf, hn8, by omega, yok, fun H9 sx9 hA9 => ?_⟩
          refine ⟨true, rfl, iteF ?_⟩
          exact ⟨_, _, _, _, _, rfl, X8.trans sx9, hA9.mono (by omega)⟩
      · rintro σ H1 ⟨z3, z4, z5, z6, z7, rfl, X1, hA1⟩
        exact ⟨_, _, _, _, _, _, _, rfl, S1.trans (fr X1)⟩
    · rintro σ G1 ⟨y1, y2, y3, y4, y5, y6, y7, rfl, S1⟩
      exact q _
end
end K05
set_option Elab.async false
set_option linter.all false
set_option maxRecDepth 100000
set_option maxHeartbeats 4000000
namespace K05
open PySem PySem.Spec PyProof.Rows L2
theorem facts {P : Program} {w : World} {K : PySem.W.Frag} {h : Heap} {mg : Str → Option Value} {f : Addr} (X : K.In h) (G : h.Ns mainGlobals mg) (hfa : mg ("law" : Str) = some (.ref f)) (c : SaysY fa fn ex K) :
    ∃ fd : FuncData, (∀ (s : Shared) (v : Value), BindsTo s fd ⟨[v], []⟩ [("_law_script", v)]) ∧ ∀ base : Heap, K.In base → base.Ns mainGlobals mg → FnG P w K mg base CX0 7 f fd ["_law_script"] (spLaw K) := by
  obtain ⟨fd0, F0⟩ := c.d.def_ 0 (d := dD "is_whole" 6) rfl
  obtain ⟨fd1, F1⟩ := c.d.def_ 1 (d := dD "is_number_below" 7) rfl
  obtain ⟨fd2, F2⟩ := c.d.def_ 2 (d := dD "check_scope" 8) rfl
  obtain ⟨fd3, F3⟩ := c.d.def_ 3 (d := dD "declaration_count" 9) rfl
  obtain ⟨fd4, F4⟩ := c.d.def_ 4 (d := dD "declarations_of" 10) rfl
  obtain ⟨fd5, F5⟩ := c.d.def_ 5 (d := dD "enclosing_scopes" 11) rfl
  obtain ⟨fd6, F6⟩ := c.d.def_ 6 (d := dD "look_up" 13) rfl
  obtain ⟨fd7, F7⟩ := c.d.def_ 7 (d := dD "_law_hand" 15) rfl
  obtain ⟨fd8, F8⟩ := c.d.def_ 8 (d := dD "_law_take" 16) rfl
  obtain ⟨fd9, F9⟩ := c.d.def_ 9 (d := dD "_law_pick" 17) rfl
  obtain ⟨fd10, F10⟩ := c.d.def_ 10 (d := dD "_law_program" 18) rfl
  obtain ⟨fd11, F11⟩ := c.d.def_ 11 (d := dD "_law_home" 19) rfl
  obtain ⟨fd12, F12⟩ := c.d.def_ 12 (d := dD "_law_outward" 20) rfl
  obtain ⟨fd13, F13⟩ := c.d.def_ 13 (d := dD "_law_tables" 21) rfl
  obtain ⟨fd14, F14⟩ := c.d.def_ 14 (d := dD "_law_right" 22) rfl
  obtain ⟨fd15, F15⟩ := c.d.def_ 15 (d := dD "law" 23) rfl
  have e := hfa.symm.trans (He.glo_ok X G (c.d.fact 15 (f := .glo "law") rfl))
  cases e
  have b := FunD.bindsA (ps := ["_law_script"]) F15 fun _ _ _ _ _ _ us hl => match us, hl with | [_], _ => rfl
  have TN : TxtN K mg _ _ _ _ := { FW := F0, FN := F1, gW := (He.glo_ok X G (c.d.fact 0 (f := .glo "is_whole") rfl)), gN := (He.glo_ok X G (c.d.fact 1 (f := .glo "is_number_below") rfl)), ms := (He.free_ok X G (c.d.fact 22 (f := .free "isinstance") rfl)), mi := (He.free_ok X G (c.d.fact 17 (f := .free "int") rfl)), mb := (He.free_ok X G (c.d.fact 23 (f := .free "bool") rfl)), ml := (He.free_ok X G (c.d.fact 18 (f := .free "len") rfl)), mr := (He.free_ok X G (c.d.fact 19 (f := .free "range") rfl)), mu := (He.free_ok X G (c.d.fact 25 (f := .free "sum") rfl)), mt := (He.free_ok X G (c.d.fact 24 (f := .free "tuple") rfl)), mx := (He.free_ok X G (c.d.fact 20 (f := .free "max") rfl)), gC := (He.int_ok X G (c.d.fact 33 (f := .int "COUNT" 1) rfl)), gP := (He.int_ok X G (c.d.fact 32 (f := .int "PARENT" 0) rfl)) }
  have TL : TxtL K mg _ _ _ _ _ _ _ _ _ _ _ _ _ _ _ _ := { FC := F3, FKS := F2, FDe := F4, FE := F5, FL := F6, FTb := F13, FT := F8, FP := F9, gC := (He.glo_ok X G (c.d.fact 3 (f := .glo "declaration_count") rfl)), gKS := (He.glo_ok X G (c.d.fact 2 (f := .glo "check_scope") rfl)), gDe := (He.glo_ok X G (c.d.fact 4 (f := .glo "declarations_of") rfl)), gE := (He.glo_ok X G (c.d.fact 5 (f := .glo "enclosing_scopes") rfl)), gL := (He.glo_ok X G (c.d.fact 6 (f := .glo "look_up") rfl)), gTb := (He.glo_ok X G (c.d.fact 13 (f := .glo "_law_tables") rfl)), gT := (He.glo_ok X G (c.d.fact 8 (f := .glo "_law_take") rfl)), gP := (He.glo_ok X G (c.d.fact 9 (f := .glo "_law_pick") rfl)), mst := (He.free_ok X G (c.d.fact 31 (f := .free "str") rfl)), mdi := (He.free_ok X G (c.d.fact 29 (f := .free "dict") rfl)), mli := (He.free_ok X G (c.d.fact 30 (f := .free "list") rfl)), mp := (He.free_ok X G (c.d.fact 28 (f := .free "repr") rfl)), me := (He.free_ok X G (c.d.fact 27 (f := .free "enumerate") rfl)) }
  have TG : TxtG K mg _ _ _ _ _ _ _ _ := { FT := F8, FP := F9, FH := F11, FO := F12, gT := (He.glo_ok X G (c.d.fact 8 (f := .glo "_law_take") rfl)), gP := (He.glo_ok X G (c.d.fact 9 (f := .glo "_law_pick") rfl)), gH := (He.glo_ok X G (c.d.fact 11 (f := .glo "_law_home") rfl)), gO := (He.glo_ok X G (c.d.fact 12 (f := .glo "_law_outward") rfl)), ml := (He.free_ok X G (c.d.fact 18 (f := .free "len") rfl)), mr := (He.free_ok X G (c.d.fact 19 (f := .free "range") rfl)), mi := (He.free_ok X G (c.d.fact 17 (f := .free "int") rfl)), mu := (He.free_ok X G (c.d.fact 25 (f := .free "sum") rfl)), mt := (He.free_ok X G (c.d.fact 24 (f := .free "tuple") rfl)), md := (He.free_ok X G (c.d.fact 26 (f := .free "sorted") rfl)) }
  exact ⟨fd15, fun s v => b s [v] rfl, fun base _ _ => ok_law TN TL TG F15 F14 (He.glo_ok X G (c.d.fact 14 (f := .glo "_law_right") rfl)) F7 (He.glo_ok X G (c.d.fact 7 (f := .glo "_law_hand") rfl)) F10 (He.glo_ok X G (c.d.fact 10 (f := .glo "_law_program") rfl)) (He.free_ok X G (c.d.fact 16 (f := .free "abs") rfl)) (He.free_ok X G (c.d.fact 21 (f := .free "min") rfl)) c.sys⟩
end K05
open PySem PySem.W PySem.Calls PyProof.Rows
set_option maxRecDepth 100000 in
set_option maxHeartbeats 8000000 in
theorem PySem.Challenge.cw_renamesteps_k05_lookups_holds : PySem.Challenge.rw_renamesteps_k05_lookups.Holds := by
  w_on; o_law
  refine HandSHeadRun.head_any (r := OpenLaw.row PySem.Challenge.rw_renamesteps_k05_lookups) (q := view (OpenLaw.row PySem.Challenge.rw_renamesteps_k05_lookups).prog [23]) (H := K05.hk) (ob := K05.ob) (M := 8000) (loose := K05.loose)
    (d := HandSHeadRun.topDef (OpenLaw.row PySem.Challenge.rw_renamesteps_k05_lookups).prog 23) (kwd := []) K05.ob_eq
    (by kernel_rfl) (fun s => by kernel_rfl) K05.run (by kernel_rfl) (by kernel_rfl) (by kernel_rfl) (by rfl) (by first | assumption | decide +kernel) (by decide +kernel) ⟨rfl, rfl, rfl, rfl, rfl, by decide +kernel⟩ ?hw ?hc
  case hw => w_witness2
  case hc =>
    refine L2.walkG (l := PySem.Challenge.rw_renamesteps_k05_lookups) (n := 63) (k := 7) (x := "_law_script") (CX := L2.CX0) rfl (by decide) (by kernel_rfl) ⟨rfl, by decide, by decide⟩ ?F (fun _ _ _ _ z => z)
    intro w mg fa h Y G hmg0
    obtain ⟨K, KX, c⟩ := Y
    have hmg : mg ("law" : PySem.Str) = some (.ref fa) := by
      have e : (HandSHeadRun.topDef (OpenLaw.row PySem.Challenge.rw_renamesteps_k05_lookups).prog 23).name = ("law" : PySem.Str) := by kernel_rfl
      rw [← e]
      exact hmg0
    obtain ⟨fd, hb, hF⟩ := K05.facts (P := (PySem.Challenge.rw_renamesteps_k05_lookups).prog) (w := w) KX G hmg c
    exact ⟨K, fd, K05.spLaw K, KX, hb, fun H a ns hl hS => ⟨a, ns, rfl, hS, fun _ => rfl⟩, hF⟩
